/- Comparing two stamps in one operation: whether all their parts are the same. -/
import Derived.Test.YtignhpobeemjhaaDoorSt
import Derived.Test.YtignhpobeemjhaaDoorRegion
namespace Go.Proofs.YtignhpobeemjhaaDoor
open Go.RowKit

theorem eq_st {a b c x y z : Int} {i j : Tmp} {d : Option Tmp} {ty t' : TypeId} {pos : String} {after : Array Edge} {guard : Option (Nat × Bool)} {F : Act} {w : World} {K : Act → World → Prop} {Q : Exit → Act → World → Prop}
    (hi : F.eval (.tmp i) = .agg #[.int .i64 a, .int .u32 b, .int .u32 c]) (hj : F.eval (.tmp j) = .agg #[.int .i64 x, .int .u32 y, .int .u32 z])
    (hK : K (F.put d (.bool (decide (a = x ∧ b = y ∧ c = z)))) w) :
    Oper.wp Tryd.prog { dst := d, op := .binOp .eql 25 (.tmp i) (.tmp j) t', type := ty, pos := pos, after := after, guard := guard } F w K Q := by
  have run : (execOp F.eval { dst := d, op := .binOp .eql 25 (.tmp i) (.tmp j) t', type := ty, pos := pos, after := after, guard := guard }).run Tryd.prog w = .ok (.value (.bool (decide (a = x ∧ b = y ∧ c = z)))) w := by
    simp only [execOp, hi, hj]
    by_cases h1 : a = x
    · subst h1
      by_cases h2 : b = y
      · subst h2
        by_cases h3 : c = z
        · subst h3; simp [go_sem]
        · have h3' : (c == z) = false := by simpa using h3
          simp [go_sem, h3', h3]
      · have h2' : (b == y) = false := by simpa using h2
        simp [go_sem, h2', h2]
    · have h1' : (a == x) = false := by simpa using h1
      simp [go_sem, h1', h1]
  unfold Oper.wp
  rw [run]
  exact hK

end Go.Proofs.YtignhpobeemjhaaDoor
