/- The table of widths in the memory that a row of the door speaks of. -/
import Derived.Test.YtojkbndaleiaaaaDoorCards
import Derived.Test.YtojkbndaleiaaaaDoorTie
import Derived.Test.YtojkbndaleiaaaaDoorPut
import Derived.Test.YtojkbndaleiaaaaDoorRow
import Derived.WalkKit
import Derived.Deep.DeepHandedRow
import Derived.Lib.LaidTab
import Derived.Lib.SmallJoins
namespace Go.Proofs.YtojkbndaleiaaaaDoor
open Go.ChangeShapes Go.WideShapes Go.ChangeAt Go.RowKit Go.Joins

theorem gWid : Tryd.prog.globalNamed "slackwater/stamp.widths" = some 0 := by kernel_rfl
theorem gWidType : (Tryd.prog.globals[0]?).map (·.type) = some 82 := by kernel_rfl
theorem cellsWid : Tryd.prog.cellsOf 82 = 3 := by kernel_rfl
theorem cellsInt : Tryd.prog.cellsOf 3 = 1 := by kernel_rfl
theorem wid_of {W : World} {rest : List (String × DataW Unit)} (h : laidMet Tryd.prog (("slackwater/stamp.widths", Lib.tabData .i64 [8, 4, 4]) :: rest) W) : Wid W := by
  have ht : Lib.TabIs Tryd.prog W "slackwater/stamp.widths" .i64 [8, 4, 4] := Lib.tabIs_of_head gWid gWidType Tryd.underlying82 Tryd.underlying3 cellsInt cellsWid h
  exact ⟨ht.cell gWid 0 (by decide), ht.cell gWid 1 (by decide), ht.cell gWid 2 (by decide)⟩

/-- A world for the witness: the settled one, the table holding its numbers. -/
noncomputable def laidWorld (os : Os) : World :=
  { World.holding Tryd.prog os ⟨#[], #[], []⟩ with heap := (World.holding Tryd.prog os ⟨#[], #[], []⟩).heap.modify 0 fun
      | .cells _ t frozen => .cells #[.int .i64 8, .int .i64 4, .int .i64 4] t frozen
      | o => o }

theorem cellsSt : Tryd.prog.cellsOf 37 = 3 := by kernel_rfl
set_option maxRecDepth 100000 in
theorem open_st {H : Type} {enc : TypeId × Value → H} {W : World} {base : Nat} {v : Value} {d : DataW H} {p : List MemPlace}
    (hv : Value.okWide Tryd.prog W .any base 37 v) (h : DataW.Trod enc Tryd.prog W 0 (fun _ => true) true 37 v d p) :
    ∃ a b c : Int, v = .agg #[.int .i64 a, .int .u32 b, .int .u32 c] ∧ (-9223372036854775808 ≤ a ∧ a ≤ 9223372036854775807) ∧ (0 ≤ b ∧ b ≤ 4294967295) ∧ (0 ≤ c ∧ c ≤ 4294967295) := by
  obtain ⟨c0, c1, c2, y0, y1, y2, m, rfl, rfl, rfl, hy0, hy1, hy2⟩ := open_agg3 Tryd.underlying37 (by kernel_rfl) cellsSt hv h
  obtain ⟨a, e0, rfl, wa⟩ := DataW.trod_int Tryd.underlying2 hy0
  obtain ⟨b, e1, rfl, wb⟩ := DataW.trod_int Tryd.underlying35 hy1
  obtain ⟨c, e2, rfl, wc⟩ := DataW.trod_int Tryd.underlying35 hy2
  simp at e0 e1 e2
  subst e0 e1 e2
  have ba : -9223372036854775808 ≤ a ∧ a ≤ 9223372036854775807 := by simpa [Lit.wf, IntKind.min, IntKind.max, IntKind.signed, IntKind.bits] using wa
  have bb : 0 ≤ b ∧ b ≤ 4294967295 := by simpa [Lit.wf, IntKind.min, IntKind.max, IntKind.signed, IntKind.bits] using wb
  have bc : 0 ≤ c ∧ c ≤ 4294967295 := by simpa [Lit.wf, IntKind.min, IntKind.max, IntKind.signed, IntKind.bits] using wc
  exact ⟨a, b, c, rfl, ba, bb, bc⟩
end Go.Proofs.YtojkbndaleiaaaaDoor
