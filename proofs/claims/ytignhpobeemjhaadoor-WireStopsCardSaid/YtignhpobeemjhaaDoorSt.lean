/- The contracts of the stamp functions that this seat has. -/
import Derived.Test.YtignhpobeemjhaaDoorRows
import Derived.Test.YtignhpobeemjhaaDoorBase
namespace Go.Proofs.YtignhpobeemjhaaDoor
open Go.RowKit

abbrev stv (a b c : Int) : Value := .agg #[.int .i64 a, .int .u32 b, .int .u32 c]

set_option maxHeartbeats 400000 in
theorem to_any (a b c : Int) (w : World) :
    Calls Tryd.prog 10 #[.agg #[.int .i64 a, .int .u32 b, .int .u32 c]] w fun e w' => e = .returned (.agg #[.int .i64 a, .int .u32 b, .int .u32 c]) ∧ Below w.heap.size w w' := by
  go_enter Tryd.func10, Tryd.ntmps10
  go_wp2
  exact bodyPost_ret (v := .agg #[.int .i64 a, .int .u32 b, .int .u32 c]) (by simp [results, Tryd.results10, go_sem]) rfl ⟨rfl, by go_grown⟩

set_option maxHeartbeats 400000 in
theorem from_any (a b c : Int) (w : World) :
    Calls Tryd.prog 19 #[.agg #[.int .i64 a, .int .u32 b, .int .u32 c]] w fun e w' => e = .returned (.agg #[.int .i64 a, .int .u32 b, .int .u32 c]) ∧ Below w.heap.size w w' := by
  go_enter Tryd.func19, Tryd.ntmps19
  go_wp2
  exact bodyPost_ret (v := .agg #[.int .i64 a, .int .u32 b, .int .u32 c]) (by simp [results, Tryd.results19, go_sem]) rfl ⟨rfl, by go_grown⟩

def rightB (a : Int) : Bool := decide (0 ≤ a ∧ a ≤ 4611686018427387904)

set_option maxHeartbeats 400000 in
theorem right_any (a b c : Int) (w : World) :
    Calls Tryd.prog 11 #[.agg #[.int .i64 a, .int .u32 b, .int .u32 c]] w fun e w' => e = .returned (.bool (rightB a)) ∧ Below w.heap.size w w' := by
  by_cases h0 : 0 ≤ a
  · by_cases h1 : a ≤ 4611686018427387904
    · go_enter Tryd.func11, Tryd.ntmps11
      go_wp2
      go_ret
      exact ⟨by simp [rightB, h0, h1], by go_grown⟩
    · go_enter Tryd.func11, Tryd.ntmps11
      go_wp2
      go_ret
      exact ⟨by simp [rightB, h0, h1], by go_grown⟩
  · go_enter Tryd.func11, Tryd.ntmps11
    go_wp2
    go_ret
    exact ⟨by simp [rightB]; omega, by go_grown⟩

def cmpS (a b c x y z : Int) : Int := if a < x then -1 else if x < a then 1 else if b < y then -1 else if y < b then 1 else if c < z then -1 else if z < c then 1 else 0

theorem idx0 (u v x : Value) (w : World) : (Instr.index 75 (.agg #[u, v, x]) (.int .i64 0)).run Tryd.prog w = .ok u w := by kernel_rfl
theorem idx1 (u v x : Value) (w : World) : (Instr.index 75 (.agg #[u, v, x]) (.int .i64 1)).run Tryd.prog w = .ok v w := by kernel_rfl
theorem idx2 (u v x : Value) (w : World) : (Instr.index 75 (.agg #[u, v, x]) (.int .i64 2)).run Tryd.prog w = .ok x w := by kernel_rfl

set_option maxHeartbeats 1000000 in
theorem compare_any (a b c x y z : Int) (hb0 : 0 ≤ b) (hb1 : b ≤ 4294967295) (hc0 : 0 ≤ c) (hc1 : c ≤ 4294967295) (hy0 : 0 ≤ y) (hy1 : y ≤ 4294967295) (hz0 : 0 ≤ z) (hz1 : z ≤ 4294967295) (w : World) :
    Calls Tryd.prog 14 #[.agg #[.int .i64 a, .int .u32 b, .int .u32 c], .agg #[.int .i64 x, .int .u32 y, .int .u32 z]] w fun e w' => e = .returned (.int .i64 (cmpS a b c x y z)) ∧ Below w.heap.size w w' := by
  have j0 := idx0
  have j1 := idx1
  have j2 := idx2
  go_enter Tryd.func14, Tryd.ntmps14
  go_wp2
  go_rounds 4
  all_goals go_ret
  all_goals exact ⟨ret_int (by unfold cmpS; (repeat' split) <;> omega), by go_grown⟩


end Go.Proofs.YtignhpobeemjhaaDoor
