/- The contracts of the stamp functions that this seat has. -/
import Derived.Test.YtojkbndaleiaaaaDoorRows
import Derived.Test.YtojkbndaleiaaaaDoorBase
namespace Go.Proofs.YtojkbndaleiaaaaDoor
open Go.RowKit

abbrev stv (a b c : Int) : Value := .agg #[.int .i64 a, .int .u32 b, .int .u32 c]

set_option maxHeartbeats 400000 in
theorem to_any (a b c : Int) (w : World) :
    Calls Tryd.prog 33 #[.agg #[.int .i64 a, .int .u32 b, .int .u32 c]] w fun e w' => e = .returned (.agg #[.int .i64 a, .int .u32 b, .int .u32 c]) ∧ Below w.heap.size w w' := by
  go_enter Tryd.func33, Tryd.ntmps33
  go_wp2
  exact bodyPost_ret (v := .agg #[.int .i64 a, .int .u32 b, .int .u32 c]) (by simp [results, Tryd.results33, go_sem]) rfl ⟨rfl, by go_grown⟩

set_option maxHeartbeats 400000 in
theorem from_any (a b c : Int) (w : World) :
    Calls Tryd.prog 19 #[.agg #[.int .i64 a, .int .u32 b, .int .u32 c]] w fun e w' => e = .returned (.agg #[.int .i64 a, .int .u32 b, .int .u32 c]) ∧ Below w.heap.size w w' := by
  go_enter Tryd.func19, Tryd.ntmps19
  go_wp2
  exact bodyPost_ret (v := .agg #[.int .i64 a, .int .u32 b, .int .u32 c]) (by simp [results, Tryd.results19, go_sem]) rfl ⟨rfl, by go_grown⟩

def rightB (a : Int) : Bool := decide (0 ≤ a ∧ a ≤ 4611686018427387904)

set_option maxHeartbeats 400000 in
theorem right_any (a b c : Int) (w : World) :
    Calls Tryd.prog 50 #[.agg #[.int .i64 a, .int .u32 b, .int .u32 c]] w fun e w' => e = .returned (.bool (rightB a)) ∧ Below w.heap.size w w' := by
  by_cases h0 : 0 ≤ a
  · by_cases h1 : a ≤ 4611686018427387904
    · go_enter Tryd.func50, Tryd.ntmps50
      go_wp2
      go_ret
      exact ⟨by simp [rightB, h0, h1], by go_grown⟩
    · go_enter Tryd.func50, Tryd.ntmps50
      go_wp2
      go_ret
      exact ⟨by simp [rightB, h0, h1], by go_grown⟩
  · go_enter Tryd.func50, Tryd.ntmps50
    go_wp2
    go_ret
    exact ⟨by simp [rightB]; omega, by go_grown⟩

def cmpS (a b c x y z : Int) : Int := if a < x then -1 else if x < a then 1 else if b < y then -1 else if y < b then 1 else if c < z then -1 else if z < c then 1 else 0

theorem idx0 (u v x : Value) (w : World) : (Instr.index 81 (.agg #[u, v, x]) (.int .i64 0)).run Tryd.prog w = .ok u w := by kernel_rfl
theorem idx1 (u v x : Value) (w : World) : (Instr.index 81 (.agg #[u, v, x]) (.int .i64 1)).run Tryd.prog w = .ok v w := by kernel_rfl
theorem idx2 (u v x : Value) (w : World) : (Instr.index 81 (.agg #[u, v, x]) (.int .i64 2)).run Tryd.prog w = .ok x w := by kernel_rfl

end Go.Proofs.YtojkbndaleiaaaaDoor
