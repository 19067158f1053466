/- The contracts of the stamp functions that a chain calls. -/
import Derived.Test.YtbeclajbpfglgaaRows
import Derived.Test.YtbeclajbpfglgaaBase
namespace Go.Proofs.Ytbeclajbpfglgaa
open Go.RowKit

abbrev stv (a b c : Int) : Value := .agg #[.int .i64 a, .int .u32 b, .int .u32 c]

set_option maxHeartbeats 400000 in
theorem to_any (a b c : Int) (w : World) :
    Calls Try.prog 14 #[.agg #[.int .i64 a, .int .u32 b, .int .u32 c]] w fun e w' => e = .returned (.agg #[.int .i64 a, .int .u32 b, .int .u32 c]) ∧ Below w.heap.size w w' := by
  go_enter Try.func14, Try.ntmps14
  go_wp2
  exact bodyPost_ret (v := .agg #[.int .i64 a, .int .u32 b, .int .u32 c]) (by simp [results, Try.results14, go_sem]) rfl ⟨rfl, by go_grown⟩

set_option maxHeartbeats 400000 in
theorem from_any (a b c : Int) (w : World) :
    Calls Try.prog 30 #[.agg #[.int .i64 a, .int .u32 b, .int .u32 c]] w fun e w' => e = .returned (.agg #[.int .i64 a, .int .u32 b, .int .u32 c]) ∧ Below w.heap.size w w' := by
  go_enter Try.func30, Try.ntmps30
  go_wp2
  exact bodyPost_ret (v := .agg #[.int .i64 a, .int .u32 b, .int .u32 c]) (by simp [results, Try.results30, go_sem]) rfl ⟨rfl, by go_grown⟩

/-- Is a Wall right? -/
def rightB (a : Int) : Bool := decide (0 ≤ a ∧ a ≤ 4611686018427387904)

set_option maxHeartbeats 400000 in
theorem right_any (a b c : Int) (w : World) :
    Calls Try.prog 24 #[.agg #[.int .i64 a, .int .u32 b, .int .u32 c]] w fun e w' => e = .returned (.bool (rightB a)) ∧ Below w.heap.size w w' := by
  by_cases h0 : 0 ≤ a
  · by_cases h1 : a ≤ 4611686018427387904
    · go_enter Try.func24, Try.ntmps24
      go_wp2
      go_ret
      exact ⟨by simp [rightB, h0, h1], by go_grown⟩
    · go_enter Try.func24, Try.ntmps24
      go_wp2
      go_ret
      exact ⟨by simp [rightB, h0, h1], by go_grown⟩
  · go_enter Try.func24, Try.ntmps24
    go_wp2
    go_ret
    exact ⟨by simp [rightB]; omega, by go_grown⟩

set_option maxHeartbeats 400000 in
theorem rright_any (a b c : Int) (w : World) :
    Calls Try.prog 26 #[.agg #[.int .i64 a, .int .u32 b, .int .u32 c]] w fun e w' => e = .returned (.bool (rightB a)) ∧ Below w.heap.size w w' := by
  by_cases h0 : 0 ≤ a
  · by_cases h1 : a ≤ 4611686018427387904
    · go_enter Try.func26, Try.ntmps26
      go_wp2
      go_ret
      exact ⟨by simp [rightB, h0, h1], by go_grown⟩
    · go_enter Try.func26, Try.ntmps26
      go_wp2
      go_ret
      exact ⟨by simp [rightB, h0, h1], by go_grown⟩
  · go_enter Try.func26, Try.ntmps26
    go_wp2
    go_ret
    exact ⟨by simp [rightB]; omega, by go_grown⟩

/-- How two stamps stand: -1, 0, 1. -/
def cmpS (a b c x y z : Int) : Int := if a < x then -1 else if x < a then 1 else if b < y then -1 else if y < b then 1 else if c < z then -1 else if z < c then 1 else 0

theorem idx0 (u v x : Value) (w : World) : (Instr.index 67 (.agg #[u, v, x]) (.int .i64 0)).run Try.prog w = .ok u w := by kernel_rfl
theorem idx1 (u v x : Value) (w : World) : (Instr.index 67 (.agg #[u, v, x]) (.int .i64 1)).run Try.prog w = .ok v w := by kernel_rfl
theorem idx2 (u v x : Value) (w : World) : (Instr.index 67 (.agg #[u, v, x]) (.int .i64 2)).run Try.prog w = .ok x w := by kernel_rfl

set_option maxHeartbeats 1000000 in
theorem compare_any (a b c x y z : Int) (hb0 : 0 ≤ b) (hb1 : b ≤ 4294967295) (hc0 : 0 ≤ c) (hc1 : c ≤ 4294967295) (hy0 : 0 ≤ y) (hy1 : y ≤ 4294967295) (hz0 : 0 ≤ z) (hz1 : z ≤ 4294967295) (w : World) :
    Calls Try.prog 22 #[.agg #[.int .i64 a, .int .u32 b, .int .u32 c], .agg #[.int .i64 x, .int .u32 y, .int .u32 z]] w fun e w' => e = .returned (.int .i64 (cmpS a b c x y z)) ∧ Below w.heap.size w w' := by
  have j0 := idx0
  have j1 := idx1
  have j2 := idx2
  go_enter Try.func22, Try.ntmps22
  go_wp2
  go_rounds 4
  all_goals go_ret
  all_goals exact ⟨ret_int (by unfold cmpS; (repeat' split) <;> omega), by go_grown⟩

/-- Does one stand ahead of the other? -/
def belowB (a b c x y z : Int) : Bool := decide (cmpS a b c x y z = -1)
theorem cmpS_cases (a b c x y z : Int) : (cmpS a b c x y z = -1 ∧ (a < x ∨ a = x ∧ (b < y ∨ b = y ∧ c < z))) ∨ (cmpS a b c x y z = 1 ∧ (x < a ∨ a = x ∧ (y < b ∨ b = y ∧ z < c))) ∨ (cmpS a b c x y z = 0 ∧ a = x ∧ b = y ∧ c = z) := by
  unfold cmpS; (repeat' split) <;> omega

set_option maxHeartbeats 1000000 in
theorem rbelow_any (a b c x y z : Int) (w : World) :
    Calls Try.prog 23 #[.agg #[.int .i64 a, .int .u32 b, .int .u32 c], .agg #[.int .i64 x, .int .u32 y, .int .u32 z]] w fun e w' => e = .returned (.bool (belowB a b c x y z)) ∧ Below w.heap.size w w' := by
  go_enter Try.func23, Try.ntmps23
  go_wp2
  all_goals go_ret
  all_goals exact ⟨ret_bool (by have h := cmpS_cases a b c x y z; rw [Bool.eq_iff_iff]; simp [belowB] at *; omega), by go_grown⟩

end Go.Proofs.Ytbeclajbpfglgaa
