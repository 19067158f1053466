/- The program's growth and comparison, and its sum. -/
import Derived.Test.YtckbpajphfbaoaaTyT
namespace Go.Proofs.Ytckbpajphfbaoaa
open Go.RowKit

def cmpN (a b : Int) : Int := if a < b then -1 else if b < a then 1 else 0
set_option maxHeartbeats 800000 in
theorem isnan_any (a : Int) (w : World) : Calls Try.prog 32 #[.int .i64 a] w fun e w' => e = .returned (.bool false) ∧ w' = w := by
  go_enter Try.func32, Try.ntmps32
  go_wp2
  go_ret
  exact ⟨rfl, rfl⟩
set_option maxHeartbeats 800000 in
theorem compareN_any (a b : Int) (w : World) : Calls Try.prog 31 #[.int .i64 a, .int .i64 b] w fun e w' => e = .returned (.int .i64 (cmpN a b)) ∧ w' = w := by
  go_enter Try.func31, Try.ntmps31
  go_wp2_with (go_at_call 32; refine (isnan_any _ _).mono ?_; rintro e w1 ⟨rfl, rfl⟩)
  all_goals go_ret
  all_goals exact ⟨ret_int (by simp only [cmpN]; (repeat' split) <;> first | rfl | omega | simp_all), rfl⟩
set_option maxHeartbeats 800000 in
theorem byNum_any (x y : Smp) (w : World) : Calls Try.prog 26 #[agS x, agS y] w fun e w' => e = .returned (.int .i64 (cmpN x.2 y.2)) ∧ Below w.heap.size w w' := by
  go_enter Try.func26, Try.ntmps26
  go_wp2_with (go_at_call 31; refine (compareN_any _ _ _).mono ?_; rintro e w1 ⟨rfl, rfl⟩)
  go_ret
  exact ⟨rfl, by go_grown⟩
theorem wrapI (x : Int) (h0 : -9223372036854775808 ≤ x) (h1 : x ≤ 9223372036854775807) : IntKind.i64.wrap x = x := by rw [IntKind.wrap_i64]; omega
set_option maxHeartbeats 800000 in
theorem growth_any (a b : Int) (ha0 : -9223372036854775808 ≤ a) (ha1 : a ≤ 9223372036854775807) (hb0 : -9223372036854775808 ≤ b) (hb1 : b ≤ 9223372036854775807) (w : World) :
    Calls Try.prog 28 #[.int .i64 a, .int .i64 b] w fun e w' => e = .returned (.tuple #[.int .i64 (rangeB (b - a)).1, .int .i64 (rangeB (b - a)).2]) ∧ w' = w := by
  rcases Int.lt_trichotomy 0 a with h | h | h
  · have h2 : ¬ a < 0 := by omega
    have hw := wrapI (-9223372036854775808 + a) (by omega) (by omega)
    by_cases h3 : b < -9223372036854775808 + a
    · have hr : rangeB (b - a) = (0, 20) := if_neg (by omega)
      rw [hr]
      go_enter Try.func28, Try.ntmps28
      go_wp2
      go_ret2
      exact ⟨rfl, rfl⟩
    · have hr : rangeB (b - a) = (b - a, 0) := if_pos (by omega)
      have hv := wrapI (b - a) (by omega) (by omega)
      rw [hr]
      go_enter Try.func28, Try.ntmps28
      go_wp2
      go_ret2
      exact ⟨rfl, rfl⟩
  · subst h
    have hr : rangeB (b - 0) = (b, 0) := by rw [Int.sub_zero]; exact if_pos (by omega)
    have hv := wrapI b (by omega) (by omega)
    rw [hr]
    go_enter Try.func28, Try.ntmps28
    go_wp2
    go_ret2
    exact ⟨rfl, rfl⟩
  · have h2 : ¬ 0 < a := by omega
    have hw := wrapI (9223372036854775807 + a) (by omega) (by omega)
    by_cases h3 : 9223372036854775807 + a < b
    · have hr : rangeB (b - a) = (0, 20) := if_neg (by omega)
      rw [hr]
      go_enter Try.func28, Try.ntmps28
      go_wp2
      go_ret2
      exact ⟨rfl, rfl⟩
    · have hr : rangeB (b - a) = (b - a, 0) := if_pos (by omega)
      have hv := wrapI (b - a) (by omega) (by omega)
      rw [hr]
      go_enter Try.func28, Try.ntmps28
      go_wp2
      go_ret2
      exact ⟨rfl, rfl⟩
end Go.Proofs.Ytckbpajphfbaoaa
