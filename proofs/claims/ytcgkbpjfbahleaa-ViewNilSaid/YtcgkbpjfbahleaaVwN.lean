/- ViewNil: its walk. -/
import Derived.Test.YtcgkbpjfbahleaaVw5
namespace Go.Proofs.Ytcgkbpjfbahleaa
open Go.RowKit Go.BigFrame

set_option maxRecDepth 100000 in
set_option maxHeartbeats 1600000 in
theorem viewnil_any (n : Int) (w : World) : Calls Try.prog 6 #[.int .i64 n] w (Ok0 w) := by
  have hfl : ∀ W, (Instr.field 37 (.agg #[.int .i64 0, .int .i64 0, .slice none 0 0]) 0).run Try.prog W = .ok (.int .i64 0) W := fun W => by kernel_rfl
  go_enter Try.func6, Try.ntmps6
  go_wp2_with fail
  go_at_call 10
  refine (change_nil _ _ _ _ _).mono ?_
  rintro e w1 ⟨rfl, b1⟩
  have HB1 : Hid (Below w.heap.size w w1) := Lib.hid (((Below.refl _ _).alloc (Nat.le_refl _) _).trans (b1.mono (by simp)))
  clear b1
  go_wp2_with fail
  go_at_call 9
  refine (awake_any _).mono ?_
  rintro e w2 ⟨rfl, b2⟩
  have HB2 : Hid (Below w.heap.size w w2) := Lib.hid ((HB1.out.alloc HB1.out.size _).trans (b2.mono (by have := HB1.out.size; simp; omega)))
  clear b2
  go_wp2_with fail
  go_at_call 15
  refine (active_nil _ _).mono ?_
  rintro e w3 ⟨rfl, rfl⟩
  go_wp2_with fail
  go_at_call 16
  refine (now_nil _).mono ?_
  rintro e w4 ⟨rfl, b4⟩
  have HB4 := Lib.hid (HB2.out.trans (b4.mono HB2.out.size))
  clear b4
  go_wp2_with fail
  go_at_call 18
  refine (safe_nil _).mono ?_
  rintro e w5 ⟨rfl, rfl⟩
  go_wp2_with fail
  go_ret
  exact ⟨rfl, HB4.out⟩
end Go.Proofs.Ytcgkbpjfbahleaa
