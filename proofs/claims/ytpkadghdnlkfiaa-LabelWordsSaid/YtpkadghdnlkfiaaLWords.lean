/- The law LabelWords: its walk. -/
import Derived.Test.YtpkadghdnlkfiaaLbA
import Derived.Test.YtpkadghdnlkfiaaLbV
namespace Go.Proofs.Ytpkadghdnlkfiaa
open Go.RowKit

theorem words_any (s : ByteArray) (w : World) (hs : s.size ≤ maxLen) : Calls Try.prog 3 #[.string s] w fun e w' => e = .returned (.bool true) ∧ Below w.heap.size w w' := by
  have HA := Lib.hid (awake_any w)
  have H1 := Lib.hid (fun W => isName_any s W hs)
  have H2 := Lib.hid (fun W => rIsName_any s W hs)
  have H3 := Lib.hid (fun W => isValue_any s W hs)
  have H4 := Lib.hid (fun W => rIsValue_any s W hs)
  generalize nameB s = b1 at *
  generalize valB s = b2 at *
  go_enter Try.func3, Try.ntmps3
  go_wp2_with (first
    | (go_at_call 8; refine HA.out.mono ?_; rintro e w1 ⟨rfl, hb1⟩)
    | (go_at_call 9; refine (H1.out _).mono ?_; rintro e w' ⟨rfl, rfl⟩)
    | (go_at_call 10; refine (H2.out _).mono ?_; rintro e w' ⟨rfl, rfl⟩)
    | (go_at_call 11; refine (H3.out _).mono ?_; rintro e w' ⟨rfl, rfl⟩)
    | (go_at_call 12; refine (H4.out _).mono ?_; rintro e w' ⟨rfl, rfl⟩))
  all_goals go_ret
  all_goals exact ⟨ret_bool (by simp), hb1⟩
end Go.Proofs.Ytpkadghdnlkfiaa
