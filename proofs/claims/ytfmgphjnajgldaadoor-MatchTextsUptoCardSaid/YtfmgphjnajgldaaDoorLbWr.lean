/- Which texts are names, by the document. -/
import Derived.Test.YtfmgphjnajgldaaDoorLbW
namespace Go.Proofs.YtfmgphjnajgldaaDoor
open Go.RowKit

set_option maxHeartbeats 1600000 in
theorem rIsName_any (s : ByteArray) (w : World) (hs : s.size ≤ maxLen) : Calls Tryd.prog 24 #[.string s] w fun e w' => e = .returned (.bool (nameB s)) ∧ w = w' := by
  unfold maxLen at hs
  go_enter Tryd.func24, Tryd.ntmps24
  go_wp2
  go_loop [3] (fun i => ∃ k : Nat, k ≤ s.size ∧ i = .int .i64 k ∧ Hid (nameTo s k = true)) (fun i => s.size - (intOf i).toNat)
  case atStart => exact ⟨0, Nat.zero_le _, rfl, Lib.hid (nameTo_zero s)⟩
  case round =>
    obtain ⟨k, hk, rfl, HT⟩ := hrel
    by_cases hlt : k < s.size
    · have hb := byteAt_get s k hlt
      have HB := Lib.hid hb
      clear hb
      by_cases hc : nameC k ((s[k]).toNat : Int) = true
      · have HN : Hid (nameTo s (k + 1) = true) := Lib.hid (by rw [nameTo_succ, HT.out, ← HB.out, hc]; rfl)
        have HC := Lib.hid hc
        clear hc
        go_wp2
        all_goals first
          | (go_round
             case rel => exact ⟨k + 1, by omega, by go_num, HN⟩
             case measure => simp [intOf]; omega)
          | (exfalso; have hc := HC.out; simp [nameC, letN, digN] at *; omega)
      · have hc : nameC k ((s[k]).toNat : Int) = false := by simpa using hc
        have HF : Hid (nameB s = false) := Lib.hid (by unfold nameB; rw [nameTo_false (k := k) (by rw [← HB.out]; exact hc) hlt]; simp)
        have HC := Lib.hid hc
        clear hc
        go_wp2
        all_goals first
          | (exfalso; have hc := HC.out; simp [nameC, letN, digN] at *; omega)
          | (go_ret; exact ⟨ret_bool HF.out.symm, rfl⟩)
    · have hks : k = s.size := by omega
      have HF : Hid (nameTo s s.size = true) := Lib.hid (hks ▸ HT.out)
      clear hks
      by_cases h1 : 1 ≤ s.size
      · by_cases h2 : s.size ≤ 32
        · have HG : Hid (nameB s = true) := Lib.hid (by rw [nameB_of h1 h2, HF.out])
          go_wp2_with fail
          go_ret
          exact ⟨ret_bool (by first | (rw [HG.out]; done) | (rw [HG.out]; apply decide_eq_true; omega) | (rw [HG.out]; apply decide_eq_false; omega)), rfl⟩
        · have HG : Hid (nameB s = false) := Lib.hid (nameB_no (.inr (by omega)))
          go_wp2_with fail
          go_ret
          exact ⟨ret_bool (by first | (rw [HG.out]; done) | (rw [HG.out]; apply decide_eq_true; omega) | (rw [HG.out]; apply decide_eq_false; omega)), rfl⟩
      · have HG : Hid (nameB s = false) := Lib.hid (nameB_no (.inl (by omega)))
        go_wp2_with fail
        go_ret
        exact ⟨ret_bool (by first | (rw [HG.out]; done) | (rw [HG.out]; apply decide_eq_true; omega) | (rw [HG.out]; apply decide_eq_false; omega)), rfl⟩
end Go.Proofs.YtfmgphjnajgldaaDoor
