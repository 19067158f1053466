/- Which texts are values: the program's and the document's. -/
import Derived.Test.YtfmgphjnajgldaaDoorLbW
namespace Go.Proofs.YtfmgphjnajgldaaDoor
open Go.RowKit

set_option maxHeartbeats 800000 in
theorem isValue_any (s : ByteArray) (w : World) (hs : s.size ≤ maxLen) : Calls Tryd.prog 39 #[.string s] w fun e w' => e = .returned (.bool (valB s)) ∧ w = w' := by
  unfold maxLen at hs
  by_cases h1 : s.size < 1
  · rw [valB_no (.inl h1)]
    go_enter Tryd.func39, Tryd.ntmps39
    go_wp2
    go_ret
    exact ⟨rfl, rfl⟩
  by_cases h2 : 64 < s.size
  · rw [valB_no (.inr h2)]
    go_enter Tryd.func39, Tryd.ntmps39
    go_wp2
    go_ret
    exact ⟨rfl, rfl⟩
  · rw [valB_of (by omega) (by omega)]
    go_enter Tryd.func39, Tryd.ntmps39
    go_wp2
    go_loop [14] (fun i => ∃ k : Nat, k ≤ s.size ∧ i = .int .i64 k ∧ Hid (valTo s k = true)) (fun i => s.size - (intOf i).toNat)
    case atStart => exact ⟨0, Nat.zero_le _, rfl, Lib.hid (valTo_zero s)⟩
    case round =>
      obtain ⟨k, hk, rfl, HT⟩ := hrel
      by_cases hlt : k < s.size
      · have hb := byteAt_get s k hlt
        have HB := Lib.hid hb
        clear hb
        by_cases hc : valC ((s[k]).toNat : Int) = true
        · have HN : Hid (valTo s (k + 1) = true) := Lib.hid (by rw [valTo_succ, HT.out, ← HB.out, hc]; rfl)
          have HC := Lib.hid hc
          clear hc
          go_wp2
          all_goals first
            | (go_round
               case rel => exact ⟨k + 1, by omega, by go_num, HN⟩
               case measure => simp [intOf]; omega)
            | (exfalso; have hc := HC.out; simp [valC] at *; omega)
        · have hc : valC ((s[k]).toNat : Int) = false := by simpa using hc
          have HF : Hid (valTo s s.size = false) := Lib.hid (valTo_false (k := k) (by rw [← HB.out]; exact hc) hlt)
          have HC := Lib.hid hc
          clear hc
          go_wp2
          all_goals first
            | (exfalso; have hc := HC.out; simp [valC] at *; omega)
            | (go_ret; exact ⟨ret_bool HF.out.symm, rfl⟩)
      · have hks : k = s.size := by omega
        have HF : Hid (valTo s s.size = true) := Lib.hid (hks ▸ HT.out)
        clear hks
        go_wp2_with fail
        go_ret
        exact ⟨ret_bool HF.out.symm, rfl⟩
end Go.Proofs.YtfmgphjnajgldaaDoor
