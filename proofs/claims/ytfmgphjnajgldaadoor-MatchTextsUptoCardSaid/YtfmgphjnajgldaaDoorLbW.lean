/- Which texts are names, and which are values: the program's and the document's. -/
import Derived.Test.YtfmgphjnajgldaaDoorLbM
import Derived.Test.YtfmgphjnajgldaaDoorRows
import Derived.Test.YtfmgphjnajgldaaDoorBase
import Derived.LoopTactic
namespace Go.Proofs.YtfmgphjnajgldaaDoor
open Go.RowKit

theorem isLetter_any (n : Int) (w : World) : Calls Tryd.prog 52 #[.int .u8 n] w fun e w' => e = .returned (.bool (letN n)) ∧ w = w' := by
  go_enter Tryd.func52, Tryd.ntmps52
  go_wp2
  all_goals go_ret
  all_goals exact ⟨ret_bool (by rw [Bool.eq_iff_iff]; simp [letN] at *; omega), rfl⟩
theorem isDigit_any (n : Int) (w : World) : Calls Tryd.prog 53 #[.int .u8 n] w fun e w' => e = .returned (.bool (digN n)) ∧ w = w' := by
  go_enter Tryd.func53, Tryd.ntmps53
  go_wp2
  all_goals go_ret
  all_goals exact ⟨ret_bool (by rw [Bool.eq_iff_iff]; simp [digN] at *; omega), rfl⟩

theorem nameB_of {s : ByteArray} (h1 : 1 ≤ s.size) (h2 : s.size ≤ 32) : nameB s = nameTo s s.size := by simp [nameB, h1, h2]
theorem nameB_no {s : ByteArray} (h : s.size < 1 ∨ 32 < s.size) : nameB s = false := by
  unfold nameB
  rcases h with h | h
  · have : ¬ 1 ≤ s.size := by omega
    simp [this]
  · have : ¬ s.size ≤ 32 := by omega
    simp [this]
theorem valB_of {s : ByteArray} (h1 : 1 ≤ s.size) (h2 : s.size ≤ 64) : valB s = valTo s s.size := by simp [valB, h1, h2]
theorem valB_no {s : ByteArray} (h : s.size < 1 ∨ 64 < s.size) : valB s = false := by
  unfold valB
  rcases h with h | h
  · have : ¬ 1 ≤ s.size := by omega
    simp [this]
  · have : ¬ s.size ≤ 64 := by omega
    simp [this]

set_option maxHeartbeats 800000 in
theorem isName_any (s : ByteArray) (w : World) (hs : s.size ≤ maxLen) : Calls Tryd.prog 38 #[.string s] w fun e w' => e = .returned (.bool (nameB s)) ∧ w = w' := by
  unfold maxLen at hs
  by_cases h1 : s.size < 1
  · rw [nameB_no (.inl h1)]
    go_enter Tryd.func38, Tryd.ntmps38
    go_wp2
    go_ret
    exact ⟨rfl, rfl⟩
  by_cases h2 : 32 < s.size
  · rw [nameB_no (.inr h2)]
    go_enter Tryd.func38, Tryd.ntmps38
    go_wp2
    go_ret
    exact ⟨rfl, rfl⟩
  · rw [nameB_of (by omega) (by omega)]
    go_enter Tryd.func38, Tryd.ntmps38
    go_wp2
    go_loop [14] (fun i => ∃ k : Nat, k ≤ s.size ∧ i = .int .i64 k ∧ Hid (nameTo s k = true)) (fun i => s.size - (intOf i).toNat)
    case atStart => exact ⟨0, Nat.zero_le _, rfl, Lib.hid (nameTo_zero s)⟩
    case round =>
      obtain ⟨k, hk, rfl, HT⟩ := hrel
      by_cases hlt : k < s.size
      · have hb := byteAt_get s k hlt
        by_cases hl : letN ((s[k]).toNat : Int) = true
        · have HN : Hid (nameTo s (k + 1) = true) := Lib.hid (by rw [nameTo_succ, HT.out, ← hb]; simp [nameC, hl])
          clear hb
          go_wp2_with (go_at_call 52; refine (isLetter_any _ _).mono ?_; rintro e w' ⟨rfl, rfl⟩)
          go_round
          case rel => exact ⟨k + 1, by omega, by go_num, HN⟩
          case measure => simp [intOf]; omega
        · have hl : letN ((s[k]).toNat : Int) = false := by simpa using hl
          by_cases h0 : k = 0
          · have HF : Hid (nameTo s s.size = false) := Lib.hid (nameTo_false (k := k) (by rw [← hb]; unfold nameC; rw [hl]; simp [h0]) hlt)
            clear hb
            subst h0
            go_wp2_with (go_at_call 52; refine (isLetter_any _ _).mono ?_; rintro e w' ⟨rfl, rfl⟩)
            go_ret
            exact ⟨ret_bool HF.out.symm, rfl⟩
          · by_cases hd : digN ((s[k]).toNat : Int) = true
            · have HN : Hid (nameTo s (k + 1) = true) := Lib.hid (by rw [nameTo_succ, HT.out, ← hb]; simp [nameC, hd]; omega)
              clear hb
              go_wp2_with (first
                | (go_at_call 52; refine (isLetter_any _ _).mono ?_; rintro e w' ⟨rfl, rfl⟩)
                | (go_at_call 53; refine (isDigit_any _ _).mono ?_; rintro e w' ⟨rfl, rfl⟩))
              go_round
              case rel => exact ⟨k + 1, by omega, by go_num, HN⟩
              case measure => simp [intOf]; omega
            · have hd : digN ((s[k]).toNat : Int) = false := by simpa using hd
              have HF : Hid (nameTo s s.size = false) := Lib.hid (nameTo_false (k := k) (by rw [← hb]; simp [nameC, hl, hd]) hlt)
              clear hb
              go_wp2_with (first
                | (go_at_call 52; refine (isLetter_any _ _).mono ?_; rintro e w' ⟨rfl, rfl⟩)
                | (go_at_call 53; refine (isDigit_any _ _).mono ?_; rintro e w' ⟨rfl, rfl⟩))
              go_ret
              exact ⟨ret_bool HF.out.symm, rfl⟩
      · have hks : k = s.size := by omega
        have HF : Hid (nameTo s s.size = true) := Lib.hid (hks ▸ HT.out)
        clear hks
        go_wp2_with fail
        go_ret
        exact ⟨ret_bool HF.out.symm, rfl⟩
end Go.Proofs.YtfmgphjnajgldaaDoor
