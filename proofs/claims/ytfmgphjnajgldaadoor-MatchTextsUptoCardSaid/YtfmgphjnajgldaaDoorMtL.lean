/- The document's letters of a name. -/
import Derived.Test.YtfmgphjnajgldaaDoorMtZM
import Derived.Test.YtfmgphjnajgldaaDoorLbWr
import Derived.Test.YtfmgphjnajgldaaDoorLbUM
namespace Go.Proofs.YtfmgphjnajgldaaDoor
open Go.RowKit

theorem nameB_one (t : ByteArray) (j : Nat) (h : j < t.size) : nameB (t.extract j (j + 1)) = letN ((t[j]).toNat : Int) := by
  have hl : (t.extract j (j + 1)).data.toList = [t[j]] := by
    rw [Lib.extract_data, Nat.add_sub_cancel_left, List.drop_eq_getElem_cons (by simpa using h)]
    rfl
  have hs : (t.extract j (j + 1)).size = 1 := by simp; omega
  unfold nameB
  rw [hs]
  have : byteAt (t.extract j (j + 1)) 0 = ((t[j]).toNat : Int) := by unfold byteAt; rw [hl]; rfl
  simp [nameTo, nameC, this]
theorem letL_cons (c : UInt8) (r : List UInt8) : letL (c :: r) = if nchB c = true then letL r + 1 else 0 := by
  unfold letL
  rw [List.takeWhile_cons]
  split <;> rfl
theorem letL_at {t : ByteArray} {j : Nat} (h : j < t.size) : letL (t.data.toList.drop j) = if nchB t[j] = true then letL (t.data.toList.drop (j + 1)) + 1 else 0 := by
  rw [drop_byte t j h, letL_cons]

set_option maxRecDepth 100000 in
set_option maxHeartbeats 1600000 in
theorem letters_any (t : ByteArray) (k : Nat) (w : World) (hs : t.size ≤ 4000000000) (hk : k ≤ t.size) : Calls Tryd.prog 31 #[.string t, .int .i64 (k : Int)] w fun e w' => e = .returned (.int .i64 (letL (t.data.toList.drop k) : Nat)) ∧ w = w' := by
  go_enter Tryd.func31, Tryd.ntmps31
  go_wp2
  go_loop [5] (fun i => ∃ n : Nat, k + n ≤ t.size ∧ i = .int .i64 n ∧ Hid (letL (t.data.toList.drop k) = n + letL (t.data.toList.drop (k + n)))) (fun i => t.size - k - (intOf i).toNat)
  case atStart => exact ⟨0, by omega, rfl, Lib.hid (by simp)⟩
  case round =>
    obtain ⟨n, hn, rfl, HT⟩ := hrel
    have i0 : (0 : Int) ≤ (k : Int) + n := by omega
    have i5 : (k : Int) + n + 1 ≤ 9223372036854775807 := by omega
    by_cases hlt : k + n < t.size
    · have i1 : (k : Int) + n < t.size := by omega
      have i2 : (k : Int) + n + 1 ≤ t.size := by omega
      have i3 : ((k : Int) + n).toNat = k + n := by omega
      have i4 : ((k : Int) + n + 1).toNat = k + n + 1 := by omega
      have hat := letL_at hlt
      have hch : nchB t[k + n] = (letN ((t[k + n]).toNat : Int) || digN ((t[k + n]).toNat : Int)) := rfl
      have HC := Lib.hid (fun W => rIsName_any (t.extract (k + n) (k + n + 1)) W (by simp [maxLen]; omega))
      rw [nameB_one t (k + n) hlt] at HC
      by_cases hl : letN ((t[k + n]).toNat : Int) = true
      · have HN : Hid (letL (t.data.toList.drop k) = n + 1 + letL (t.data.toList.drop (k + n + 1))) := Lib.hid (by
          rw [HT.out, hat, if_pos (by rw [hch, hl]; rfl)]; omega)
        rw [hl] at HC
        clear hat hch hl
        go_wp2_with (go_at_call 24; refine (HC.out _).mono ?_; rintro e w' ⟨rfl, rfl⟩)
        go_round
        case rel => exact ⟨n + 1, by omega, by go_num, HN⟩
        case measure => simp [intOf]; omega
      · have hl : letN ((t[k + n]).toNat : Int) = false := by simpa using hl
        rw [hl] at HC
        by_cases hd : digN ((t[k + n]).toNat : Int) = true
        · have HN : Hid (letL (t.data.toList.drop k) = n + 1 + letL (t.data.toList.drop (k + n + 1))) := Lib.hid (by
            rw [HT.out, hat, if_pos (by rw [hch, hd, Bool.or_true])]; omega)
          have d1 : 48 ≤ ((t[k + n]).toNat : Int) ∧ ((t[k + n]).toNat : Int) ≤ 57 := by simpa [digN] using hd
          obtain ⟨d1, d2⟩ := d1
          clear hat hch hl hd
          go_wp2_with (go_at_call 24; refine (HC.out _).mono ?_; rintro e w' ⟨rfl, rfl⟩)
          go_round
          case rel => exact ⟨n + 1, by omega, by go_num, HN⟩
          case measure => simp [intOf]; omega
        · have hd : digN ((t[k + n]).toNat : Int) = false := by simpa using hd
          have HF : Hid (letL (t.data.toList.drop k) = n) := Lib.hid (by
            rw [HT.out, hat, if_neg (by rw [hch, hl, hd]; decide)]; rfl)
          have d0 : ¬ (48 ≤ ((t[k + n]).toNat : Int) ∧ ((t[k + n]).toNat : Int) ≤ 57) := by simpa [digN] using hd
          clear hat hch hl hd
          by_cases d1 : 48 ≤ ((t[k + n]).toNat : Int)
          · have d2 : decide (((t[k + n]).toNat : Int) ≤ 57) = false := decide_eq_false (fun h => d0 ⟨d1, h⟩)
            have d3 : decide (48 ≤ ((t[k + n]).toNat : Int)) = true := decide_eq_true d1
            clear d0 d1
            go_wp2_with (go_at_call 24; refine (HC.out _).mono ?_; rintro e w' ⟨rfl, rfl⟩)
            go_ret
            exact ⟨by rw [HF.out]; rfl, rfl⟩
          · have d3 : decide (48 ≤ ((t[k + n]).toNat : Int)) = false := decide_eq_false d1
            clear d0 d1
            go_wp2_with (go_at_call 24; refine (HC.out _).mono ?_; rintro e w' ⟨rfl, rfl⟩)
            go_ret
            exact ⟨by rw [HF.out]; rfl, rfl⟩
    · have i1 : ¬ (k : Int) + n < t.size := by omega
      have HF : Hid (letL (t.data.toList.drop k) = n) := Lib.hid (by
        rw [HT.out, List.drop_of_length_le (by simp; omega)]; rfl)
      go_wp2_with fail
      go_ret
      exact ⟨by rw [HF.out]; rfl, rfl⟩
end Go.Proofs.YtfmgphjnajgldaaDoor
