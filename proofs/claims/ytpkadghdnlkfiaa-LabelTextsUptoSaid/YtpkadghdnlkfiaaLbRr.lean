/- The document's Right and Get. -/
import Derived.Test.YtpkadghdnlkfiaaLbR
import Derived.Test.YtpkadghdnlkfiaaLbVr
import Derived.Test.YtpkadghdnlkfiaaLbQ
namespace Go.Proofs.Ytpkadghdnlkfiaa
open Go.RowKit

set_option maxHeartbeats 1600000 in
theorem rRight_any (K : Nat) (A : Option Addr) (n cap : Nat) (l : List Pp) (w : World) (hln : l.length = n) (hp : Lr w K A cap l) (hK : K ≤ w.heap.size) (hS : Sm l) :
    Calls Try.prog 19 #[.slice A n cap] w fun e w' => e = .returned (.bool (rightL l)) ∧ Below w.heap.size w w' := by
  subst hln
  have hle := hp.le
  have hmax := hp.max
  unfold maxLen at hmax
  go_enter Try.func19, Try.ntmps19
  go_wp2
  go_loopw [3] (fun i wr => ∃ k : Nat, k ≤ l.length ∧ i = .int .i64 k ∧ Hid (rightTo l k = true) ∧ Below w.heap.size w wr) (fun i _ => l.length - (intOf i).toNat)
  case atStart => exact ⟨0, Nat.zero_le _, rfl, Lib.hid (rightTo_zero l), Below.refl _ _⟩
  case round =>
    obtain ⟨k, hk, rfl, HT, hbl⟩ := hrel
    have z := hbl.size
    by_cases hlt : k < l.length
    · obtain ⟨ad, rfl, hadK, h1, h2⟩ := lr_at (hp.below (hbl.mono hK)) hlt
      have hs := hS.at_ k
      have hstep : stepC l k = stepB (decide (k = 0)) (l.getD (k - 1) nilP).1 (l.getD k nilP).1 (l.getD k nilP).2 := rfl
      have hprev : 0 < k → wr.cell? (ad.add ((k - 1) * 2)) = some (.string (l.getD (k - 1) nilP).1) := by
        intro h0
        obtain ⟨ad', e', _, h3, _⟩ := lr_at (hp.below (hbl.mono hK)) (show k - 1 < l.length by omega)
        cases e'
        exact h3
      generalize (l.getD (k - 1) nilP).1 = pn at *
      generalize (l.getD k nilP).1 = xn at *
      generalize (l.getD k nilP).2 = xv at *
      have ms1 : xn.size ≤ maxLen := by unfold maxLen; omega
      have ms2 : xv.size ≤ maxLen := by unfold maxLen; omega
      have hfalse : stepC l k = false → rightL l = false := fun h => by unfold rightL; rw [rightTo_false h hlt]; simp
      by_cases hn : nameB xn = true
      · by_cases hv : valB xv = true
        · by_cases h0 : k = 0
          · have HN : Hid (rightTo l (k + 1) = true) := Lib.hid (by rw [rightTo_succ, HT.out, hstep]; simp [stepB, hn, hv, h0])
            have hg0 : decide (0 < k) = false := by simp; omega
            clear hstep hprev hfalse
            have HK0 := Lib.hid h0
            clear h0
            go_wp2_with (first
              | (go_at_call 10; refine (rIsName_any _ _ ms1).mono ?_; rintro e w' ⟨rfl, rfl⟩)
              | (go_at_call 12; refine (rIsValue_any _ _ ms2).mono ?_; rintro e w' ⟨rfl, rfl⟩))
            go_quiet (fail)
            go_wp2
            go_roundw
            case rel => exact ⟨k + 1, by omega, by go_num, HN, below_drewN hbl _⟩
            case measure => simp [intOf]; omega
          · have hg0 : decide (0 < k) = true := by simp; omega
            have h3 := hprev (by omega)
            have i0 : (0 : Int) ≤ (k : Int) - 1 := by omega
            have i1 : (k : Int) - 1 < l.length := by omega
            have iw : IntKind.i64.wrap ((k : Int) - 1) = (k : Int) - 1 := IntWalk.i64_in _ (by omega)
            have it : ((k : Int) - 1).toNat = k - 1 := by omega
            by_cases hl : Op.bytesLess pn.toList xn.toList = true
            · have HN : Hid (rightTo l (k + 1) = true) := Lib.hid (by rw [rightTo_succ, HT.out, hstep]; simp [stepB, hn, hv, ltB, hl])
              clear hstep hprev hfalse
              go_wp2_with (first
                | (go_at_call 10; refine (rIsName_any _ _ ms1).mono ?_; rintro e w' ⟨rfl, rfl⟩)
                | (go_at_call 12; refine (rIsValue_any _ _ ms2).mono ?_; rintro e w' ⟨rfl, rfl⟩))
              go_quiet (fail)
              clear iw it
              go_wp2
              go_roundw
              case rel => exact ⟨k + 1, by omega, by go_num, HN, below_drewN hbl _⟩
              case measure => simp [intOf]; omega
            · have hl : Op.bytesLess pn.toList xn.toList = false := by simpa using hl
              have HF : Hid (rightL l = false) := Lib.hid (hfalse (by rw [hstep]; simp [stepB, ltB, hl, h0]))
              clear hstep hprev hfalse
              go_wp2_with (first
                | (go_at_call 10; refine (rIsName_any _ _ ms1).mono ?_; rintro e w' ⟨rfl, rfl⟩)
                | (go_at_call 12; refine (rIsValue_any _ _ ms2).mono ?_; rintro e w' ⟨rfl, rfl⟩))
              go_quiet (fail)
              clear iw it
              go_wp2
              go_ret
              exact ⟨ret_bool HF.out.symm, below_drewN hbl _⟩
        · have hv : valB xv = false := by simpa using hv
          have HF : Hid (rightL l = false) := Lib.hid (hfalse (by rw [hstep]; simp [stepB, hv]))
          clear hstep hprev hfalse
          go_wp2_with (first
            | (go_at_call 10; refine (rIsName_any _ _ ms1).mono ?_; rintro e w' ⟨rfl, rfl⟩)
            | (go_at_call 12; refine (rIsValue_any _ _ ms2).mono ?_; rintro e w' ⟨rfl, rfl⟩))
          go_ret
          exact ⟨ret_bool HF.out.symm, hbl⟩
      · have hn : nameB xn = false := by simpa using hn
        have HF : Hid (rightL l = false) := Lib.hid (hfalse (by rw [hstep]; simp [stepB, hn]))
        clear hstep hprev hfalse
        go_wp2_with (first
          | (go_at_call 10; refine (rIsName_any _ _ ms1).mono ?_; rintro e w' ⟨rfl, rfl⟩))
        go_ret
        exact ⟨ret_bool HF.out.symm, hbl⟩
    · have hks : k = l.length := by omega
      have HF : Hid (rightL l = decide ((l.length : Int) ≤ 16)) := Lib.hid (by unfold rightL; rw [← hks, HT.out]; simp; omega)
      clear hks
      go_wp2_with fail
      go_ret
      exact ⟨ret_bool HF.out.symm, hbl⟩

set_option maxHeartbeats 1600000 in
theorem rGet_any (K : Nat) (A : Option Addr) (n cap : Nat) (l : List Pp) (s : ByteArray) (w : World) (hln : l.length = n) (hp : Lr w K A cap l) (hK : K ≤ w.heap.size) :
    Calls Try.prog 21 #[.slice A n cap, .string s] w (NewStr w (getL l s)) := by
  subst hln
  have hle := hp.le
  have hmax := hp.max
  unfold maxLen at hmax
  go_enter Try.func21, Try.ntmps21
  go_wp2
  go_loopw [5] (fun i wr => ∃ k : Nat, k ≤ l.length ∧ i = .int .i64 k ∧ Hid (getL l s = getL (l.drop k) s) ∧ Below w.heap.size w wr) (fun i _ => l.length - (intOf i).toNat)
  case atStart => exact ⟨0, Nat.zero_le _, rfl, Lib.hid rfl, Below.refl _ _⟩
  case round =>
    obtain ⟨k, hk, rfl, HT, hbl⟩ := hrel
    have z := hbl.size
    by_cases hlt : k < l.length
    · obtain ⟨ad, rfl, hadK, h1, h2⟩ := lr_at (hp.below (hbl.mono hK)) hlt
      have hstep := getL_drop hlt s
      generalize (l.getD k nilP).1 = xn at *
      generalize (l.getD k nilP).2 = xv at *
      by_cases hq : (xn.toList == s.toList) = true
      · have HF : Hid (getL l s = xv) := Lib.hid (by rw [HT.out, hstep, if_pos hq])
        clear hstep
        go_wp2_with fail
        go_ret
        exact ⟨by rw [HF.out]; rfl, hbl⟩
      · have hq : (xn.toList == s.toList) = false := by simpa using hq
        have HN : Hid (getL l s = getL (l.drop (k + 1)) s) := Lib.hid (by rw [HT.out, hstep, hq]; rfl)
        clear hstep
        go_wp2_with fail
        go_roundw
        case rel => exact ⟨k + 1, by omega, by go_num, HN, hbl⟩
        case measure => simp [intOf]; omega
    · have hks : k = l.length := by omega
      have HF : Hid (getL l s = ⟨#[]⟩) := Lib.hid (by rw [HT.out, hks, List.drop_length]; rfl)
      clear hks
      go_wp2_with fail
      go_ret
      exact ⟨by rw [HF.out]; rfl, hbl⟩
end Go.Proofs.Ytpkadghdnlkfiaa
