/- The program's hasTwice and Get, and Clone of labels. -/
import Derived.Test.YtpkadghdnlkfiaaLbR
import Derived.Test.YtpkadghdnlkfiaaLbQ
import Derived.WalkSpells
namespace Go.Proofs.Ytpkadghdnlkfiaa
open Go.RowKit

set_option maxHeartbeats 1600000 in
theorem hasTwice_any (K : Nat) (A : Option Addr) (n cap : Nat) (l : List Pp) (w : World) (hln : l.length = n) (hp : Lr w K A cap l) (hK : K ≤ w.heap.size) :
    Calls Try.prog 37 #[.slice A n cap] w fun e w' => e = .returned (.bool (twL l)) ∧ Below w.heap.size w w' := by
  subst hln
  have hle := hp.le
  have hmax := hp.max
  unfold maxLen at hmax
  go_enter Try.func37, Try.ntmps37
  go_wp2
  go_loopw [7] (fun i wr => ∃ k : Nat, k ≤ l.length - 1 ∧ i = .int .i64 k ∧ Hid (twTo l k = false) ∧ Below w.heap.size w wr) (fun i _ => l.length - (intOf i).toNat)
  case atStart => exact ⟨0, Nat.zero_le _, rfl, Lib.hid (twTo_zero l), Below.refl _ _⟩
  case round =>
    obtain ⟨k, hk, rfl, HT, hbl⟩ := hrel
    have z := hbl.size
    by_cases hlt : k + 1 < l.length
    · obtain ⟨ad, rfl, hadK, h1, _⟩ := lr_at (hp.below (hbl.mono hK)) (show k < l.length by omega)
      obtain ⟨ad', e', _, h2, _⟩ := lr_at (hp.below (hbl.mono hK)) hlt
      cases e'
      have hstep : twC l k = ((l.getD k nilP).1.toList == (l.getD (k + 1) nilP).1.toList) := rfl
      generalize (l.getD k nilP).1 = xn at *
      generalize (l.getD (k + 1) nilP).1 = yn at *
      have g0 : (k : Int) < (l.length : Int) - 1 := by omega
      have i0 : (0 : Int) ≤ (k : Int) + 1 := by omega
      have i1 : (k : Int) + 1 < l.length := by omega
      have i2 : (k : Int) < l.length := by omega
      by_cases hq : (xn.toList == yn.toList) = true
      · have HF : Hid (twL l = true) := Lib.hid (twTo_true (k := k) (by rw [hstep]; exact hq) (by omega))
        have iw : IntKind.i64.wrap ((k : Int) + 1) = (k : Int) + 1 := IntWalk.i64_in _ (by omega)
        have it : ((k : Int) + 1).toNat = k + 1 := by omega
        clear hstep
        go_wp2_with fail
        go_quiet (fail)
        clear iw it
        go_wp2
        go_ret
        exact ⟨ret_bool HF.out.symm, below_drewN hbl _⟩
      · have hq : (xn.toList == yn.toList) = false := by simpa using hq
        have HN : Hid (twTo l (k + 1) = false) := Lib.hid (by rw [twTo_succ, HT.out, hstep, hq]; rfl)
        have iw : IntKind.i64.wrap ((k : Int) + 1) = (k : Int) + 1 := IntWalk.i64_in _ (by omega)
        have it : ((k : Int) + 1).toNat = k + 1 := by omega
        clear hstep
        go_wp2_with fail
        go_quiet (fail)
        clear iw it
        go_wp2
        go_roundw
        case rel => exact ⟨k + 1, by omega, by go_num, HN, below_drewN hbl _⟩
        case measure => simp [intOf]; omega
    · have hks : k = l.length - 1 := by omega
      have HF : Hid (twL l = false) := Lib.hid (by unfold twL; rw [← hks]; exact HT.out)
      have g0 : ¬ (k : Int) < (l.length : Int) - 1 := by omega
      clear hks
      go_wp2_with fail
      go_ret
      exact ⟨ret_bool HF.out.symm, hbl⟩

set_option maxHeartbeats 1600000 in
theorem getv_any (K : Nat) (A : Option Addr) (n cap : Nat) (l : List Pp) (s : ByteArray) (w : World) (hln : l.length = n) (hp : Lr w K A cap l) (hK : K ≤ w.heap.size) :
    Calls Try.prog 20 #[.slice A n cap, .string s] w (NewStr w (getL l s)) := by
  subst hln
  have hle := hp.le
  have hmax := hp.max
  unfold maxLen at hmax
  go_enter Try.func20, Try.ntmps20
  go_wp2
  go_loopw [9] (fun i wr => ∃ k : Nat, k ≤ l.length ∧ i = .int .i64 k ∧ Hid (getL l s = getL (l.drop k) s) ∧ Below w.heap.size w wr) (fun i _ => l.length - (intOf i).toNat)
  case atStart => exact ⟨0, Nat.zero_le _, rfl, Lib.hid rfl, Below.refl _ _⟩
  case round =>
    obtain ⟨k, hk, rfl, HT, hbl⟩ := hrel
    have z := hbl.size
    by_cases hlt : k < l.length
    · obtain ⟨ad, rfl, hadK, h1, h2⟩ := lr_at (hp.below (hbl.mono hK)) hlt
      have hstep := getL_drop hlt s
      generalize (l.getD k nilP).1 = xn at *
      generalize (l.getD k nilP).2 = xv at *
      by_cases hq : (xn.toList == s.toList) = true
      · have HF : Hid (getL l s = xv) := Lib.hid (by rw [HT.out, hstep, if_pos hq])
        clear hstep
        go_wp2_with fail
        go_ret
        exact ⟨by rw [HF.out]; rfl, by go_grown⟩
      · have hq : (xn.toList == s.toList) = false := by simpa using hq
        have HN : Hid (getL l s = getL (l.drop (k + 1)) s) := Lib.hid (by rw [HT.out, hstep, hq]; rfl)
        clear hstep
        go_wp2_with fail
        go_roundw
        case rel => exact ⟨k + 1, by omega, by go_num, HN, by go_grown⟩
        case measure => simp [intOf]; omega
    · have hks : k = l.length := by omega
      have HF : Hid (getL l s = ⟨#[]⟩) := Lib.hid (by rw [HT.out, hks, List.drop_length]; rfl)
      clear hks
      go_wp2_with fail
      go_ret
      exact ⟨by rw [HF.out]; rfl, hbl⟩
end Go.Proofs.Ytpkadghdnlkfiaa
