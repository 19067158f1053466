/- The document's Right of rules. -/
import Derived.Test.YtfmgphjnajgldaaDoorMtR
import Derived.Test.YtfmgphjnajgldaaDoorLbVr
namespace Go.Proofs.YtfmgphjnajgldaaDoor
open Go.RowKit

set_option maxRecDepth 100000 in
set_option maxHeartbeats 3200000 in
theorem rRightR_any (K : Nat) (A : Option Addr) (n cap : Nat) (l : List Rp) (w : World) (hln : l.length = n) (hp : Rr w K A cap l) (hK : K ≤ w.heap.size) (hS : SmR l) :
    Calls Tryd.prog 11 #[.slice A n cap] w fun e w' => e = .returned (.bool (rulesL l)) ∧ Below w.heap.size w w' := by
  subst hln
  have hle := hp.le
  have hmax := hp.max
  unfold maxLen at hmax
  go_enter Tryd.func11, Tryd.ntmps11
  go_wp2
  go_loopw [3] (fun i wr => ∃ k : Nat, k ≤ l.length ∧ i = .int .i64 k ∧ Hid (rulesTo l k = true) ∧ Below w.heap.size w wr) (fun i _ => l.length - (intOf i).toNat)
  case atStart => exact ⟨0, Nat.zero_le _, rfl, Lib.hid (rulesTo_zero l), Below.refl _ _⟩
  case round =>
    obtain ⟨k, hk, rfl, HT, hbl⟩ := hrel
    have z := hbl.size
    by_cases hlt : k < l.length
    · obtain ⟨ad, rfl, hadK, h1, h2, h3⟩ := rr_at (hp.below (hbl.mono hK)) hlt
      have hs := hS.at_ k
      have hnext := rulesTo_succ hlt
      have hno : ruleB (l.getD k nilR) = false → rulesL l = false := fun h => by unfold rulesL; rw [all_getR hlt _ h]; simp
      generalize l.getD k nilR = x at *
      obtain ⟨xn, xo, xv⟩ := x
      simp only at h1 h2 h3 hs
      have ms1 : xn.size ≤ maxLen := by unfold maxLen; omega
      have ms2 : xv.size ≤ maxLen := by unfold maxLen; omega
      by_cases hn : nameB xn = true
      · by_cases o1 : xo < 1
        · have HF : Hid (rulesL l = false) := Lib.hid (hno (by
            have : opB xo = false := by simp [opB]; omega
            simp [ruleB, this]))
          clear hnext hno
          go_wp2_with (first
          | (go_at_call 24; refine (rIsName_any _ _ ms1).mono ?_; rintro e w' ⟨rfl, rfl⟩)
          | (go_at_call 25; refine (rIsValue_any _ _ ms2).mono ?_; rintro e w' ⟨rfl, rfl⟩))
          go_ret
          exact ⟨ret_bool HF.out.symm, hbl⟩
        by_cases o4 : 4 < xo
        · have HF : Hid (rulesL l = false) := Lib.hid (hno (by
            have : opB xo = false := by simp [opB]; omega
            simp [ruleB, this]))
          clear hnext hno
          go_wp2_with (first
          | (go_at_call 24; refine (rIsName_any _ _ ms1).mono ?_; rintro e w' ⟨rfl, rfl⟩)
          | (go_at_call 25; refine (rIsValue_any _ _ ms2).mono ?_; rintro e w' ⟨rfl, rfl⟩))
          go_ret
          exact ⟨ret_bool HF.out.symm, hbl⟩
        have ho : opB xo = true := by simp [opB]; omega
        by_cases he : (xv.toList == []) = true
        · have HN : Hid (rulesTo l (k + 1) = true) := Lib.hid (by rw [hnext, HT.out]; simp only [ruleB, hn, ho, emB, he]; rfl)
          clear ho
          clear hnext hno
          go_wp2_with (first
          | (go_at_call 24; refine (rIsName_any _ _ ms1).mono ?_; rintro e w' ⟨rfl, rfl⟩)
          | (go_at_call 25; refine (rIsValue_any _ _ ms2).mono ?_; rintro e w' ⟨rfl, rfl⟩))
          go_roundw
          case rel => exact ⟨k + 1, by omega, by go_num, HN, hbl⟩
          case measure => simp [intOf]; omega
        have he : (xv.toList == []) = false := by simpa using he
        by_cases hv : valB xv = true
        · have HN : Hid (rulesTo l (k + 1) = true) := Lib.hid (by rw [hnext, HT.out]; simp only [ruleB, hn, ho, emB, he, hv]; rfl)
          clear ho
          clear hnext hno
          go_wp2_with (first
          | (go_at_call 24; refine (rIsName_any _ _ ms1).mono ?_; rintro e w' ⟨rfl, rfl⟩)
          | (go_at_call 25; refine (rIsValue_any _ _ ms2).mono ?_; rintro e w' ⟨rfl, rfl⟩))
          go_roundw
          case rel => exact ⟨k + 1, by omega, by go_num, HN, hbl⟩
          case measure => simp [intOf]; omega
        · have hv : valB xv = false := by simpa using hv
          have HF : Hid (rulesL l = false) := Lib.hid (hno (by simp only [ruleB, hn, ho, emB, he, hv]; rfl))
          clear ho
          clear hnext hno
          go_wp2_with (first
          | (go_at_call 24; refine (rIsName_any _ _ ms1).mono ?_; rintro e w' ⟨rfl, rfl⟩)
          | (go_at_call 25; refine (rIsValue_any _ _ ms2).mono ?_; rintro e w' ⟨rfl, rfl⟩))
          go_ret
          exact ⟨ret_bool HF.out.symm, hbl⟩
      · have hn : nameB xn = false := by simpa using hn
        have HF : Hid (rulesL l = false) := Lib.hid (hno (by simp only [ruleB, hn]; rfl))
        clear hnext hno
        go_wp2_with (go_at_call 24; refine (rIsName_any _ _ ms1).mono ?_; rintro e w' ⟨rfl, rfl⟩)
        go_ret
        exact ⟨ret_bool HF.out.symm, hbl⟩
    · have hks : k = l.length := by omega
      have HF : Hid (rulesL l = decide ((l.length : Int) ≤ 16)) := Lib.hid (by unfold rulesL; rw [← rulesTo_all, ← hks, HT.out]; simp; omega)
      clear hks
      go_wp2_with fail
      go_ret
      exact ⟨ret_bool HF.out.symm, hbl⟩
end Go.Proofs.YtfmgphjnajgldaaDoor
