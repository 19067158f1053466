/- The program's Right, hasTwice and Get. -/
import Derived.Test.YtfmgphjnajgldaaDoorLbRM
import Derived.Test.YtfmgphjnajgldaaDoorLbV
import Derived.BigQuiet
import Derived.Deep.QuietTactic
import Derived.IntWalk
namespace Go.Proofs.YtfmgphjnajgldaaDoor
open Go.RowKit

theorem below_drewN {B : Nat} {a w : World} (h : Below B a w) (n : Nat) : Below B a (w.drewN n) := ⟨h.os, h.tape, h.output, h.size, h.block⟩

set_option maxHeartbeats 1600000 in
theorem right_any (K : Nat) (A : Option Addr) (n cap : Nat) (l : List Pp) (w : World) (hln : l.length = n) (hp : Lr w K A cap l) (hK : K ≤ w.heap.size) (hS : Sm l) :
    Calls Tryd.prog 22 #[.slice A n cap] w fun e w' => e = .returned (.bool (rightL l)) ∧ Below w.heap.size w w' := by
  subst hln
  have hle := hp.le
  have hmax := hp.max
  unfold maxLen at hmax
  by_cases h16 : 16 < l.length
  · rw [rightL_many h16]
    go_enter Tryd.func22, Tryd.ntmps22
    go_wp2
    go_ret
    exact ⟨rfl, Below.refl _ _⟩
  rw [rightL_of (by omega)]
  go_enter Tryd.func22, Tryd.ntmps22
  go_wp2
  go_loopw [10] (fun i wr => ∃ k : Nat, k ≤ l.length ∧ i = .int .i64 k ∧ Hid (rightTo l k = true) ∧ Below w.heap.size w wr) (fun i _ => l.length - (intOf i).toNat)
  case atStart => exact ⟨0, Nat.zero_le _, rfl, Lib.hid (rightTo_zero l), Below.refl _ _⟩
  case round =>
    obtain ⟨k, hk, rfl, HT, hbl⟩ := hrel
    have z := hbl.size
    by_cases hlt : k < l.length
    · obtain ⟨ad, rfl, hadK, h1, h2⟩ := lr_at (hp.below (hbl.mono hK)) hlt
      have hs := hS.at_ k
      have hstep : stepC l k = stepB (decide (k = 0)) (l.getD (k - 1) nilP).1 (l.getD k nilP).1 (l.getD k nilP).2 := rfl
      have hprev : 0 < k → wr.cell? (ad.add ((k - 1) * 2)) = some (.string (l.getD (k - 1) nilP).1) := by
        intro h0
        obtain ⟨ad', e', _, h3, _⟩ := lr_at (hp.below (hbl.mono hK)) (show k - 1 < l.length by omega)
        cases e'
        exact h3
      generalize (l.getD (k - 1) nilP).1 = pn at *
      generalize (l.getD k nilP).1 = xn at *
      generalize (l.getD k nilP).2 = xv at *
      have ms1 : xn.size ≤ maxLen := by unfold maxLen; omega
      have ms2 : xv.size ≤ maxLen := by unfold maxLen; omega
      by_cases hn : nameB xn = true
      · by_cases hv : valB xv = true
        · by_cases h0 : k = 0
          · have HN : Hid (rightTo l (k + 1) = true) := Lib.hid (by rw [rightTo_succ, HT.out, hstep]; simp [stepB, hn, hv, h0])
            have hg0 : decide (0 < k) = false := by simp; omega
            clear hstep hprev
            have HK0 := Lib.hid h0
            clear h0
            go_wp2_with (first
              | (go_at_call 38; refine (isName_any _ _ ms1).mono ?_; rintro e w' ⟨rfl, rfl⟩)
              | (go_at_call 39; refine (isValue_any _ _ ms2).mono ?_; rintro e w' ⟨rfl, rfl⟩))
            go_quiet (fail)
            go_wp2
            go_roundw
            case rel => exact ⟨k + 1, by omega, by go_num, HN, below_drewN (by go_grown) _⟩
            case measure => simp [intOf]; omega
          · have hg0 : decide (0 < k) = true := by simp; omega
            have h3 : ∀ o, (wr.alloc o).cell? (ad.add ((k - 1) * 2)) = some (.string pn) := fun o => keptA (hprev (by omega))
            have i0 : (0 : Int) ≤ (k : Int) - 1 := by omega
            have i1 : (k : Int) - 1 < l.length := by omega
            have iw : IntKind.i64.wrap ((k : Int) - 1) = (k : Int) - 1 := IntWalk.i64_in _ (by omega)
            have it : ((k : Int) - 1).toNat = k - 1 := by omega
            by_cases hl : Op.bytesLess pn.toList xn.toList = true
            · have HN : Hid (rightTo l (k + 1) = true) := Lib.hid (by rw [rightTo_succ, HT.out, hstep]; simp [stepB, hn, hv, ltB, hl])
              clear hstep hprev
              go_wp2_with (first
                | (go_at_call 38; refine (isName_any _ _ ms1).mono ?_; rintro e w' ⟨rfl, rfl⟩)
                | (go_at_call 39; refine (isValue_any _ _ ms2).mono ?_; rintro e w' ⟨rfl, rfl⟩))
              go_quiet (fail)
              clear iw it
              go_wp2
              go_roundw
              case rel => exact ⟨k + 1, by omega, by go_num, HN, below_drewN (by go_grown) _⟩
              case measure => simp [intOf]; omega
            · have hl : Op.bytesLess pn.toList xn.toList = false := by simpa using hl
              have HF : Hid (rightTo l l.length = false) := Lib.hid (rightTo_false (k := k) (by rw [hstep]; simp [stepB, ltB, hl, h0]) hlt)
              clear hstep hprev
              go_wp2_with (first
                | (go_at_call 38; refine (isName_any _ _ ms1).mono ?_; rintro e w' ⟨rfl, rfl⟩)
                | (go_at_call 39; refine (isValue_any _ _ ms2).mono ?_; rintro e w' ⟨rfl, rfl⟩))
              go_quiet (fail)
              clear iw it
              go_wp2
              go_ret
              exact ⟨ret_bool HF.out.symm, below_drewN (by go_grown) _⟩
        · have hv : valB xv = false := by simpa using hv
          have HF : Hid (rightTo l l.length = false) := Lib.hid (rightTo_false (k := k) (by rw [hstep]; simp [stepB, hv]) hlt)
          clear hstep hprev
          go_wp2_with (first
            | (go_at_call 38; refine (isName_any _ _ ms1).mono ?_; rintro e w' ⟨rfl, rfl⟩)
            | (go_at_call 39; refine (isValue_any _ _ ms2).mono ?_; rintro e w' ⟨rfl, rfl⟩))
          go_ret
          exact ⟨ret_bool HF.out.symm, by go_grown⟩
      · have hn : nameB xn = false := by simpa using hn
        have HF : Hid (rightTo l l.length = false) := Lib.hid (rightTo_false (k := k) (by rw [hstep]; simp [stepB, hn]) hlt)
        clear hstep hprev
        go_wp2_with (first
          | (go_at_call 38; refine (isName_any _ _ ms1).mono ?_; rintro e w' ⟨rfl, rfl⟩))
        go_ret
        exact ⟨ret_bool HF.out.symm, by go_grown⟩
    · have hks : k = l.length := by omega
      have HF : Hid (rightTo l l.length = true) := Lib.hid (hks ▸ HT.out)
      clear hks
      go_wp2_with fail
      go_ret
      exact ⟨ret_bool HF.out.symm, hbl⟩
end Go.Proofs.YtfmgphjnajgldaaDoor
