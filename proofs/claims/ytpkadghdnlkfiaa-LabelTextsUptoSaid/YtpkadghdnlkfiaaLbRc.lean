/- The document's Compare. -/
import Derived.Test.YtpkadghdnlkfiaaLbR
import Derived.Test.YtpkadghdnlkfiaaLbCM
namespace Go.Proofs.Ytpkadghdnlkfiaa
open Go.RowKit

set_option maxHeartbeats 3200000 in
theorem rCompare_any (K : Nat) (A B : Option Addr) (n m cap cbp : Nat) (a b : List Pp) (w : World) (hn : a.length = n) (hm : b.length = m) (ha : Lr w K A cap a) (hb : Lr w K B cbp b) (hK : K ≤ w.heap.size) :
    Calls Try.prog 39 #[.slice A n cap, .slice B m cbp] w fun e w' => e = .returned (.int .i64 (cmpL a b)) ∧ Below w.heap.size w w' := by
  subst hn hm
  have hle := ha.le
  have hmax := ha.max
  have hle2 := hb.le
  have hmax2 := hb.max
  unfold maxLen at hmax hmax2
  go_enter Try.func39, Try.ntmps39
  go_wp2
  go_loopw [5] (fun i wr => ∃ k : Nat, k ≤ a.length ∧ k ≤ b.length ∧ i = .int .i64 k ∧ Hid (cmpL a b = cmpL (a.drop k) (b.drop k)) ∧ Below w.heap.size w wr) (fun i _ => a.length - (intOf i).toNat)
  case atStart => exact ⟨0, Nat.zero_le _, Nat.zero_le _, rfl, Lib.hid rfl, Below.refl _ _⟩
  case round =>
    obtain ⟨k, hk, hk2, rfl, HT, hbl⟩ := hrel
    have z := hbl.size
    by_cases hlt : k < a.length
    · by_cases hlt2 : k < b.length
      · obtain ⟨ad, rfl, hadK, h1, h2⟩ := lr_at (ha.below (hbl.mono hK)) hlt
        obtain ⟨bd, rfl, hbdK, h3, h4⟩ := lr_at (hb.below (hbl.mono hK)) hlt2
        have hstep := cmpL_step hlt hlt2
        generalize (a.getD k nilP).1 = xn at *
        generalize (a.getD k nilP).2 = xv at *
        generalize (b.getD k nilP).1 = yn at *
        generalize (b.getD k nilP).2 = yv at *
        unfold ltB at hstep
        have i1 : (k : Int) < a.length := by omega
        have i2 : (k : Int) < b.length := by omega
        by_cases q1 : (xn.toList == yn.toList) = true
        · by_cases q2 : (xv.toList == yv.toList) = true
          · have HN : Hid (cmpL a b = cmpL (a.drop (k + 1)) (b.drop (k + 1))) := Lib.hid (by rw [HT.out, hstep, q1, q2]; rfl)
            clear hstep
            go_wp2_with fail
            go_quiet (fail)
            go_wp2_with fail
            go_quiet (fail)
            go_wp2_with fail
            go_roundw
            case rel => exact ⟨k + 1, by omega, by omega, by go_num, HN, by (repeat (first | exact hbl | apply below_drewN))⟩
            case measure => simp [intOf]; omega
          · have q2 : (xv.toList == yv.toList) = false := by simpa using q2
            by_cases q3 : Op.bytesLess xv.toList yv.toList = true
            · have HF : Hid (cmpL a b = -1) := Lib.hid (by rw [HT.out, hstep, q1, q2, q3]; rfl)
              clear hstep
              go_wp2_with fail
              go_quiet (fail)
              go_wp2_with fail
              go_quiet (fail)
              go_wp2_with fail
              go_quiet (fail)
              go_wp2_with fail
              go_ret
              exact ⟨ret_int HF.out.symm, by (repeat (first | exact hbl | apply below_drewN))⟩
            · have q3 : Op.bytesLess xv.toList yv.toList = false := by simpa using q3
              have HF : Hid (cmpL a b = 1) := Lib.hid (by rw [HT.out, hstep, q1, q2, q3]; rfl)
              clear hstep
              go_wp2_with fail
              go_quiet (fail)
              go_wp2_with fail
              go_quiet (fail)
              go_wp2_with fail
              go_quiet (fail)
              go_wp2_with fail
              go_ret
              exact ⟨ret_int HF.out.symm, by (repeat (first | exact hbl | apply below_drewN))⟩
        · have q1 : (xn.toList == yn.toList) = false := by simpa using q1
          by_cases q3 : Op.bytesLess xn.toList yn.toList = true
          · have HF : Hid (cmpL a b = -1) := Lib.hid (by rw [HT.out, hstep, q1, q3]; rfl)
            clear hstep
            go_wp2_with fail
            go_quiet (fail)
            go_wp2_with fail
            go_quiet (fail)
            go_wp2_with fail
            go_ret
            exact ⟨ret_int HF.out.symm, by (repeat (first | exact hbl | apply below_drewN))⟩
          · have q3 : Op.bytesLess xn.toList yn.toList = false := by simpa using q3
            have HF : Hid (cmpL a b = 1) := Lib.hid (by rw [HT.out, hstep, q1, q3]; rfl)
            clear hstep
            go_wp2_with fail
            go_quiet (fail)
            go_wp2_with fail
            go_quiet (fail)
            go_wp2_with fail
            go_ret
            exact ⟨ret_int HF.out.symm, by (repeat (first | exact hbl | apply below_drewN))⟩
      · have HF : Hid (cmpL a b = 1) := Lib.hid (by rw [HT.out]; exact cmpL_right hlt (by omega))
        have hg : b.length < a.length := by omega
        go_wp2_with fail
        go_ret
        exact ⟨ret_int HF.out.symm, hbl⟩
    · have hke : k = a.length := by omega
      by_cases hlt2 : k < b.length
      · have HF : Hid (cmpL a b = -1) := Lib.hid (by rw [HT.out]; exact cmpL_left (by omega) hlt2)
        have hg : a.length < b.length := by omega
        have HE := Lib.hid hke
        clear hke
        go_wp2_with fail
        go_ret
        exact ⟨ret_int HF.out.symm, hbl⟩
      · have HF : Hid (cmpL a b = 0) := Lib.hid (by rw [HT.out]; exact cmpL_both (by omega) (by omega))
        have hg : ¬ a.length < b.length := by omega
        have hg2 : ¬ b.length < a.length := by omega
        have HE := Lib.hid hke
        clear hke
        go_wp2_with fail
        go_ret
        exact ⟨ret_int HF.out.symm, hbl⟩
end Go.Proofs.Ytpkadghdnlkfiaa
