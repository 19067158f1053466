/- The document's Make. -/
import Derived.Test.YtpkadghdnlkfiaaLbRs
import Derived.Test.YtpkadghdnlkfiaaLbMk
namespace Go.Proofs.Ytpkadghdnlkfiaa
open Go.RowKit

def MakeDPost (w : World) (l : List Pp) (e : Ending) (w' : World) : Prop :=
  ∃ A' cap', e = .returned (.tuple #[.slice A' (makeL l).length cap', .int .i64 (makeE l)]) ∧ Ld w' w.heap.size (.slice A' (makeL l).length cap') (makeL l) ∧ Below w.heap.size w w'

theorem twC_eq (l : List Pp) (k : Nat) : twC l k = ((l.getD (k + 1) nilP).1.toList == (l.getD k nilP).1.toList) := by
  unfold twC
  rw [Bool.eq_iff_iff, beq_iff_eq, beq_iff_eq]
  exact eq_comm

set_option maxHeartbeats 3200000 in
theorem rMake_any (K : Nat) (A : Option Addr) (n cap : Nat) (l : List Pp) (w : World) (hln : l.length = n) (hp : Lr w K A cap l) (hK : K ≤ w.heap.size) (hS : Sm l) (hl : l.length ≤ 1048576) :
    Calls Try.prog 15 #[.slice A n cap] w (MakeDPost w l) := by
  have HC := Lib.hid (rSorted_any K A n cap l w hln hp hK hl)
  have HSM := Lib.hid (hS.perm (srt_perm l))
  have hsl := srt_length l
  have e7 := Lib.hid (make_7 (l := l))
  have e40 := Lib.hid (make_40 (l := l))
  have e0 := Lib.hid (make_0 (l := l))
  clear hln hp
  have HSL := Lib.hid hsl
  clear hsl
  generalize hm : srt l = m at *
  clear hm
  go_enter Try.func15, Try.ntmps15
  go_wp2_with (go_at_call 38; refine HC.out.mono ?_; rintro e w1 ⟨A1, c1, rfl, ha1, hb1⟩)
  have z1 := hb1.size
  obtain ⟨hr1, _⟩ := So.sr encP_len ha1
  have hci := hr1.le
  have hcm := hr1.max
  unfold maxLen at hcm
  have hml : m.length ≤ 1048576 := by rw [HSL.out]; exact hl
  go_loopw [5] (fun i wr => ∃ k q : Nat, (k + 1 ≤ m.length ∨ k = 0) ∧ i = .int .i64 ((k : Int) + 1) ∧ Hid (twTo m k = false) ∧ wr = w1.drewN q) (fun i _ => m.length + 1 - (intOf i).toNat)
  case atStart => exact ⟨0, 0, .inr rfl, rfl, Lib.hid (twTo_zero m), rfl⟩
  case round =>
    obtain ⟨k, q, hk, rfl, HT, rfl⟩ := hrel
    by_cases hlt : k + 1 < m.length
    · obtain ⟨ad, rfl, hadK, h1, _⟩ := lr_at hr1 (show k < m.length by omega)
      obtain ⟨ad', e', _, h2, _⟩ := lr_at hr1 hlt
      cases e'
      have hstep := twC_eq m k
      have htl : twC m k = true → twL m = true := fun h => twTo_true (k := k) h (by omega)
      generalize (m.getD k nilP).1 = xn at *
      generalize (m.getD (k + 1) nilP).1 = yn at *
      have i0 : (0 : Int) ≤ (k : Int) + 1 := by omega
      have i1 : (k : Int) + 1 < m.length := by omega
      have i2 : (k : Int) < m.length := by omega
      have iw : IntKind.i64.wrap ((k : Int) + 1 - 1) = k := by rw [show (k : Int) + 1 - 1 = k by omega]; exact IntWalk.i64_in _ (by omega)
      have iz : (k : Int) + 1 - 1 = k := by omega
      have it : ((k : Int) + 1).toNat = k + 1 := by omega
      by_cases hq : (yn.toList == xn.toList) = true
      · obtain ⟨f1, f2⟩ := e7.out (htl (by rw [hstep]; exact hq))
        have F1 := Lib.hid f1
        have F2 := Lib.hid f2
        clear f1 f2 hstep htl
        go_wp2_with fail
        go_quiet (fail)
        clear iw it iz
        go_wp2_with fail
        go_ret2
        refine ⟨none, 0, ret_make (by rw [F2.out]; rfl) F1.out.symm, ?_, by (repeat (first | exact hb1 | apply below_drewN))⟩
        rw [F2.out]
        exact So.empty _ _ _ _ _
      · have hq : (yn.toList == xn.toList) = false := by simpa using hq
        have HN : Hid (twTo m (k + 1) = false) := Lib.hid (by rw [twTo_succ, HT.out, hstep, hq]; rfl)
        clear hstep htl
        go_wp2_with fail
        go_quiet (fail)
        clear iw it iz
        go_wp2_with fail
        go_roundw
        case rel => exact ⟨k + 1, _, .inl (by omega), by go_num, HN, rfl⟩
        case measure => simp [intOf]; omega
    · have htw : twL m = false := by
        unfold twL
        rcases hk with h | h
        · rw [show m.length - 1 = k by omega]; exact HT.out
        · by_cases h0 : m.length = 0
          · rw [h0]; rfl
          · rw [show m.length - 1 = k by omega]; exact HT.out
      have HTW := Lib.hid htw
      have i1 : ¬ (k : Int) + 1 < m.length := by omega
      clear htw
      have hr2 := rRight_any w1.heap.size A1 m.length c1 m (w1.drewN q) rfl (Sr.drewN hr1 q) (Nat.le_refl _) HSM.out
      by_cases hr : rightL m = true
      · obtain ⟨f1, f2⟩ := e0.out HTW.out hr
        have F1 := Lib.hid f1
        have F2 := Lib.hid f2
        rw [hr] at hr2
        have HR := Lib.hid hr2
        clear f1 f2 hr2
        go_wp2_with (go_at_call 19; refine HR.out.mono ?_; rintro e w4 ⟨rfl, hb4⟩)
        go_ret2
        have B4 : Below w1.heap.size w1 w4 := (below_drewN (Below.refl _ _) q).trans hb4
        refine ⟨A1, c1, ret_make (by rw [F2.out]) F1.out.symm, ?_, hb1.trans (B4.mono z1)⟩
        rw [F2.out]
        exact So.below ha1 B4
      · have hr : rightL m = false := by simpa using hr
        obtain ⟨f1, f2⟩ := e40.out HTW.out hr
        have F1 := Lib.hid f1
        have F2 := Lib.hid f2
        rw [hr] at hr2
        have HR := Lib.hid hr2
        clear f1 f2 hr2
        go_wp2_with (go_at_call 19; refine HR.out.mono ?_; rintro e w4 ⟨rfl, hb4⟩)
        go_ret2
        have B4 : Below w1.heap.size w1 w4 := (below_drewN (Below.refl _ _) q).trans hb4
        refine ⟨none, 0, ret_make (by rw [F2.out]; rfl) F1.out.symm, ?_, hb1.trans (B4.mono z1)⟩
        rw [F2.out]
        exact So.empty _ _ _ _ _
end Go.Proofs.Ytpkadghdnlkfiaa
