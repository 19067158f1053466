/- The law LabelTexts: its walk. -/
import Derived.Test.YtpkadghdnlkfiaaLbA
import Derived.Test.YtpkadghdnlkfiaaLbPR
import Derived.Test.YtpkadghdnlkfiaaLbXr
import Derived.Test.YtpkadghdnlkfiaaLbRd
import Derived.Test.YtpkadghdnlkfiaaLbTf
namespace Go.Proofs.Ytpkadghdnlkfiaa
open Go.RowKit

theorem parseL_few (t : List UInt8) : (parseL t).length ≤ 16 := by
  unfold parseL
  split
  · simp
  · split
    · simp
    · split
      · rename_i h
        simp only [rightL, Bool.and_eq_true, decide_eq_true_eq] at h
        exact h.1
      · simp

set_option maxRecDepth 100000 in
set_option maxHeartbeats 3200000 in
theorem texts_any (K : Nat) (A : Option Addr) (cap : Nat) (l : List Pp) (t : ByteArray) (w : World) (hp : Lr w K A cap l) (hK : K ≤ w.heap.size) (hS : Sm l) (hl : l.length ≤ 1048576) (hm : Mx w) (ht : t.size ≤ 1048576) :
    Calls Try.prog 6 #[.slice A l.length cap, .string t] w fun e w' => e = .returned (.bool true) ∧ Below w.heap.size w w' := by
  have HS := Lib.hid hS
  have HP := Lib.hid hp
  have HMX := Lib.hid hm
  have hfew := parseL_few t.data.toList
  clear hp hS hm
  generalize hZ : parseL t.data.toList = Z at *
  generalize hG : parseE t.data.toList = G at *
  have HZ := Lib.hid hZ
  have HG := Lib.hid hG
  clear hZ hG
  go_enter Try.func6, Try.ntmps6
  go_wp2_with fail
  refine (parse_any t w HMX.out (by unfold maxLen; omega)).mono ?_
  rintro e w1 ⟨A1, c1, rfl, ha1, hb1⟩
  rw [HZ.out] at ha1
  rw [HZ.out, HG.out]
  have z1 := hb1.size
  have hx1 := (So.sr encP_len ha1).1
  clear ha1
  go_wp2_with fail
  refine (rParse_any t w1 (by unfold maxLen; omega)).mono ?_
  rintro e w2 ⟨A2, c2, rfl, ha2, hb2⟩
  rw [HZ.out] at ha2
  rw [HZ.out, HG.out]
  have B2 := hb1.trans (hb2.mono z1)
  have z2 := B2.size
  have hy2 := (So.sr encP_len ha2).1
  have hx2 := hx1.below hb2
  have z12 := hb2.size
  clear ha2 hb1 hb2 hx1
  go_wp2_with (first
    | (go_at_call 8; refine (awake_any _).mono ?_; rintro e w3 ⟨rfl, hb3⟩; have z3 := hb3.size)
    | (go_at_call 13; fail)
    | fail)
  have B3 := B2.trans (hb3.mono z2)
  refine (to_any K A l.length cap l w3 rfl (HP.out.below (B3.mono hK)) (by omega) (by omega)).mono ?_
  rintro e w4 ⟨A4, c4, rfl, ha4, hb4⟩
  have z4 := hb4.size
  have B4 := B3.trans (hb4.mono B3.size)
  have C4 := hb3.trans (hb4.mono z3)
  have hl4 := (So.sr encP_len ha4).1
  clear ha4
  go_wp2_with fail
  refine (text_any w4.heap.size A4 l.length c4 l w4 rfl hl4 (Nat.le_refl _) HS.out hl).mono ?_
  rintro e w5 ⟨rfl, hb5⟩
  have z5 := hb5.size
  have B5 := B4.trans (hb5.mono B4.size)
  have C5 := C4.trans (hb5.mono C4.size)
  go_wp2_with fail
  refine (rText_any K A l.length cap l w5 rfl (HP.out.below (B5.mono hK)) (by omega) HS.out hl).mono ?_
  rintro e w6 ⟨rfl, hb6⟩
  have z6 := hb6.size
  have B6 := B5.trans (hb6.mono B5.size)
  have C6 := C5.trans (hb6.mono C5.size)
  have zz := C6.size
  generalize (⟨(textB l).toArray⟩ : ByteArray) = S at *
  have hseq : (S.toList == S.toList) = true := by simp
  clear hb3 hb4 hb5 hb6 hl4 B2 B3 B4 B5 C4 C5
  go_wp2_with fail
  refine (from_any w2.heap.size A1 Z.length c1 Z w6 rfl ((hx2.more z12).below C6) zz (by omega)).mono ?_
  rintro e w7 ⟨A7, c7, rfl, ha7, hb7⟩
  have z7 := hb7.size
  have B7 := B6.trans (hb7.mono B6.size)
  have C7 := C6.trans (hb7.mono zz)
  have hf7 := (So.sr encP_len ha7).1
  clear ha7
  go_wp2_with fail
  refine (rSame_any w7.heap.size A7 A2 Z.length Z.length c7 c2 Z Z w7 rfl rfl hf7 ((hy2.below C7).more C7.size) (Nat.le_refl _)).mono ?_
  rintro e w8 ⟨rfl, hb8⟩
  rw [cmpL_self]
  have B8 := B7.trans (hb8.mono B7.size)
  go_wp2_with fail
  go_ret
  exact ⟨ret_bool (by simp), B8⟩
end Go.Proofs.Ytpkadghdnlkfiaa
