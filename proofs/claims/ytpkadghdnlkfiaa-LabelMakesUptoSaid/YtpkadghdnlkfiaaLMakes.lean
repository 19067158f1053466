/- The law LabelMakes: its walk. -/
import Derived.Test.YtpkadghdnlkfiaaLbA
import Derived.Test.YtpkadghdnlkfiaaLbRk
import Derived.Test.YtpkadghdnlkfiaaLbRc
namespace Go.Proofs.Ytpkadghdnlkfiaa
open Go.RowKit

theorem Sm.make {l : List Pp} (h : Sm l) : Sm (makeL l) := by
  unfold makeL
  split
  · exact h.perm (srt_perm l)
  · intro x hx; simp at hx
theorem makeL_len (l : List Pp) : (makeL l).length ≤ l.length := by
  unfold makeL
  split
  · rw [srt_length]; exact Nat.le_refl _
  · simp

set_option maxHeartbeats 3200000 in
theorem makes_any (K : Nat) (A : Option Addr) (cap : Nat) (l : List Pp) (s : ByteArray) (w : World) (hp : Lr w K A cap l) (hK : K ≤ w.heap.size) (hS : Sm l) (hl : l.length ≤ 1048576) :
    Calls Try.prog 4 #[.slice A l.length cap, .string s] w fun e w' => e = .returned (.bool true) ∧ Below w.heap.size w w' := by
  have HTO := Lib.hid (to_any K A l.length cap l w rfl hp hK (by omega))
  have HS := Lib.hid hS
  have HP := Lib.hid hp
  have hmk := makeL_len l
  have HSM := Lib.hid hS.make
  have hself := cmpL_self
  have HSELF := Lib.hid hself
  clear hp hself
  generalize hM : makeL l = M at *
  generalize hE : makeE l = E at *
  have HM := Lib.hid hM
  have HE := Lib.hid hE
  clear hM hE hS
  go_enter Try.func4, Try.ntmps4
  go_wp2_with (go_at_call 13; refine HTO.out.mono ?_; rintro e w1 ⟨A1, c1, rfl, ha1, hb1⟩)
  have z1 := hb1.size
  have hr1 := (So.sr encP_len ha1).1
  refine (make_any w1.heap.size A1 l.length c1 l w1 rfl hr1 (Nat.le_refl _) HS.out hl).mono ?_
  rintro e w2 ⟨A2, c2, rfl, ha2, hb2⟩
  rw [HM.out] at ha2
  rw [HM.out, HE.out]
  have B2 := hb1.trans (hb2.mono z1)
  have z2 := B2.size
  go_wp2_with fail
  refine (rMake_any K A l.length cap l w2 rfl (HP.out.below (B2.mono hK)) (by omega) HS.out hl).mono ?_
  rintro e w3 ⟨A3, c3, rfl, ha3, hb3⟩
  rw [HM.out] at ha3
  rw [HM.out, HE.out]
  have B3 := B2.trans (hb3.mono z2)
  have z3 := B3.size
  have hx3 := (So.sr encP_len (So.below ha2 hb3)).1
  have hy3 := (So.sr encP_len ha3).1
  have hin3 := hr1.below (hb2.trans (hb3.mono hb2.size))
  have hl3 := HP.out.below (B3.mono hK)
  have z13 : w1.heap.size ≤ w3.heap.size := Nat.le_trans hb2.size hb3.size
  clear ha1 ha2 ha3 hb1 hb2 hb3 hr1 B2 z1 z2
  go_wp2_with (first
    | (go_at_call 8; refine (awake_any _).mono ?_; rintro e w4 ⟨rfl, hb4⟩; have z4 := hb4.size)
    | (go_at_call 17; fail)
    | fail)
  refine (from_any w3.heap.size A2 M.length c2 M w4 rfl (hx3.below hb4) z4 (by omega)).mono ?_
  rintro e w5 ⟨A5, c5, rfl, ha5, hb5⟩
  have B5 : Below w3.heap.size w3 w5 := hb4.trans (hb5.mono z4)
  have z5 := hb5.size
  have hf5 := (So.sr encP_len ha5).1
  go_wp2_with fail
  refine (rSame_any w5.heap.size A5 A3 M.length M.length c5 c3 M M w5 rfl rfl hf5 ((hy3.below B5).more (by omega)) (Nat.le_refl _)).mono ?_
  rintro e w6 ⟨rfl, hb6⟩
  rw [HSELF.out]
  have B6 : Below w3.heap.size w3 w6 := B5.trans (hb6.mono (by omega))
  have z6 := B6.size
  clear hb4 hb5 hb6 B5 hf5 ha5
  go_wp2_with fail
  refine (from_any w1.heap.size A1 l.length c1 l w6 rfl (hin3.below (B6.mono z13)) (by omega) (by omega)).mono ?_
  rintro e w7 ⟨A7, c7, rfl, ha7, hb7⟩
  have B7 : Below w3.heap.size w3 w7 := B6.trans (hb7.mono z6)
  have z7 := B7.size
  have hf7 := (So.sr encP_len ha7).1
  go_wp2_with fail
  refine (rSame_any w7.heap.size A7 A l.length l.length c7 cap l l w7 rfl rfl hf7 ((hl3.below (B7.mono (by omega))).more (by omega)) (Nat.le_refl _)).mono ?_
  rintro e w8 ⟨rfl, hb8⟩
  rw [HSELF.out]
  have B8 : Below w3.heap.size w3 w8 := B7.trans (hb8.mono z7)
  have z8 := B8.size
  clear hb7 hb8 hf7 ha7 B6 B7
  go_wp2_with fail
  refine (right_any w1.heap.size A1 l.length c1 l w8 rfl (hin3.below (B8.mono z13)) (by omega) HS.out).mono ?_
  rintro e w9 ⟨rfl, hb9⟩
  have B9 : Below w3.heap.size w3 w9 := B8.trans (hb9.mono z8)
  have z9 := B9.size
  go_wp2_with fail
  refine (rRight_any K A l.length cap l w9 rfl (hl3.below (B9.mono (by omega))) (by omega) HS.out).mono ?_
  rintro e w10 ⟨rfl, hb10⟩
  have B10 : Below w3.heap.size w3 w10 := B9.trans (hb10.mono z9)
  have z10 := B10.size
  generalize rightL l = rl at *
  clear hb9 hb10 B8 B9
  go_wp2_with fail
  refine (getv_any w1.heap.size A1 l.length c1 l s w10 rfl (hin3.below (B10.mono z13)) (by omega)).mono ?_
  rintro e w11 ⟨rfl, hb11⟩
  have B11 : Below w3.heap.size w3 w11 := B10.trans (hb11.mono z10)
  have z11 := B11.size
  go_wp2_with fail
  refine (rGet_any K A l.length cap l s w11 rfl (hl3.below (B11.mono (by omega))) (by omega)).mono ?_
  rintro e w12 ⟨rfl, hb12⟩
  generalize getL l s = gl at *
  go_wp2_with fail
  go_ret
  exact ⟨ret_bool (by simp), B3.trans ((B11.trans (hb12.mono z11)).mono z3)⟩
end Go.Proofs.Ytpkadghdnlkfiaa
