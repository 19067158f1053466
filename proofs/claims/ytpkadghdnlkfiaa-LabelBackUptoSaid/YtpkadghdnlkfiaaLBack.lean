/- The law LabelBack: its walk. -/
import Derived.Test.YtpkadghdnlkfiaaLbA
import Derived.Test.YtpkadghdnlkfiaaLbBM
import Derived.Test.YtpkadghdnlkfiaaLbK
import Derived.Test.YtpkadghdnlkfiaaLbTf
namespace Go.Proofs.Ytpkadghdnlkfiaa
open Go.RowKit

theorem rightL_names {l : List Pp} (h : rightL l = true) : l.length ≤ 16 ∧ ∀ y ∈ l, ∀ c ∈ y.1.data.toList, ¬ (c.toNat : Int) = 61 := by
  simp only [rightL, Bool.and_eq_true, decide_eq_true_eq] at h
  refine ⟨h.1, fun y hy => ?_⟩
  obtain ⟨k, hk, rfl⟩ := List.getElem_of_mem hy
  have h2 := h.2
  simp only [rightTo, List.all_eq_true, List.mem_range] at h2
  have h3 := h2 k hk
  simp only [stepC, stepB, Bool.and_eq_true] at h3
  have h4 := h3.1.1
  rw [List.getD_eq_getElem?_getD, List.getElem?_eq_getElem hk] at h4
  exact name_no61 h4
theorem make_right {l : List Pp} (h : makeE l = 0) : rightL (makeL l) = true := by
  have e : makeL l = srt l := by rw [makeL, if_pos h]
  rw [e]
  unfold makeE at h
  split at h
  · cases h
  · split at h
    · assumption
    · cases h
theorem back_there {m : List Pp} (h : rightL m = true) (hs : (textB m).length ≤ 4096) : parseE (textB m) = 0 ∧ parseL (textB m) = m :=
  parse_some (by omega) (read_text (rightL_names h).2) h
theorem back_here {t : List UInt8} (h : parseE t = 0) : textB (parseL t) = t ∧ rightL (parseL t) = true ∧ Sm (parseL t) ∧ (parseL t).length ≤ 16 := by
  by_cases h1 : 4096 < t.length
  · rw [(parse_long h1).1] at h; cases h
  · cases hr : readB t with
    | none => rw [(parse_none h1 hr).1] at h; cases h
    | some m =>
      by_cases hR : rightL m = true
      · obtain ⟨_, e⟩ := parse_some h1 hr hR
        rw [e]
        exact ⟨text_read hr, hR, readB_sm (by omega) hr, (rightL_names hR).1⟩
      · rw [(parse_no h1 hr (by simpa using hR)).1] at h; cases h
theorem textB_len {m : List Pp} (h : Sm m) (hl : m.length ≤ 16) : (textB m).length ≤ 100000000 := by
  have := parts_len h
  have : m.length * 4000001 ≤ 16 * 4000001 := Nat.mul_le_mul_right _ hl
  simp [textB]
  omega
theorem bytes_eq (t : ByteArray) : (⟨t.data.toList.toArray⟩ : ByteArray) = t := by
  cases t; simp

theorem Sm.makeB {l : List Pp} (h : Sm l) : Sm (makeL l) := by
  unfold makeL
  split
  · exact h.perm (srt_perm l)
  · intro x hx; simp at hx
set_option maxRecDepth 100000 in
set_option maxHeartbeats 3200000 in
theorem back_any (K : Nat) (A : Option Addr) (cap : Nat) (l : List Pp) (t : ByteArray) (w : World) (hp : Lr w K A cap l) (hK : K ≤ w.heap.size) (hS : Sm l) (hl : l.length ≤ 1048576) (hm : Mx w) (ht : t.size ≤ 1048576) :
    Calls Try.prog 7 #[.slice A l.length cap, .string t] w fun e w' => e = .returned (.bool true) ∧ Below w.heap.size w w' := by
  have HTO := Lib.hid (to_any K A l.length cap l w rfl hp hK (by omega))
  have HS := Lib.hid hS
  have HP := Lib.hid hp
  have HSM := Lib.hid hS.makeB
  have HMR := Lib.hid (@make_right l)
  have HMX := Lib.hid hm
  have htl : t.data.toList.length = t.size := by simp
  have HBH := Lib.hid (@back_here t.data.toList)
  clear hp hS hm
  generalize hM : makeL l = M at *
  generalize hE : makeE l = E at *
  generalize hZ : parseL t.data.toList = Z at *
  generalize hG : parseE t.data.toList = G at *
  have HM := Lib.hid hM
  have HE := Lib.hid hE
  have HZ := Lib.hid hZ
  have HG := Lib.hid hG
  clear hM hE hZ hG
  have HSEQ := Lib.hid (show (t.toList == t.toList) = true by simp)
  go_enter Try.func7, Try.ntmps7
  go_wp2_with (go_at_call 13; refine HTO.out.mono ?_; rintro e w1 ⟨A1, c1, rfl, ha1, hb1⟩)
  have z1 := hb1.size
  have hr1 := (So.sr encP_len ha1).1
  refine (make_any w1.heap.size A1 l.length c1 l w1 rfl hr1 (Nat.le_refl _) HS.out hl).mono ?_
  rintro e w2 ⟨A2, c2, rfl, ha2, hb2⟩
  rw [HM.out] at ha2
  rw [HM.out, HE.out]
  have B2 := hb1.trans (hb2.mono z1)
  have z2 := B2.size
  have hx2 := (So.sr encP_len ha2).1
  clear ha1 ha2 hb1 hb2 hr1
  by_cases hE0 : E = 0
  ·
    have hR := HMR.out hE0
    obtain ⟨h16, _⟩ := rightL_names hR
    have hTL := textB_len HSM.out h16
    have HBT := Lib.hid (@back_there M hR)
    clear hR
    go_wp2_with fail
    refine (text_any w2.heap.size A2 M.length c2 M w2 rfl hx2 (Nat.le_refl _) HSM.out (by omega)).mono ?_
    rintro e w3 ⟨rfl, hb3⟩
    have B3 := B2.trans (hb3.mono z2)
    have z3 := B3.size
    have hszT : (⟨(textB M).toArray⟩ : ByteArray).size = (textB M).length := by simp [ByteArray.size]
    have etT : (⟨(textB M).toArray⟩ : ByteArray).data.toList = textB M := by simp
    generalize textB M = T at *
    generalize (⟨T.toArray⟩ : ByteArray) = S at *
    have HET := Lib.hid etT
    clear etT
    go_wp2_with fail
    refine (parse_any S w3 (HMX.out.below B3) (by unfold maxLen; omega)).mono ?_
    rintro e w4 ⟨A4, c4, rfl, ha4, hb4⟩
    rw [HET.out] at ha4
    rw [HET.out]
    have B4 := B3.trans (hb4.mono z3)
    have z4 := B4.size
    have hy4 := (So.sr encP_len ha4).1
    have hx4 := (hx2.below (hb3.trans (hb4.mono hb3.size)))
    have z24 : w2.heap.size ≤ w4.heap.size := Nat.le_trans hb3.size (Nat.le_trans (Nat.le_refl _) hb4.size)
    clear ha4 hb3 hb4
    by_cases hT : T.length ≤ 4096
    ·
      obtain ⟨e1, e2⟩ := HBT.out hT
      have E1 := Lib.hid e1
      have E2 := Lib.hid e2
      clear e1 e2
      rw [E2.out] at hy4
      rw [E1.out, E2.out]
      go_wp2_with fail
      refine (compareL_any w4.heap.size A2 A4 M.length M.length c2 c4 M M w4 rfl rfl (hx4.more z24) hy4 (Nat.le_refl _)).mono ?_
      rintro e w5 ⟨rfl, hb5⟩
      rw [cmpL_self]
      have B5 := B4.trans (hb5.mono z4)
      have z5 := B5.size
      clear hx4 hy4 hx2 hb5 E1 E2 HBT B4 B3 B2
      go_wp2_with fail
      refine (parse_any t w5 (HMX.out.below B5) (by unfold maxLen; omega)).mono ?_
      rintro e w6 ⟨A6, c6, rfl, ha6, hb6⟩
      rw [HZ.out] at ha6
      rw [HZ.out, HG.out]
      have B6 := B5.trans (hb6.mono B5.size)
      have z6 := B6.size
      have hz6 := (So.sr encP_len ha6).1
      clear ha6 hb6
      by_cases hG0 : G = 0
      ·
        obtain ⟨e1, e2, e3, e4⟩ := HBH.out hG0
        have E1 := Lib.hid e1
        have E2 := Lib.hid e2
        have E3 := Lib.hid e3
        clear e1 e2 e3
        go_wp2_with (first
          | (go_at_call 8; refine (awake_any _).mono ?_; rintro e w7 ⟨rfl, hb7⟩; have z7 := hb7.size)
          | (go_at_call 28; fail)
          | fail)
        refine (text_any w6.heap.size A6 Z.length c6 Z w7 rfl (hz6.below hb7) z7 E3.out (by omega)).mono ?_
        rintro e w8 ⟨rfl, hb8⟩
        rw [E1.out, bytes_eq]
        have B8 := B6.trans ((hb7.trans (hb8.mono z7)).mono z6)
        have z8 := hb8.size
        have hz8 := (hz6.below hb7).below (hb8.mono z7)
        clear hz6 hb8
        have hseq := HSEQ.out
        go_wp2_with fail
        refine (right_any w6.heap.size A6 Z.length c6 Z w8 rfl hz8 (by omega) E3.out).mono ?_
        rintro e w9 ⟨rfl, hb9⟩
        rw [E2.out]
        go_wp2_with fail
        go_ret
        exact ⟨rfl, B8.trans (hb9.mono B8.size)⟩
      ·
        go_wp2_with (first
          | (go_at_call 8; refine (awake_any _).mono ?_; rintro e w7 ⟨rfl, hb7⟩; have z7 := hb7.size)
          | (go_at_call 28; fail)
          | fail)
        go_ret
        exact ⟨rfl, B6.trans (hb7.mono z6)⟩
    ·
      generalize parseL T = Y at *
      generalize parseE T = F at *
      clear hx4 hy4 hx2 HBT B3 B2
      go_wp2_with fail
      refine (parse_any t w4 (HMX.out.below B4) (by unfold maxLen; omega)).mono ?_
      rintro e w6 ⟨A6, c6, rfl, ha6, hb6⟩
      rw [HZ.out] at ha6
      rw [HZ.out, HG.out]
      have B6 := B4.trans (hb6.mono B4.size)
      have z6 := B6.size
      have hz6 := (So.sr encP_len ha6).1
      clear ha6 hb6
      by_cases hG0 : G = 0
      ·
        obtain ⟨e1, e2, e3, e4⟩ := HBH.out hG0
        have E1 := Lib.hid e1
        have E2 := Lib.hid e2
        have E3 := Lib.hid e3
        clear e1 e2 e3
        go_wp2_with (first
          | (go_at_call 8; refine (awake_any _).mono ?_; rintro e w7 ⟨rfl, hb7⟩; have z7 := hb7.size)
          | (go_at_call 28; fail)
          | fail)
        refine (text_any w6.heap.size A6 Z.length c6 Z w7 rfl (hz6.below hb7) z7 E3.out (by omega)).mono ?_
        rintro e w8 ⟨rfl, hb8⟩
        rw [E1.out, bytes_eq]
        have B8 := B6.trans ((hb7.trans (hb8.mono z7)).mono z6)
        have z8 := hb8.size
        have hz8 := (hz6.below hb7).below (hb8.mono z7)
        clear hz6 hb8
        have hseq := HSEQ.out
        go_wp2_with fail
        refine (right_any w6.heap.size A6 Z.length c6 Z w8 rfl hz8 (by omega) E3.out).mono ?_
        rintro e w9 ⟨rfl, hb9⟩
        rw [E2.out]
        go_wp2_with fail
        go_ret
        exact ⟨rfl, B8.trans (hb9.mono B8.size)⟩
      ·
        go_wp2_with (first
          | (go_at_call 8; refine (awake_any _).mono ?_; rintro e w7 ⟨rfl, hb7⟩; have z7 := hb7.size)
          | (go_at_call 28; fail)
          | fail)
        go_ret
        exact ⟨rfl, B6.trans (hb7.mono z6)⟩
  ·
    clear hx2
    go_wp2_with fail
    refine (parse_any t w2 (HMX.out.below B2) (by unfold maxLen; omega)).mono ?_
    rintro e w6 ⟨A6, c6, rfl, ha6, hb6⟩
    rw [HZ.out] at ha6
    rw [HZ.out, HG.out]
    have B6 := B2.trans (hb6.mono B2.size)
    have z6 := B6.size
    have hz6 := (So.sr encP_len ha6).1
    clear ha6 hb6
    by_cases hG0 : G = 0
    ·
      obtain ⟨e1, e2, e3, e4⟩ := HBH.out hG0
      have E1 := Lib.hid e1
      have E2 := Lib.hid e2
      have E3 := Lib.hid e3
      clear e1 e2 e3
      go_wp2_with (first
        | (go_at_call 8; refine (awake_any _).mono ?_; rintro e w7 ⟨rfl, hb7⟩; have z7 := hb7.size)
        | (go_at_call 28; fail)
        | fail)
      refine (text_any w6.heap.size A6 Z.length c6 Z w7 rfl (hz6.below hb7) z7 E3.out (by omega)).mono ?_
      rintro e w8 ⟨rfl, hb8⟩
      rw [E1.out, bytes_eq]
      have B8 := B6.trans ((hb7.trans (hb8.mono z7)).mono z6)
      have z8 := hb8.size
      have hz8 := (hz6.below hb7).below (hb8.mono z7)
      clear hz6 hb8
      have hseq := HSEQ.out
      go_wp2_with fail
      refine (right_any w6.heap.size A6 Z.length c6 Z w8 rfl hz8 (by omega) E3.out).mono ?_
      rintro e w9 ⟨rfl, hb9⟩
      rw [E2.out]
      go_wp2_with fail
      go_ret
      exact ⟨rfl, B8.trans (hb9.mono B8.size)⟩
    ·
      go_wp2_with (first
        | (go_at_call 8; refine (awake_any _).mono ?_; rintro e w7 ⟨rfl, hb7⟩; have z7 := hb7.size)
        | (go_at_call 28; fail)
        | fail)
      go_ret
      exact ⟨rfl, B6.trans (hb7.mono z6)⟩
end Go.Proofs.Ytpkadghdnlkfiaa
