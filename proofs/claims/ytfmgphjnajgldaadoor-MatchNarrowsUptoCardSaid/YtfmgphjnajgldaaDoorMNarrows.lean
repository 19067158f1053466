/- MatchNarrows: the walk. -/
import Derived.Test.YtfmgphjnajgldaaDoorMtA
import Derived.Test.YtfmgphjnajgldaaDoorEl2
import Derived.Test.YtfmgphjnajgldaaDoorMtN
namespace Go.Proofs.YtfmgphjnajgldaaDoor
open Go.RowKit

set_option maxRecDepth 100000 in
set_option maxHeartbeats 6400000 in
theorem mnarrows_tt (lA mA sA : Option Addr) (lc mc sc : Nat) (a b : List Rp) (s : List Pp) (w : World) (ha : Rr w w.heap.size lA lc a) (hb : Rr w w.heap.size mA mc b) (hs : Lr w w.heap.size sA sc s) (hS : Sm s) (hal : a.length ≤ 1048576) (hbl : b.length ≤ 1048576) (hsl : s.length ≤ 1048576) (hg : Sg w) (hm : Mx w) (hA : allB s (a ++ b) = true) (hR : rightL s = true) :
    Calls Tryd.prog 7 #[.slice lA a.length lc, .slice mA b.length mc, .slice sA s.length sc] w fun e w' => e = .returned (.bool true) ∧ Below w.heap.size w w' := by
  have EZ := Lib.hid hA
  have EQ := Lib.hid ((allB_comm s b a).trans hA)
  have EX : Hid (allB s a = true) := Lib.hid (by rw [allB_append, Bool.and_eq_true] at hA; exact hA.1)
  have ER := Lib.hid hR
  have EA := Lib.hid (is_holds hR)
  have EI := Lib.hid (is_right hR)
  have HSI : Hid (SmR (s.map isR)) := Lib.hid (fun x hx => by obtain ⟨p, hp, rfl⟩ := List.mem_map.1 hx; exact hS p hp)
  clear hA hR
  have HAl := Lib.hid ha
  have HBl := Lib.hid hb
  have HSl := Lib.hid hs
  have HG := Lib.hid hg
  have HM := Lib.hid hm
  clear ha hb hs hg hm
  go_enter Tryd.func7, Tryd.ntmps7
  have HC1 := Lib.hid (toR_any w.heap.size lA a.length lc a w rfl (HAl.out.below (Below.refl _ _)) (Nat.le_refl _) (by omega))
  go_wp2_with fail
  refine HC1.out.mono ?_
  rintro e w1 ⟨xA, xc, rfl, X, hb1⟩
  clear HC1
  have B1 : Below w.heap.size w w1 := hb1
  have z1 := B1.size
  clear hb1
  have X_1 := Lib.hid X
  clear X
  have HC2 := Lib.hid (toR_any w.heap.size mA b.length mc b w1 rfl (HBl.out.below B1) z1 (by omega))
  go_wp2_with fail
  refine HC2.out.mono ?_
  rintro e w2 ⟨yA, yc, rfl, Y, hb2⟩
  clear HC2
  have B2 : Below w.heap.size w w2 := B1.trans (hb2.mono B1.size)
  have z2 := B2.size
  have X_2 := Lib.hid (So.below X_1.out hb2)
  clear hb2
  have Y_2 := Lib.hid Y
  clear Y
  have HC3 := Lib.hid (to_any w.heap.size sA s.length sc s w2 rfl (HSl.out.below B2) z2 (by omega))
  go_wp2_with fail
  refine HC3.out.mono ?_
  rintro e w3 ⟨tA, tc, rfl, V, hb3⟩
  clear HC3
  have B3 : Below w.heap.size w w3 := B2.trans (hb3.mono B2.size)
  have z3 := B3.size
  have X_3 := Lib.hid (So.below X_2.out hb3)
  have Y_3 := Lib.hid (So.below Y_2.out hb3)
  clear hb3
  have V_3 := Lib.hid V
  clear V
  go_wp2_with (first
    | (at_builtin; refine wpList_appE Tryd.underlying26 info_ar rfl (by decide) encR_len encR_one _ rfl (.tmp 21) (.tmp 22) rfl w3.heap.size (.slice (some ⟨w3.heap.size, 0, none⟩) 0 0) [] rfl (lit_so w3 w3.heap.size _ w3.heap.size rfl (Nat.le_refl _) _ 0 [] encR_len rfl rfl (by decide)) xA a.length xc a rfl rfl w3.heap.size ((So.sr encR_len X_3.out).1.alloc (Nat.le_refl _) _) a.length (by simp) (by unfold maxLen; omega) (by omega) (by simp) ?_; intro A4 c4 v4 hown4 hgrow4 hat4; have hbx4 : Below w3.heap.size w3 v4 := grown_belowE ((Below.refl _ _).alloc (Nat.le_refl _) _) hgrow4 (by simp) (by simp [Value.ownBlock]))
    | (at_builtin; refine wpList_appE Tryd.underlying26 info_ar rfl (by decide) encR_len encR_one _ rfl (.tmp 23) (.tmp 24) rfl w3.heap.size (.slice A4 a.length c4) ([] ++ a) rfl hown4 yA b.length yc b rfl rfl v4.heap.size (So.sr encR_len (So.below Y_3.out hbx4)).1 (a.length + b.length) (by simp) (by unfold maxLen; omega) (by omega) hbx4.size ?_; intro D4 d4 u4 Z hgrw4 hatt4; have hb4 : Below w3.heap.size w3 u4 := grown_belowE hbx4 hgrw4 hbx4.size (fun _ h => (hown4.lt _ h).1); clear hgrow4 hat4 hgrw4 hatt4 hbx4 hown4)
    | (at_builtin; refine wpList_appE Tryd.underlying26 info_ar rfl (by decide) encR_len encR_one _ rfl (.tmp 26) (.tmp 27) rfl u4.heap.size (.slice (some ⟨u4.heap.size, 0, none⟩) 0 0) [] rfl (lit_so u4 u4.heap.size _ u4.heap.size rfl (Nat.le_refl _) _ 0 [] encR_len rfl rfl (by decide)) yA b.length yc b rfl rfl u4.heap.size ((So.sr encR_len (So.below Y_3.out hb4)).1.alloc (Nat.le_refl _) _) b.length (by simp) (by unfold maxLen; omega) (by omega) (by simp) ?_; intro A5 c5 v5 hown5 hgrow5 hat5; have hbx5 : Below u4.heap.size u4 v5 := grown_belowE ((Below.refl _ _).alloc (Nat.le_refl _) _) hgrow5 (by simp) (by simp [Value.ownBlock]))
    | (at_builtin; refine wpList_appE Tryd.underlying26 info_ar rfl (by decide) encR_len encR_one _ rfl (.tmp 28) (.tmp 29) rfl u4.heap.size (.slice A5 b.length c5) ([] ++ b) rfl hown5 xA a.length xc a rfl rfl v5.heap.size (So.sr encR_len (So.below (So.below X_3.out hb4) hbx5)).1 (b.length + a.length) (by simp) (by unfold maxLen; omega) (by omega) hbx5.size ?_; intro D5 d5 u5 Q hgrw5 hatt5; have hb5 : Below u4.heap.size u4 u5 := grown_belowE hbx5 hgrw5 hbx5.size (fun _ h => (hown5.lt _ h).1); clear hgrow5 hat5 hgrw5 hatt5 hbx5 hown5))
  have B4 : Below w.heap.size w u4 := B3.trans (hb4.mono B3.size)
  have z4 := B4.size
  have X_4 := Lib.hid (So.below X_3.out hb4)
  have Y_4 := Lib.hid (So.below Y_3.out hb4)
  have V_4 := Lib.hid (So.below V_3.out hb4)
  clear hb4
  rw [List.nil_append] at Z
  have Z_4 := Lib.hid Z
  clear Z
  have B5 : Below w.heap.size w u5 := B4.trans (hb5.mono B4.size)
  have z5 := B5.size
  have X_5 := Lib.hid (So.below X_4.out hb5)
  have Y_5 := Lib.hid (So.below Y_4.out hb5)
  have V_5 := Lib.hid (So.below V_4.out hb5)
  have Z_5 := Lib.hid (So.below Z_4.out hb5)
  clear hb5
  rw [List.nil_append] at Q
  have Q_5 := Lib.hid Q
  clear Q
  have HC6 := Lib.hid (mawake_any u5 (HG.out.below B5) (HM.out.below B5))
  go_wp2_with fail
  refine HC6.out.mono ?_
  rintro e w6 ⟨rfl, hb6⟩
  clear HC6
  have B6 : Below w.heap.size w w6 := B5.trans (hb6.mono B5.size)
  have z6 := B6.size
  have X_6 := Lib.hid (So.below X_5.out hb6)
  have Y_6 := Lib.hid (So.below Y_5.out hb6)
  have V_6 := Lib.hid (So.below V_5.out hb6)
  have Z_6 := Lib.hid (So.below Z_5.out hb6)
  have Q_6 := Lib.hid (So.below Q_5.out hb6)
  clear hb6
  have HC7 := Lib.hid ((show Calls Tryd.prog 12 #[.slice D4 (a.length + b.length) d4, .slice tA s.length tc] w6 (fun e w' => e = .returned (.bool true) ∧ Below w6.heap.size w6 w') by rw [← EZ.out]; exact allR_any w6.heap.size D4 tA (a.length + b.length) d4 s.length tc (a ++ b) s w6 (by simp) rfl (So.sr encR_len Z_6.out).1 (So.sr encP_len V_6.out).1 (Nat.le_refl _) hS (HM.out.below B6)))
  go_wp2_with fail
  refine HC7.out.mono ?_
  rintro e w7 ⟨rfl, hb7⟩
  clear HC7
  have B7 : Below w.heap.size w w7 := B6.trans (hb7.mono B6.size)
  have z7 := B7.size
  have X_7 := Lib.hid (So.below X_6.out hb7)
  have Y_7 := Lib.hid (So.below Y_6.out hb7)
  have V_7 := Lib.hid (So.below V_6.out hb7)
  have Z_7 := Lib.hid (So.below Z_6.out hb7)
  have Q_7 := Lib.hid (So.below Q_6.out hb7)
  clear hb7
  have HC8 := Lib.hid ((show Calls Tryd.prog 12 #[.slice D5 (b.length + a.length) d5, .slice tA s.length tc] w7 (fun e w' => e = .returned (.bool true) ∧ Below w7.heap.size w7 w') by rw [← EQ.out]; exact allR_any w7.heap.size D5 tA (b.length + a.length) d5 s.length tc (b ++ a) s w7 (by simp) rfl (So.sr encR_len Q_7.out).1 (So.sr encP_len V_7.out).1 (Nat.le_refl _) hS (HM.out.below B7)))
  go_wp2_with fail
  refine HC8.out.mono ?_
  rintro e w8 ⟨rfl, hb8⟩
  clear HC8
  have B8 : Below w.heap.size w w8 := B7.trans (hb8.mono B7.size)
  have z8 := B8.size
  have X_8 := Lib.hid (So.below X_7.out hb8)
  have Y_8 := Lib.hid (So.below Y_7.out hb8)
  have V_8 := Lib.hid (So.below V_7.out hb8)
  have Z_8 := Lib.hid (So.below Z_7.out hb8)
  have Q_8 := Lib.hid (So.below Q_7.out hb8)
  clear hb8
  have HC9 := Lib.hid ((show Calls Tryd.prog 12 #[.slice D4 (a.length + b.length) d4, .slice tA s.length tc] w8 (fun e w' => e = .returned (.bool true) ∧ Below w8.heap.size w8 w') by rw [← EZ.out]; exact allR_any w8.heap.size D4 tA (a.length + b.length) d4 s.length tc (a ++ b) s w8 (by simp) rfl (So.sr encR_len Z_8.out).1 (So.sr encP_len V_8.out).1 (Nat.le_refl _) hS (HM.out.below B8)))
  go_wp2_with fail
  refine HC9.out.mono ?_
  rintro e w9 ⟨rfl, hb9⟩
  clear HC9
  have B9 : Below w.heap.size w w9 := B8.trans (hb9.mono B8.size)
  have z9 := B9.size
  have X_9 := Lib.hid (So.below X_8.out hb9)
  have Y_9 := Lib.hid (So.below Y_8.out hb9)
  have V_9 := Lib.hid (So.below V_8.out hb9)
  have Z_9 := Lib.hid (So.below Z_8.out hb9)
  have Q_9 := Lib.hid (So.below Q_8.out hb9)
  clear hb9
  have HC10 := Lib.hid ((show Calls Tryd.prog 12 #[.slice xA a.length xc, .slice tA s.length tc] w9 (fun e w' => e = .returned (.bool true) ∧ Below w9.heap.size w9 w') by rw [← EX.out]; exact allR_any w9.heap.size xA tA a.length xc s.length tc a s w9 rfl rfl (So.sr encR_len X_9.out).1 (So.sr encP_len V_9.out).1 (Nat.le_refl _) hS (HM.out.below B9)))
  go_wp2_with fail
  refine HC10.out.mono ?_
  rintro e w10 ⟨rfl, hb10⟩
  clear HC10
  have B10 : Below w.heap.size w w10 := B9.trans (hb10.mono B9.size)
  have z10 := B10.size
  have X_10 := Lib.hid (So.below X_9.out hb10)
  have Y_10 := Lib.hid (So.below Y_9.out hb10)
  have V_10 := Lib.hid (So.below V_9.out hb10)
  have Z_10 := Lib.hid (So.below Z_9.out hb10)
  have Q_10 := Lib.hid (So.below Q_9.out hb10)
  clear hb10
  have HC11 := Lib.hid ((show Calls Tryd.prog 22 #[.slice tA s.length tc] w10 (fun e w' => e = .returned (.bool true) ∧ Below w10.heap.size w10 w') by rw [← ER.out]; exact right_any w10.heap.size tA s.length tc s w10 rfl (So.sr encP_len V_10.out).1 (Nat.le_refl _) hS))
  go_wp2_with fail
  refine HC11.out.mono ?_
  rintro e w11 ⟨rfl, hb11⟩
  clear HC11
  have B11 : Below w.heap.size w w11 := B10.trans (hb11.mono B10.size)
  have z11 := B11.size
  have X_11 := Lib.hid (So.below X_10.out hb11)
  have Y_11 := Lib.hid (So.below Y_10.out hb11)
  have V_11 := Lib.hid (So.below V_10.out hb11)
  have Z_11 := Lib.hid (So.below Z_10.out hb11)
  have Q_11 := Lib.hid (So.below Q_10.out hb11)
  clear hb11
  clear X_11 Y_11 Z_11 Q_11
  have HV := Lib.hid (So.sr encP_len V_11.out).1
  have hle := HV.out.le
  have hmax := HV.out.max
  unfold maxLen at hmax
  go_wp2_with fail
  go_loopw [12, 58] (fun v i wr => ∃ (k c : Nat) (A : Option Addr), k ≤ s.length ∧ i = .int .i64 k ∧ v = .slice A k c ∧ So encR 3 wr w11.heap.size 44 (.slice A k c) ((s.take k).map isR) ∧ Below w11.heap.size w11 wr) (fun _ i _ => s.length - (intOf i).toNat)
  case atStart => exact ⟨0, 0, none, Nat.zero_le _, rfl, rfl, by simpa using So.empty _ _ _ _ _, Below.refl _ _⟩
  case round =>
    obtain ⟨k, c, A, hk, rfl, rfl, hps, hbl⟩ := hrel
    have z := hbl.size
    by_cases hlt : k < s.length
    · obtain ⟨ad, rfl, hadK, h1, h2⟩ := lr_cells (HV.out.below hbl) hlt
      have htk : (s.take (k + 1)).map isR = (s.take k).map isR ++ [isR s[k]] := by rw [List.take_succ_eq_append_getElem hlt, List.map_append]; rfl
      have hln : ((s.take k).map isR).length = k := by simp; omega
      generalize s[k] = x at *
      obtain ⟨xn, xv⟩ := x
      simp only at h1 h2
      have HT := Lib.hid htk
      have HLn := Lib.hid hln
      have hps1 := hps.alloc (.cells #[.string xn, .string xv] 48)
      clear htk hln
      go_wp2_with (at_builtin; refine wpList_pushE Tryd.underlying26 info_ar rfl (by decide) (wr.alloc (.cells #[.string xn, .string xv] 48)) rfl (.tmp 62) (.tmp 68) rfl w11.heap.size (.slice A k c) ((s.take k).map isR) rfl hps1 (xn, 1, xv) _ rfl rfl (encR_one _) _ (wr.heap.size + 1) (by simp) rfl (k + 1) (by rw [HLn.out]) (by unfold maxLen; omega) (by omega) (by omega) ?_; intro A2 cap2 w2 hps2 hgrow2 hat2; have B2 : Below w11.heap.size w11 w2 := grown_belowE (hbl.alloc z _) hgrow2 (by simp; omega) (fun _ h => (hps1.lt _ h).1))
      go_roundw
      case rel => exact ⟨k + 1, cap2, A2, by omega, by go_num, rfl, by rw [HT.out]; exact hps2, B2⟩
      case measure => simp [intOf]; omega
    · have hkl : k = s.length := by omega
      subst hkl
      rw [List.take_length] at hps
      have BW : Below w.heap.size w wr := B11.trans (hbl.mono z11)
      have HC1 := Lib.hid (allR_any wr.heap.size A tA s.length c s.length tc (s.map isR) s wr (by simp) rfl (So.sr encR_len hps).1 ((HV.out.below hbl).more z) (Nat.le_refl _) hS (HM.out.below BW))
      rw [EA.out] at HC1
      have HPS := Lib.hid hps
      clear hps
      go_wp2_with fail
      refine HC1.out.mono ?_
      rintro e v1 ⟨rfl, hb1⟩
      have HC2 := Lib.hid (rightR_any v1.heap.size A s.length c (s.map isR) v1 (by simp) (So.sr encR_len (So.below HPS.out hb1)).1 (Nat.le_refl _) HSI.out)
      rw [EI.out] at HC2
      have BW1 := BW.trans (hb1.mono BW.size)
      clear hb1
      go_wp2_with fail
      refine HC2.out.mono ?_
      rintro e v2 ⟨rfl, hb2⟩
      go_wp2_with fail
      go_ret
      exact ⟨rfl, BW1.trans (hb2.mono BW1.size)⟩
set_option maxRecDepth 100000 in
set_option maxHeartbeats 6400000 in
theorem mnarrows_tf (lA mA sA : Option Addr) (lc mc sc : Nat) (a b : List Rp) (s : List Pp) (w : World) (ha : Rr w w.heap.size lA lc a) (hb : Rr w w.heap.size mA mc b) (hs : Lr w w.heap.size sA sc s) (hS : Sm s) (hal : a.length ≤ 1048576) (hbl : b.length ≤ 1048576) (hsl : s.length ≤ 1048576) (hg : Sg w) (hm : Mx w) (hA : allB s (a ++ b) = true) (hR : rightL s = false) :
    Calls Tryd.prog 7 #[.slice lA a.length lc, .slice mA b.length mc, .slice sA s.length sc] w fun e w' => e = .returned (.bool true) ∧ Below w.heap.size w w' := by
  have EZ := Lib.hid hA
  have EQ := Lib.hid ((allB_comm s b a).trans hA)
  have EX : Hid (allB s a = true) := Lib.hid (by rw [allB_append, Bool.and_eq_true] at hA; exact hA.1)
  have ER := Lib.hid hR
  clear hA hR
  have HAl := Lib.hid ha
  have HBl := Lib.hid hb
  have HSl := Lib.hid hs
  have HG := Lib.hid hg
  have HM := Lib.hid hm
  clear ha hb hs hg hm
  go_enter Tryd.func7, Tryd.ntmps7
  have HC1 := Lib.hid (toR_any w.heap.size lA a.length lc a w rfl (HAl.out.below (Below.refl _ _)) (Nat.le_refl _) (by omega))
  go_wp2_with fail
  refine HC1.out.mono ?_
  rintro e w1 ⟨xA, xc, rfl, X, hb1⟩
  clear HC1
  have B1 : Below w.heap.size w w1 := hb1
  have z1 := B1.size
  clear hb1
  have X_1 := Lib.hid X
  clear X
  have HC2 := Lib.hid (toR_any w.heap.size mA b.length mc b w1 rfl (HBl.out.below B1) z1 (by omega))
  go_wp2_with fail
  refine HC2.out.mono ?_
  rintro e w2 ⟨yA, yc, rfl, Y, hb2⟩
  clear HC2
  have B2 : Below w.heap.size w w2 := B1.trans (hb2.mono B1.size)
  have z2 := B2.size
  have X_2 := Lib.hid (So.below X_1.out hb2)
  clear hb2
  have Y_2 := Lib.hid Y
  clear Y
  have HC3 := Lib.hid (to_any w.heap.size sA s.length sc s w2 rfl (HSl.out.below B2) z2 (by omega))
  go_wp2_with fail
  refine HC3.out.mono ?_
  rintro e w3 ⟨tA, tc, rfl, V, hb3⟩
  clear HC3
  have B3 : Below w.heap.size w w3 := B2.trans (hb3.mono B2.size)
  have z3 := B3.size
  have X_3 := Lib.hid (So.below X_2.out hb3)
  have Y_3 := Lib.hid (So.below Y_2.out hb3)
  clear hb3
  have V_3 := Lib.hid V
  clear V
  go_wp2_with (first
    | (at_builtin; refine wpList_appE Tryd.underlying26 info_ar rfl (by decide) encR_len encR_one _ rfl (.tmp 21) (.tmp 22) rfl w3.heap.size (.slice (some ⟨w3.heap.size, 0, none⟩) 0 0) [] rfl (lit_so w3 w3.heap.size _ w3.heap.size rfl (Nat.le_refl _) _ 0 [] encR_len rfl rfl (by decide)) xA a.length xc a rfl rfl w3.heap.size ((So.sr encR_len X_3.out).1.alloc (Nat.le_refl _) _) a.length (by simp) (by unfold maxLen; omega) (by omega) (by simp) ?_; intro A4 c4 v4 hown4 hgrow4 hat4; have hbx4 : Below w3.heap.size w3 v4 := grown_belowE ((Below.refl _ _).alloc (Nat.le_refl _) _) hgrow4 (by simp) (by simp [Value.ownBlock]))
    | (at_builtin; refine wpList_appE Tryd.underlying26 info_ar rfl (by decide) encR_len encR_one _ rfl (.tmp 23) (.tmp 24) rfl w3.heap.size (.slice A4 a.length c4) ([] ++ a) rfl hown4 yA b.length yc b rfl rfl v4.heap.size (So.sr encR_len (So.below Y_3.out hbx4)).1 (a.length + b.length) (by simp) (by unfold maxLen; omega) (by omega) hbx4.size ?_; intro D4 d4 u4 Z hgrw4 hatt4; have hb4 : Below w3.heap.size w3 u4 := grown_belowE hbx4 hgrw4 hbx4.size (fun _ h => (hown4.lt _ h).1); clear hgrow4 hat4 hgrw4 hatt4 hbx4 hown4)
    | (at_builtin; refine wpList_appE Tryd.underlying26 info_ar rfl (by decide) encR_len encR_one _ rfl (.tmp 26) (.tmp 27) rfl u4.heap.size (.slice (some ⟨u4.heap.size, 0, none⟩) 0 0) [] rfl (lit_so u4 u4.heap.size _ u4.heap.size rfl (Nat.le_refl _) _ 0 [] encR_len rfl rfl (by decide)) yA b.length yc b rfl rfl u4.heap.size ((So.sr encR_len (So.below Y_3.out hb4)).1.alloc (Nat.le_refl _) _) b.length (by simp) (by unfold maxLen; omega) (by omega) (by simp) ?_; intro A5 c5 v5 hown5 hgrow5 hat5; have hbx5 : Below u4.heap.size u4 v5 := grown_belowE ((Below.refl _ _).alloc (Nat.le_refl _) _) hgrow5 (by simp) (by simp [Value.ownBlock]))
    | (at_builtin; refine wpList_appE Tryd.underlying26 info_ar rfl (by decide) encR_len encR_one _ rfl (.tmp 28) (.tmp 29) rfl u4.heap.size (.slice A5 b.length c5) ([] ++ b) rfl hown5 xA a.length xc a rfl rfl v5.heap.size (So.sr encR_len (So.below (So.below X_3.out hb4) hbx5)).1 (b.length + a.length) (by simp) (by unfold maxLen; omega) (by omega) hbx5.size ?_; intro D5 d5 u5 Q hgrw5 hatt5; have hb5 : Below u4.heap.size u4 u5 := grown_belowE hbx5 hgrw5 hbx5.size (fun _ h => (hown5.lt _ h).1); clear hgrow5 hat5 hgrw5 hatt5 hbx5 hown5))
  have B4 : Below w.heap.size w u4 := B3.trans (hb4.mono B3.size)
  have z4 := B4.size
  have X_4 := Lib.hid (So.below X_3.out hb4)
  have Y_4 := Lib.hid (So.below Y_3.out hb4)
  have V_4 := Lib.hid (So.below V_3.out hb4)
  clear hb4
  rw [List.nil_append] at Z
  have Z_4 := Lib.hid Z
  clear Z
  have B5 : Below w.heap.size w u5 := B4.trans (hb5.mono B4.size)
  have z5 := B5.size
  have X_5 := Lib.hid (So.below X_4.out hb5)
  have Y_5 := Lib.hid (So.below Y_4.out hb5)
  have V_5 := Lib.hid (So.below V_4.out hb5)
  have Z_5 := Lib.hid (So.below Z_4.out hb5)
  clear hb5
  rw [List.nil_append] at Q
  have Q_5 := Lib.hid Q
  clear Q
  have HC6 := Lib.hid (mawake_any u5 (HG.out.below B5) (HM.out.below B5))
  go_wp2_with fail
  refine HC6.out.mono ?_
  rintro e w6 ⟨rfl, hb6⟩
  clear HC6
  have B6 : Below w.heap.size w w6 := B5.trans (hb6.mono B5.size)
  have z6 := B6.size
  have X_6 := Lib.hid (So.below X_5.out hb6)
  have Y_6 := Lib.hid (So.below Y_5.out hb6)
  have V_6 := Lib.hid (So.below V_5.out hb6)
  have Z_6 := Lib.hid (So.below Z_5.out hb6)
  have Q_6 := Lib.hid (So.below Q_5.out hb6)
  clear hb6
  have HC7 := Lib.hid ((show Calls Tryd.prog 12 #[.slice D4 (a.length + b.length) d4, .slice tA s.length tc] w6 (fun e w' => e = .returned (.bool true) ∧ Below w6.heap.size w6 w') by rw [← EZ.out]; exact allR_any w6.heap.size D4 tA (a.length + b.length) d4 s.length tc (a ++ b) s w6 (by simp) rfl (So.sr encR_len Z_6.out).1 (So.sr encP_len V_6.out).1 (Nat.le_refl _) hS (HM.out.below B6)))
  go_wp2_with fail
  refine HC7.out.mono ?_
  rintro e w7 ⟨rfl, hb7⟩
  clear HC7
  have B7 : Below w.heap.size w w7 := B6.trans (hb7.mono B6.size)
  have z7 := B7.size
  have X_7 := Lib.hid (So.below X_6.out hb7)
  have Y_7 := Lib.hid (So.below Y_6.out hb7)
  have V_7 := Lib.hid (So.below V_6.out hb7)
  have Z_7 := Lib.hid (So.below Z_6.out hb7)
  have Q_7 := Lib.hid (So.below Q_6.out hb7)
  clear hb7
  have HC8 := Lib.hid ((show Calls Tryd.prog 12 #[.slice D5 (b.length + a.length) d5, .slice tA s.length tc] w7 (fun e w' => e = .returned (.bool true) ∧ Below w7.heap.size w7 w') by rw [← EQ.out]; exact allR_any w7.heap.size D5 tA (b.length + a.length) d5 s.length tc (b ++ a) s w7 (by simp) rfl (So.sr encR_len Q_7.out).1 (So.sr encP_len V_7.out).1 (Nat.le_refl _) hS (HM.out.below B7)))
  go_wp2_with fail
  refine HC8.out.mono ?_
  rintro e w8 ⟨rfl, hb8⟩
  clear HC8
  have B8 : Below w.heap.size w w8 := B7.trans (hb8.mono B7.size)
  have z8 := B8.size
  have X_8 := Lib.hid (So.below X_7.out hb8)
  have Y_8 := Lib.hid (So.below Y_7.out hb8)
  have V_8 := Lib.hid (So.below V_7.out hb8)
  have Z_8 := Lib.hid (So.below Z_7.out hb8)
  have Q_8 := Lib.hid (So.below Q_7.out hb8)
  clear hb8
  have HC9 := Lib.hid ((show Calls Tryd.prog 12 #[.slice D4 (a.length + b.length) d4, .slice tA s.length tc] w8 (fun e w' => e = .returned (.bool true) ∧ Below w8.heap.size w8 w') by rw [← EZ.out]; exact allR_any w8.heap.size D4 tA (a.length + b.length) d4 s.length tc (a ++ b) s w8 (by simp) rfl (So.sr encR_len Z_8.out).1 (So.sr encP_len V_8.out).1 (Nat.le_refl _) hS (HM.out.below B8)))
  go_wp2_with fail
  refine HC9.out.mono ?_
  rintro e w9 ⟨rfl, hb9⟩
  clear HC9
  have B9 : Below w.heap.size w w9 := B8.trans (hb9.mono B8.size)
  have z9 := B9.size
  have X_9 := Lib.hid (So.below X_8.out hb9)
  have Y_9 := Lib.hid (So.below Y_8.out hb9)
  have V_9 := Lib.hid (So.below V_8.out hb9)
  have Z_9 := Lib.hid (So.below Z_8.out hb9)
  have Q_9 := Lib.hid (So.below Q_8.out hb9)
  clear hb9
  have HC10 := Lib.hid ((show Calls Tryd.prog 12 #[.slice xA a.length xc, .slice tA s.length tc] w9 (fun e w' => e = .returned (.bool true) ∧ Below w9.heap.size w9 w') by rw [← EX.out]; exact allR_any w9.heap.size xA tA a.length xc s.length tc a s w9 rfl rfl (So.sr encR_len X_9.out).1 (So.sr encP_len V_9.out).1 (Nat.le_refl _) hS (HM.out.below B9)))
  go_wp2_with fail
  refine HC10.out.mono ?_
  rintro e w10 ⟨rfl, hb10⟩
  clear HC10
  have B10 : Below w.heap.size w w10 := B9.trans (hb10.mono B9.size)
  have z10 := B10.size
  have X_10 := Lib.hid (So.below X_9.out hb10)
  have Y_10 := Lib.hid (So.below Y_9.out hb10)
  have V_10 := Lib.hid (So.below V_9.out hb10)
  have Z_10 := Lib.hid (So.below Z_9.out hb10)
  have Q_10 := Lib.hid (So.below Q_9.out hb10)
  clear hb10
  have HC11 := Lib.hid ((show Calls Tryd.prog 22 #[.slice tA s.length tc] w10 (fun e w' => e = .returned (.bool false) ∧ Below w10.heap.size w10 w') by rw [← ER.out]; exact right_any w10.heap.size tA s.length tc s w10 rfl (So.sr encP_len V_10.out).1 (Nat.le_refl _) hS))
  go_wp2_with fail
  refine HC11.out.mono ?_
  rintro e w11 ⟨rfl, hb11⟩
  clear HC11
  have B11 : Below w.heap.size w w11 := B10.trans (hb11.mono B10.size)
  have z11 := B11.size
  have X_11 := Lib.hid (So.below X_10.out hb11)
  have Y_11 := Lib.hid (So.below Y_10.out hb11)
  have V_11 := Lib.hid (So.below V_10.out hb11)
  have Z_11 := Lib.hid (So.below Z_10.out hb11)
  have Q_11 := Lib.hid (So.below Q_10.out hb11)
  clear hb11
  go_wp2_with fail
  go_ret
  exact ⟨rfl, B11⟩
set_option maxRecDepth 100000 in
set_option maxHeartbeats 6400000 in
theorem mnarrows_ft (lA mA sA : Option Addr) (lc mc sc : Nat) (a b : List Rp) (s : List Pp) (w : World) (ha : Rr w w.heap.size lA lc a) (hb : Rr w w.heap.size mA mc b) (hs : Lr w w.heap.size sA sc s) (hS : Sm s) (hal : a.length ≤ 1048576) (hbl : b.length ≤ 1048576) (hsl : s.length ≤ 1048576) (hg : Sg w) (hm : Mx w) (hA : allB s (a ++ b) = false) (hR : rightL s = true) :
    Calls Tryd.prog 7 #[.slice lA a.length lc, .slice mA b.length mc, .slice sA s.length sc] w fun e w' => e = .returned (.bool true) ∧ Below w.heap.size w w' := by
  have EZ := Lib.hid hA
  have EQ := Lib.hid ((allB_comm s b a).trans hA)
  have ER := Lib.hid hR
  have EA := Lib.hid (is_holds hR)
  have EI := Lib.hid (is_right hR)
  have HSI : Hid (SmR (s.map isR)) := Lib.hid (fun x hx => by obtain ⟨p, hp, rfl⟩ := List.mem_map.1 hx; exact hS p hp)
  clear hA hR
  have HAl := Lib.hid ha
  have HBl := Lib.hid hb
  have HSl := Lib.hid hs
  have HG := Lib.hid hg
  have HM := Lib.hid hm
  clear ha hb hs hg hm
  go_enter Tryd.func7, Tryd.ntmps7
  have HC1 := Lib.hid (toR_any w.heap.size lA a.length lc a w rfl (HAl.out.below (Below.refl _ _)) (Nat.le_refl _) (by omega))
  go_wp2_with fail
  refine HC1.out.mono ?_
  rintro e w1 ⟨xA, xc, rfl, X, hb1⟩
  clear HC1
  have B1 : Below w.heap.size w w1 := hb1
  have z1 := B1.size
  clear hb1
  have X_1 := Lib.hid X
  clear X
  have HC2 := Lib.hid (toR_any w.heap.size mA b.length mc b w1 rfl (HBl.out.below B1) z1 (by omega))
  go_wp2_with fail
  refine HC2.out.mono ?_
  rintro e w2 ⟨yA, yc, rfl, Y, hb2⟩
  clear HC2
  have B2 : Below w.heap.size w w2 := B1.trans (hb2.mono B1.size)
  have z2 := B2.size
  have X_2 := Lib.hid (So.below X_1.out hb2)
  clear hb2
  have Y_2 := Lib.hid Y
  clear Y
  have HC3 := Lib.hid (to_any w.heap.size sA s.length sc s w2 rfl (HSl.out.below B2) z2 (by omega))
  go_wp2_with fail
  refine HC3.out.mono ?_
  rintro e w3 ⟨tA, tc, rfl, V, hb3⟩
  clear HC3
  have B3 : Below w.heap.size w w3 := B2.trans (hb3.mono B2.size)
  have z3 := B3.size
  have X_3 := Lib.hid (So.below X_2.out hb3)
  have Y_3 := Lib.hid (So.below Y_2.out hb3)
  clear hb3
  have V_3 := Lib.hid V
  clear V
  go_wp2_with (first
    | (at_builtin; refine wpList_appE Tryd.underlying26 info_ar rfl (by decide) encR_len encR_one _ rfl (.tmp 21) (.tmp 22) rfl w3.heap.size (.slice (some ⟨w3.heap.size, 0, none⟩) 0 0) [] rfl (lit_so w3 w3.heap.size _ w3.heap.size rfl (Nat.le_refl _) _ 0 [] encR_len rfl rfl (by decide)) xA a.length xc a rfl rfl w3.heap.size ((So.sr encR_len X_3.out).1.alloc (Nat.le_refl _) _) a.length (by simp) (by unfold maxLen; omega) (by omega) (by simp) ?_; intro A4 c4 v4 hown4 hgrow4 hat4; have hbx4 : Below w3.heap.size w3 v4 := grown_belowE ((Below.refl _ _).alloc (Nat.le_refl _) _) hgrow4 (by simp) (by simp [Value.ownBlock]))
    | (at_builtin; refine wpList_appE Tryd.underlying26 info_ar rfl (by decide) encR_len encR_one _ rfl (.tmp 23) (.tmp 24) rfl w3.heap.size (.slice A4 a.length c4) ([] ++ a) rfl hown4 yA b.length yc b rfl rfl v4.heap.size (So.sr encR_len (So.below Y_3.out hbx4)).1 (a.length + b.length) (by simp) (by unfold maxLen; omega) (by omega) hbx4.size ?_; intro D4 d4 u4 Z hgrw4 hatt4; have hb4 : Below w3.heap.size w3 u4 := grown_belowE hbx4 hgrw4 hbx4.size (fun _ h => (hown4.lt _ h).1); clear hgrow4 hat4 hgrw4 hatt4 hbx4 hown4)
    | (at_builtin; refine wpList_appE Tryd.underlying26 info_ar rfl (by decide) encR_len encR_one _ rfl (.tmp 26) (.tmp 27) rfl u4.heap.size (.slice (some ⟨u4.heap.size, 0, none⟩) 0 0) [] rfl (lit_so u4 u4.heap.size _ u4.heap.size rfl (Nat.le_refl _) _ 0 [] encR_len rfl rfl (by decide)) yA b.length yc b rfl rfl u4.heap.size ((So.sr encR_len (So.below Y_3.out hb4)).1.alloc (Nat.le_refl _) _) b.length (by simp) (by unfold maxLen; omega) (by omega) (by simp) ?_; intro A5 c5 v5 hown5 hgrow5 hat5; have hbx5 : Below u4.heap.size u4 v5 := grown_belowE ((Below.refl _ _).alloc (Nat.le_refl _) _) hgrow5 (by simp) (by simp [Value.ownBlock]))
    | (at_builtin; refine wpList_appE Tryd.underlying26 info_ar rfl (by decide) encR_len encR_one _ rfl (.tmp 28) (.tmp 29) rfl u4.heap.size (.slice A5 b.length c5) ([] ++ b) rfl hown5 xA a.length xc a rfl rfl v5.heap.size (So.sr encR_len (So.below (So.below X_3.out hb4) hbx5)).1 (b.length + a.length) (by simp) (by unfold maxLen; omega) (by omega) hbx5.size ?_; intro D5 d5 u5 Q hgrw5 hatt5; have hb5 : Below u4.heap.size u4 u5 := grown_belowE hbx5 hgrw5 hbx5.size (fun _ h => (hown5.lt _ h).1); clear hgrow5 hat5 hgrw5 hatt5 hbx5 hown5))
  have B4 : Below w.heap.size w u4 := B3.trans (hb4.mono B3.size)
  have z4 := B4.size
  have X_4 := Lib.hid (So.below X_3.out hb4)
  have Y_4 := Lib.hid (So.below Y_3.out hb4)
  have V_4 := Lib.hid (So.below V_3.out hb4)
  clear hb4
  rw [List.nil_append] at Z
  have Z_4 := Lib.hid Z
  clear Z
  have B5 : Below w.heap.size w u5 := B4.trans (hb5.mono B4.size)
  have z5 := B5.size
  have X_5 := Lib.hid (So.below X_4.out hb5)
  have Y_5 := Lib.hid (So.below Y_4.out hb5)
  have V_5 := Lib.hid (So.below V_4.out hb5)
  have Z_5 := Lib.hid (So.below Z_4.out hb5)
  clear hb5
  rw [List.nil_append] at Q
  have Q_5 := Lib.hid Q
  clear Q
  have HC6 := Lib.hid (mawake_any u5 (HG.out.below B5) (HM.out.below B5))
  go_wp2_with fail
  refine HC6.out.mono ?_
  rintro e w6 ⟨rfl, hb6⟩
  clear HC6
  have B6 : Below w.heap.size w w6 := B5.trans (hb6.mono B5.size)
  have z6 := B6.size
  have X_6 := Lib.hid (So.below X_5.out hb6)
  have Y_6 := Lib.hid (So.below Y_5.out hb6)
  have V_6 := Lib.hid (So.below V_5.out hb6)
  have Z_6 := Lib.hid (So.below Z_5.out hb6)
  have Q_6 := Lib.hid (So.below Q_5.out hb6)
  clear hb6
  have HC7 := Lib.hid ((show Calls Tryd.prog 12 #[.slice D4 (a.length + b.length) d4, .slice tA s.length tc] w6 (fun e w' => e = .returned (.bool false) ∧ Below w6.heap.size w6 w') by rw [← EZ.out]; exact allR_any w6.heap.size D4 tA (a.length + b.length) d4 s.length tc (a ++ b) s w6 (by simp) rfl (So.sr encR_len Z_6.out).1 (So.sr encP_len V_6.out).1 (Nat.le_refl _) hS (HM.out.below B6)))
  go_wp2_with fail
  refine HC7.out.mono ?_
  rintro e w7 ⟨rfl, hb7⟩
  clear HC7
  have B7 : Below w.heap.size w w7 := B6.trans (hb7.mono B6.size)
  have z7 := B7.size
  have X_7 := Lib.hid (So.below X_6.out hb7)
  have Y_7 := Lib.hid (So.below Y_6.out hb7)
  have V_7 := Lib.hid (So.below V_6.out hb7)
  have Z_7 := Lib.hid (So.below Z_6.out hb7)
  have Q_7 := Lib.hid (So.below Q_6.out hb7)
  clear hb7
  have HC8 := Lib.hid ((show Calls Tryd.prog 12 #[.slice D5 (b.length + a.length) d5, .slice tA s.length tc] w7 (fun e w' => e = .returned (.bool false) ∧ Below w7.heap.size w7 w') by rw [← EQ.out]; exact allR_any w7.heap.size D5 tA (b.length + a.length) d5 s.length tc (b ++ a) s w7 (by simp) rfl (So.sr encR_len Q_7.out).1 (So.sr encP_len V_7.out).1 (Nat.le_refl _) hS (HM.out.below B7)))
  go_wp2_with fail
  refine HC8.out.mono ?_
  rintro e w8 ⟨rfl, hb8⟩
  clear HC8
  have B8 : Below w.heap.size w w8 := B7.trans (hb8.mono B7.size)
  have z8 := B8.size
  have X_8 := Lib.hid (So.below X_7.out hb8)
  have Y_8 := Lib.hid (So.below Y_7.out hb8)
  have V_8 := Lib.hid (So.below V_7.out hb8)
  have Z_8 := Lib.hid (So.below Z_7.out hb8)
  have Q_8 := Lib.hid (So.below Q_7.out hb8)
  clear hb8
  have HC9 := Lib.hid ((show Calls Tryd.prog 12 #[.slice D4 (a.length + b.length) d4, .slice tA s.length tc] w8 (fun e w' => e = .returned (.bool false) ∧ Below w8.heap.size w8 w') by rw [← EZ.out]; exact allR_any w8.heap.size D4 tA (a.length + b.length) d4 s.length tc (a ++ b) s w8 (by simp) rfl (So.sr encR_len Z_8.out).1 (So.sr encP_len V_8.out).1 (Nat.le_refl _) hS (HM.out.below B8)))
  go_wp2_with fail
  refine HC9.out.mono ?_
  rintro e w9 ⟨rfl, hb9⟩
  clear HC9
  have B9 : Below w.heap.size w w9 := B8.trans (hb9.mono B8.size)
  have z9 := B9.size
  have X_9 := Lib.hid (So.below X_8.out hb9)
  have Y_9 := Lib.hid (So.below Y_8.out hb9)
  have V_9 := Lib.hid (So.below V_8.out hb9)
  have Z_9 := Lib.hid (So.below Z_8.out hb9)
  have Q_9 := Lib.hid (So.below Q_8.out hb9)
  clear hb9
  have HC10 := Lib.hid ((show Calls Tryd.prog 22 #[.slice tA s.length tc] w9 (fun e w' => e = .returned (.bool true) ∧ Below w9.heap.size w9 w') by rw [← ER.out]; exact right_any w9.heap.size tA s.length tc s w9 rfl (So.sr encP_len V_9.out).1 (Nat.le_refl _) hS))
  go_wp2_with fail
  refine HC10.out.mono ?_
  rintro e w10 ⟨rfl, hb10⟩
  clear HC10
  have B10 : Below w.heap.size w w10 := B9.trans (hb10.mono B9.size)
  have z10 := B10.size
  have X_10 := Lib.hid (So.below X_9.out hb10)
  have Y_10 := Lib.hid (So.below Y_9.out hb10)
  have V_10 := Lib.hid (So.below V_9.out hb10)
  have Z_10 := Lib.hid (So.below Z_9.out hb10)
  have Q_10 := Lib.hid (So.below Q_9.out hb10)
  clear hb10
  clear X_10 Y_10 Z_10 Q_10
  have HV := Lib.hid (So.sr encP_len V_10.out).1
  have hle := HV.out.le
  have hmax := HV.out.max
  unfold maxLen at hmax
  go_wp2_with fail
  go_loopw [12, 58] (fun v i wr => ∃ (k c : Nat) (A : Option Addr), k ≤ s.length ∧ i = .int .i64 k ∧ v = .slice A k c ∧ So encR 3 wr w10.heap.size 44 (.slice A k c) ((s.take k).map isR) ∧ Below w10.heap.size w10 wr) (fun _ i _ => s.length - (intOf i).toNat)
  case atStart => exact ⟨0, 0, none, Nat.zero_le _, rfl, rfl, by simpa using So.empty _ _ _ _ _, Below.refl _ _⟩
  case round =>
    obtain ⟨k, c, A, hk, rfl, rfl, hps, hbl⟩ := hrel
    have z := hbl.size
    by_cases hlt : k < s.length
    · obtain ⟨ad, rfl, hadK, h1, h2⟩ := lr_cells (HV.out.below hbl) hlt
      have htk : (s.take (k + 1)).map isR = (s.take k).map isR ++ [isR s[k]] := by rw [List.take_succ_eq_append_getElem hlt, List.map_append]; rfl
      have hln : ((s.take k).map isR).length = k := by simp; omega
      generalize s[k] = x at *
      obtain ⟨xn, xv⟩ := x
      simp only at h1 h2
      have HT := Lib.hid htk
      have HLn := Lib.hid hln
      have hps1 := hps.alloc (.cells #[.string xn, .string xv] 48)
      clear htk hln
      go_wp2_with (at_builtin; refine wpList_pushE Tryd.underlying26 info_ar rfl (by decide) (wr.alloc (.cells #[.string xn, .string xv] 48)) rfl (.tmp 62) (.tmp 68) rfl w10.heap.size (.slice A k c) ((s.take k).map isR) rfl hps1 (xn, 1, xv) _ rfl rfl (encR_one _) _ (wr.heap.size + 1) (by simp) rfl (k + 1) (by rw [HLn.out]) (by unfold maxLen; omega) (by omega) (by omega) ?_; intro A2 cap2 w2 hps2 hgrow2 hat2; have B2 : Below w10.heap.size w10 w2 := grown_belowE (hbl.alloc z _) hgrow2 (by simp; omega) (fun _ h => (hps1.lt _ h).1))
      go_roundw
      case rel => exact ⟨k + 1, cap2, A2, by omega, by go_num, rfl, by rw [HT.out]; exact hps2, B2⟩
      case measure => simp [intOf]; omega
    · have hkl : k = s.length := by omega
      subst hkl
      rw [List.take_length] at hps
      have BW : Below w.heap.size w wr := B10.trans (hbl.mono z10)
      have HC1 := Lib.hid (allR_any wr.heap.size A tA s.length c s.length tc (s.map isR) s wr (by simp) rfl (So.sr encR_len hps).1 ((HV.out.below hbl).more z) (Nat.le_refl _) hS (HM.out.below BW))
      rw [EA.out] at HC1
      have HPS := Lib.hid hps
      clear hps
      go_wp2_with fail
      refine HC1.out.mono ?_
      rintro e v1 ⟨rfl, hb1⟩
      have HC2 := Lib.hid (rightR_any v1.heap.size A s.length c (s.map isR) v1 (by simp) (So.sr encR_len (So.below HPS.out hb1)).1 (Nat.le_refl _) HSI.out)
      rw [EI.out] at HC2
      have BW1 := BW.trans (hb1.mono BW.size)
      clear hb1
      go_wp2_with fail
      refine HC2.out.mono ?_
      rintro e v2 ⟨rfl, hb2⟩
      go_wp2_with fail
      go_ret
      exact ⟨rfl, BW1.trans (hb2.mono BW1.size)⟩
set_option maxRecDepth 100000 in
set_option maxHeartbeats 6400000 in
theorem mnarrows_ff (lA mA sA : Option Addr) (lc mc sc : Nat) (a b : List Rp) (s : List Pp) (w : World) (ha : Rr w w.heap.size lA lc a) (hb : Rr w w.heap.size mA mc b) (hs : Lr w w.heap.size sA sc s) (hS : Sm s) (hal : a.length ≤ 1048576) (hbl : b.length ≤ 1048576) (hsl : s.length ≤ 1048576) (hg : Sg w) (hm : Mx w) (hA : allB s (a ++ b) = false) (hR : rightL s = false) :
    Calls Tryd.prog 7 #[.slice lA a.length lc, .slice mA b.length mc, .slice sA s.length sc] w fun e w' => e = .returned (.bool true) ∧ Below w.heap.size w w' := by
  have EZ := Lib.hid hA
  have EQ := Lib.hid ((allB_comm s b a).trans hA)
  have ER := Lib.hid hR
  clear hA hR
  have HAl := Lib.hid ha
  have HBl := Lib.hid hb
  have HSl := Lib.hid hs
  have HG := Lib.hid hg
  have HM := Lib.hid hm
  clear ha hb hs hg hm
  go_enter Tryd.func7, Tryd.ntmps7
  have HC1 := Lib.hid (toR_any w.heap.size lA a.length lc a w rfl (HAl.out.below (Below.refl _ _)) (Nat.le_refl _) (by omega))
  go_wp2_with fail
  refine HC1.out.mono ?_
  rintro e w1 ⟨xA, xc, rfl, X, hb1⟩
  clear HC1
  have B1 : Below w.heap.size w w1 := hb1
  have z1 := B1.size
  clear hb1
  have X_1 := Lib.hid X
  clear X
  have HC2 := Lib.hid (toR_any w.heap.size mA b.length mc b w1 rfl (HBl.out.below B1) z1 (by omega))
  go_wp2_with fail
  refine HC2.out.mono ?_
  rintro e w2 ⟨yA, yc, rfl, Y, hb2⟩
  clear HC2
  have B2 : Below w.heap.size w w2 := B1.trans (hb2.mono B1.size)
  have z2 := B2.size
  have X_2 := Lib.hid (So.below X_1.out hb2)
  clear hb2
  have Y_2 := Lib.hid Y
  clear Y
  have HC3 := Lib.hid (to_any w.heap.size sA s.length sc s w2 rfl (HSl.out.below B2) z2 (by omega))
  go_wp2_with fail
  refine HC3.out.mono ?_
  rintro e w3 ⟨tA, tc, rfl, V, hb3⟩
  clear HC3
  have B3 : Below w.heap.size w w3 := B2.trans (hb3.mono B2.size)
  have z3 := B3.size
  have X_3 := Lib.hid (So.below X_2.out hb3)
  have Y_3 := Lib.hid (So.below Y_2.out hb3)
  clear hb3
  have V_3 := Lib.hid V
  clear V
  go_wp2_with (first
    | (at_builtin; refine wpList_appE Tryd.underlying26 info_ar rfl (by decide) encR_len encR_one _ rfl (.tmp 21) (.tmp 22) rfl w3.heap.size (.slice (some ⟨w3.heap.size, 0, none⟩) 0 0) [] rfl (lit_so w3 w3.heap.size _ w3.heap.size rfl (Nat.le_refl _) _ 0 [] encR_len rfl rfl (by decide)) xA a.length xc a rfl rfl w3.heap.size ((So.sr encR_len X_3.out).1.alloc (Nat.le_refl _) _) a.length (by simp) (by unfold maxLen; omega) (by omega) (by simp) ?_; intro A4 c4 v4 hown4 hgrow4 hat4; have hbx4 : Below w3.heap.size w3 v4 := grown_belowE ((Below.refl _ _).alloc (Nat.le_refl _) _) hgrow4 (by simp) (by simp [Value.ownBlock]))
    | (at_builtin; refine wpList_appE Tryd.underlying26 info_ar rfl (by decide) encR_len encR_one _ rfl (.tmp 23) (.tmp 24) rfl w3.heap.size (.slice A4 a.length c4) ([] ++ a) rfl hown4 yA b.length yc b rfl rfl v4.heap.size (So.sr encR_len (So.below Y_3.out hbx4)).1 (a.length + b.length) (by simp) (by unfold maxLen; omega) (by omega) hbx4.size ?_; intro D4 d4 u4 Z hgrw4 hatt4; have hb4 : Below w3.heap.size w3 u4 := grown_belowE hbx4 hgrw4 hbx4.size (fun _ h => (hown4.lt _ h).1); clear hgrow4 hat4 hgrw4 hatt4 hbx4 hown4)
    | (at_builtin; refine wpList_appE Tryd.underlying26 info_ar rfl (by decide) encR_len encR_one _ rfl (.tmp 26) (.tmp 27) rfl u4.heap.size (.slice (some ⟨u4.heap.size, 0, none⟩) 0 0) [] rfl (lit_so u4 u4.heap.size _ u4.heap.size rfl (Nat.le_refl _) _ 0 [] encR_len rfl rfl (by decide)) yA b.length yc b rfl rfl u4.heap.size ((So.sr encR_len (So.below Y_3.out hb4)).1.alloc (Nat.le_refl _) _) b.length (by simp) (by unfold maxLen; omega) (by omega) (by simp) ?_; intro A5 c5 v5 hown5 hgrow5 hat5; have hbx5 : Below u4.heap.size u4 v5 := grown_belowE ((Below.refl _ _).alloc (Nat.le_refl _) _) hgrow5 (by simp) (by simp [Value.ownBlock]))
    | (at_builtin; refine wpList_appE Tryd.underlying26 info_ar rfl (by decide) encR_len encR_one _ rfl (.tmp 28) (.tmp 29) rfl u4.heap.size (.slice A5 b.length c5) ([] ++ b) rfl hown5 xA a.length xc a rfl rfl v5.heap.size (So.sr encR_len (So.below (So.below X_3.out hb4) hbx5)).1 (b.length + a.length) (by simp) (by unfold maxLen; omega) (by omega) hbx5.size ?_; intro D5 d5 u5 Q hgrw5 hatt5; have hb5 : Below u4.heap.size u4 u5 := grown_belowE hbx5 hgrw5 hbx5.size (fun _ h => (hown5.lt _ h).1); clear hgrow5 hat5 hgrw5 hatt5 hbx5 hown5))
  have B4 : Below w.heap.size w u4 := B3.trans (hb4.mono B3.size)
  have z4 := B4.size
  have X_4 := Lib.hid (So.below X_3.out hb4)
  have Y_4 := Lib.hid (So.below Y_3.out hb4)
  have V_4 := Lib.hid (So.below V_3.out hb4)
  clear hb4
  rw [List.nil_append] at Z
  have Z_4 := Lib.hid Z
  clear Z
  have B5 : Below w.heap.size w u5 := B4.trans (hb5.mono B4.size)
  have z5 := B5.size
  have X_5 := Lib.hid (So.below X_4.out hb5)
  have Y_5 := Lib.hid (So.below Y_4.out hb5)
  have V_5 := Lib.hid (So.below V_4.out hb5)
  have Z_5 := Lib.hid (So.below Z_4.out hb5)
  clear hb5
  rw [List.nil_append] at Q
  have Q_5 := Lib.hid Q
  clear Q
  have HC6 := Lib.hid (mawake_any u5 (HG.out.below B5) (HM.out.below B5))
  go_wp2_with fail
  refine HC6.out.mono ?_
  rintro e w6 ⟨rfl, hb6⟩
  clear HC6
  have B6 : Below w.heap.size w w6 := B5.trans (hb6.mono B5.size)
  have z6 := B6.size
  have X_6 := Lib.hid (So.below X_5.out hb6)
  have Y_6 := Lib.hid (So.below Y_5.out hb6)
  have V_6 := Lib.hid (So.below V_5.out hb6)
  have Z_6 := Lib.hid (So.below Z_5.out hb6)
  have Q_6 := Lib.hid (So.below Q_5.out hb6)
  clear hb6
  have HC7 := Lib.hid ((show Calls Tryd.prog 12 #[.slice D4 (a.length + b.length) d4, .slice tA s.length tc] w6 (fun e w' => e = .returned (.bool false) ∧ Below w6.heap.size w6 w') by rw [← EZ.out]; exact allR_any w6.heap.size D4 tA (a.length + b.length) d4 s.length tc (a ++ b) s w6 (by simp) rfl (So.sr encR_len Z_6.out).1 (So.sr encP_len V_6.out).1 (Nat.le_refl _) hS (HM.out.below B6)))
  go_wp2_with fail
  refine HC7.out.mono ?_
  rintro e w7 ⟨rfl, hb7⟩
  clear HC7
  have B7 : Below w.heap.size w w7 := B6.trans (hb7.mono B6.size)
  have z7 := B7.size
  have X_7 := Lib.hid (So.below X_6.out hb7)
  have Y_7 := Lib.hid (So.below Y_6.out hb7)
  have V_7 := Lib.hid (So.below V_6.out hb7)
  have Z_7 := Lib.hid (So.below Z_6.out hb7)
  have Q_7 := Lib.hid (So.below Q_6.out hb7)
  clear hb7
  have HC8 := Lib.hid ((show Calls Tryd.prog 12 #[.slice D5 (b.length + a.length) d5, .slice tA s.length tc] w7 (fun e w' => e = .returned (.bool false) ∧ Below w7.heap.size w7 w') by rw [← EQ.out]; exact allR_any w7.heap.size D5 tA (b.length + a.length) d5 s.length tc (b ++ a) s w7 (by simp) rfl (So.sr encR_len Q_7.out).1 (So.sr encP_len V_7.out).1 (Nat.le_refl _) hS (HM.out.below B7)))
  go_wp2_with fail
  refine HC8.out.mono ?_
  rintro e w8 ⟨rfl, hb8⟩
  clear HC8
  have B8 : Below w.heap.size w w8 := B7.trans (hb8.mono B7.size)
  have z8 := B8.size
  have X_8 := Lib.hid (So.below X_7.out hb8)
  have Y_8 := Lib.hid (So.below Y_7.out hb8)
  have V_8 := Lib.hid (So.below V_7.out hb8)
  have Z_8 := Lib.hid (So.below Z_7.out hb8)
  have Q_8 := Lib.hid (So.below Q_7.out hb8)
  clear hb8
  have HC9 := Lib.hid ((show Calls Tryd.prog 12 #[.slice D4 (a.length + b.length) d4, .slice tA s.length tc] w8 (fun e w' => e = .returned (.bool false) ∧ Below w8.heap.size w8 w') by rw [← EZ.out]; exact allR_any w8.heap.size D4 tA (a.length + b.length) d4 s.length tc (a ++ b) s w8 (by simp) rfl (So.sr encR_len Z_8.out).1 (So.sr encP_len V_8.out).1 (Nat.le_refl _) hS (HM.out.below B8)))
  go_wp2_with fail
  refine HC9.out.mono ?_
  rintro e w9 ⟨rfl, hb9⟩
  clear HC9
  have B9 : Below w.heap.size w w9 := B8.trans (hb9.mono B8.size)
  have z9 := B9.size
  have X_9 := Lib.hid (So.below X_8.out hb9)
  have Y_9 := Lib.hid (So.below Y_8.out hb9)
  have V_9 := Lib.hid (So.below V_8.out hb9)
  have Z_9 := Lib.hid (So.below Z_8.out hb9)
  have Q_9 := Lib.hid (So.below Q_8.out hb9)
  clear hb9
  have HC10 := Lib.hid ((show Calls Tryd.prog 22 #[.slice tA s.length tc] w9 (fun e w' => e = .returned (.bool false) ∧ Below w9.heap.size w9 w') by rw [← ER.out]; exact right_any w9.heap.size tA s.length tc s w9 rfl (So.sr encP_len V_9.out).1 (Nat.le_refl _) hS))
  go_wp2_with fail
  refine HC10.out.mono ?_
  rintro e w10 ⟨rfl, hb10⟩
  clear HC10
  have B10 : Below w.heap.size w w10 := B9.trans (hb10.mono B9.size)
  have z10 := B10.size
  have X_10 := Lib.hid (So.below X_9.out hb10)
  have Y_10 := Lib.hid (So.below Y_9.out hb10)
  have V_10 := Lib.hid (So.below V_9.out hb10)
  have Z_10 := Lib.hid (So.below Z_9.out hb10)
  have Q_10 := Lib.hid (So.below Q_9.out hb10)
  clear hb10
  go_wp2_with fail
  go_ret
  exact ⟨rfl, B10⟩
theorem mnarrows_any (lA mA sA : Option Addr) (lc mc sc : Nat) (a b : List Rp) (s : List Pp) (w : World) (ha : Rr w w.heap.size lA lc a) (hb : Rr w w.heap.size mA mc b) (hs : Lr w w.heap.size sA sc s) (hS : Sm s) (hal : a.length ≤ 1048576) (hbl : b.length ≤ 1048576) (hsl : s.length ≤ 1048576) (hg : Sg w) (hm : Mx w) :
    Calls Tryd.prog 7 #[.slice lA a.length lc, .slice mA b.length mc, .slice sA s.length sc] w fun e w' => e = .returned (.bool true) ∧ Below w.heap.size w w' := by
  cases hA : allB s (a ++ b) with
  | true =>
    cases hR : rightL s with
    | true => exact mnarrows_tt lA mA sA lc mc sc a b s w ha hb hs hS hal hbl hsl hg hm hA hR
    | false => exact mnarrows_tf lA mA sA lc mc sc a b s w ha hb hs hS hal hbl hsl hg hm hA hR
  | false =>
    cases hR : rightL s with
    | true => exact mnarrows_ft lA mA sA lc mc sc a b s w ha hb hs hS hal hbl hsl hg hm hA hR
    | false => exact mnarrows_ff lA mA sA lc mc sc a b s w ha hb hs hS hal hbl hsl hg hm hA hR
end Go.Proofs.YtfmgphjnajgldaaDoor
