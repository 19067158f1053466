/- MatchSplits: the walk. -/
import Derived.Test.YtfmgphjnajgldaaDoorMtA
import Derived.Test.YtfmgphjnajgldaaDoorEl2
namespace Go.Proofs.YtfmgphjnajgldaaDoor
open Go.RowKit

set_option maxRecDepth 100000 in
set_option maxHeartbeats 6400000 in
theorem msplits_any (lA mA sA : Option Addr) (lc mc sc : Nat) (a b : List Rp) (s : List Pp) (nm : ByteArray) (w : World) (ha : Rr w w.heap.size lA lc a) (hb : Rr w w.heap.size mA mc b) (hs : Lr w w.heap.size sA sc s) (hS : Sm s) (hal : a.length ≤ 1048576) (hbl : b.length ≤ 1048576) (hsl : s.length ≤ 1048576) (hg : Sg w) (hm : Mx w) :
    Calls Tryd.prog 6 #[.slice lA a.length lc, .slice mA b.length mc, .slice sA s.length sc, .string nm] w fun e w' => e = .returned (.bool true) ∧ Below w.heap.size w w' := by
  have HAl := Lib.hid ha
  have HBl := Lib.hid hb
  have HSl := Lib.hid hs
  have HG := Lib.hid hg
  have HM := Lib.hid hm
  have EI : Hid (allB s [(nm, 1, getL s nm), (nm, 3, getL s nm), (nm, 4, getL s nm)] = true) := Lib.hid (by simp [allB, oneB_is, oneB_begins, oneB_holds])
  have EJ : Hid (allB s [(nm, 2, getL s nm)] = false) := Lib.hid (by simp [allB, oneB_not])
  have hap := allB_append s a b
  clear ha hb hs hg hm
  cases hx : allB s a with
  | true =>
    rw [hx, Bool.true_and] at hap
    have EX := Lib.hid hx
    have EZ := Lib.hid hap
    obtain ⟨by0, hby⟩ : ∃ x, x = allB s b := ⟨_, rfl⟩
    rw [← hby] at EZ
    have EY : Hid (allB s b = by0) := Lib.hid hby.symm
    have eb := beq_self_eq_true by0
    clear hx hap hby
    go_enter Tryd.func6, Tryd.ntmps6
    have HC1 := Lib.hid (toR_any w.heap.size lA a.length lc a w rfl (HAl.out.below (Below.refl _ _)) (Nat.le_refl _) (by omega))
    go_wp2_with fail
    refine HC1.out.mono ?_
    rintro e w1 ⟨xA, xc, rfl, X, hb1⟩
    clear HC1
    have B1 : Below w.heap.size w w1 := hb1
    have z1 := B1.size
    clear hb1
    have X_1 := Lib.hid X
    clear X
    have HC2 := Lib.hid (toR_any w.heap.size mA b.length mc b w1 rfl (HBl.out.below B1) z1 (by omega))
    go_wp2_with fail
    refine HC2.out.mono ?_
    rintro e w2 ⟨yA, yc, rfl, Y, hb2⟩
    clear HC2
    have B2 : Below w.heap.size w w2 := B1.trans (hb2.mono B1.size)
    have z2 := B2.size
    have X_2 := Lib.hid (So.below X_1.out hb2)
    clear hb2
    have Y_2 := Lib.hid Y
    clear Y
    have HC3 := Lib.hid (to_any w.heap.size sA s.length sc s w2 rfl (HSl.out.below B2) z2 (by omega))
    go_wp2_with fail
    refine HC3.out.mono ?_
    rintro e w3 ⟨tA, tc, rfl, V, hb3⟩
    clear HC3
    have B3 : Below w.heap.size w w3 := B2.trans (hb3.mono B2.size)
    have z3 := B3.size
    have X_3 := Lib.hid (So.below X_2.out hb3)
    have Y_3 := Lib.hid (So.below Y_2.out hb3)
    clear hb3
    have V_3 := Lib.hid V
    clear V
    have HC4 := Lib.hid (getv_any w3.heap.size tA s.length tc s nm w3 rfl (So.sr encP_len V_3.out).1 (Nat.le_refl _))
    go_wp2_with fail
    refine HC4.out.mono ?_
    rintro e w4 ⟨rfl, hb4⟩
    clear HC4
    have B4 : Below w.heap.size w w4 := B3.trans (hb4.mono B3.size)
    have z4 := B4.size
    have X_4 := Lib.hid (So.below X_3.out hb4)
    have Y_4 := Lib.hid (So.below Y_3.out hb4)
    have V_4 := Lib.hid (So.below V_3.out hb4)
    clear hb4
    generalize getL s nm = gv at *
    go_wp2_with (first
      | (at_builtin; refine wpList_appE Tryd.underlying26 info_ar rfl (by decide) encR_len encR_one _ rfl (.tmp 25) (.tmp 26) rfl w4.heap.size (.slice (some ⟨w4.heap.size, 0, none⟩) 0 0) [] rfl (lit_so w4 w4.heap.size _ w4.heap.size rfl (Nat.le_refl _) _ 0 [] encR_len rfl rfl (by decide)) xA a.length xc a rfl rfl w4.heap.size ((So.sr encR_len X_4.out).1.alloc (Nat.le_refl _) _) a.length (by simp) (by unfold maxLen; omega) (by omega) (by simp) ?_; intro A5 c5 v5 hown5 hgrow5 hat5; have hbx5 : Below w4.heap.size w4 v5 := grown_belowE ((Below.refl _ _).alloc (Nat.le_refl _) _) hgrow5 (by simp) (by simp [Value.ownBlock]))
      | (at_builtin; refine wpList_appE Tryd.underlying26 info_ar rfl (by decide) encR_len encR_one _ rfl (.tmp 27) (.tmp 28) rfl w4.heap.size (.slice A5 a.length c5) ([] ++ a) rfl hown5 yA b.length yc b rfl rfl v5.heap.size (So.sr encR_len (So.below Y_4.out hbx5)).1 (a.length + b.length) (by simp) (by unfold maxLen; omega) (by omega) hbx5.size ?_; intro D5 d5 u5 Z hgrw5 hatt5; have hb5 : Below w4.heap.size w4 u5 := grown_belowE hbx5 hgrw5 hbx5.size (fun _ h => (hown5.lt _ h).1); clear hgrow5 hat5 hgrw5 hatt5 hbx5 hown5))
    have B5 : Below w.heap.size w u5 := B4.trans (hb5.mono B4.size)
    have z5 := B5.size
    have X_5 := Lib.hid (So.below X_4.out hb5)
    have Y_5 := Lib.hid (So.below Y_4.out hb5)
    have V_5 := Lib.hid (So.below V_4.out hb5)
    clear hb5
    rw [List.nil_append] at Z
    have Z_5 := Lib.hid Z
    clear Z
    obtain ⟨wa, hwa⟩ : ∃ wa, wa = ((u5.alloc (.cells #[.string nm, .int .i64 1, .string gv, .string nm, .int .i64 3, .string gv, .string nm, .int .i64 4, .string gv] 44)).alloc (.cells #[.string nm, .int .i64 2, .string gv] 44)) := ⟨_, rfl⟩
    have hba : Below u5.heap.size u5 wa := by rw [hwa]; exact (((Below.refl _ _).alloc (Nat.le_refl _) _).alloc (by simp) _)
    have I0 := lit_so (enc := encR) (k := 3) u5 u5.heap.size 44 u5.heap.size rfl (Nat.le_refl _) #[.string nm, .int .i64 1, .string gv, .string nm, .int .i64 3, .string gv, .string nm, .int .i64 4, .string gv] 3 [(nm, 1, gv), (nm, 3, gv), (nm, 4, gv)] encR_len rfl rfl (by unfold maxLen; omega)
    have I : So encR 3 wa u5.heap.size 44 (.slice (some ⟨u5.heap.size, 0, none⟩) 3 3) [(nm, 1, gv), (nm, 3, gv), (nm, 4, gv)] := by rw [hwa]; exact ((I0.more (by simp)).alloc _)
    clear I0
    have J0 := lit_so (enc := encR) (k := 3) (u5.alloc (.cells #[.string nm, .int .i64 1, .string gv, .string nm, .int .i64 3, .string gv, .string nm, .int .i64 4, .string gv] 44)) (u5.alloc (.cells #[.string nm, .int .i64 1, .string gv, .string nm, .int .i64 3, .string gv, .string nm, .int .i64 4, .string gv] 44)).heap.size 44 (u5.heap.size + 1) (by simp) (by simp) #[.string nm, .int .i64 2, .string gv] 1 [(nm, 2, gv)] encR_len rfl rfl (by unfold maxLen; omega)
    have J : So encR 3 wa u5.heap.size 44 (.slice (some ⟨(u5.heap.size + 1), 0, none⟩) 1 1) [(nm, 2, gv)] := by rw [hwa]; exact (J0.more (by simp))
    clear J0
    go_wp2_with fail
    rw [← hwa]
    clear hwa
    have B6 : Below w.heap.size w wa := B5.trans (hba.mono B5.size)
    have z6 := B6.size
    have X_6 := Lib.hid (So.below X_5.out hba)
    have Y_6 := Lib.hid (So.below Y_5.out hba)
    have V_6 := Lib.hid (So.below V_5.out hba)
    have Z_6 := Lib.hid (So.below Z_5.out hba)
    clear hba
    have I_6 := Lib.hid I
    clear I
    have J_6 := Lib.hid J
    clear J
    have HC7 := Lib.hid (mawake_any wa (HG.out.below B6) (HM.out.below B6))
    refine HC7.out.mono ?_
    rintro e w7 ⟨rfl, hb7⟩
    clear HC7
    have B7 : Below w.heap.size w w7 := B6.trans (hb7.mono B6.size)
    have z7 := B7.size
    have X_7 := Lib.hid (So.below X_6.out hb7)
    have Y_7 := Lib.hid (So.below Y_6.out hb7)
    have V_7 := Lib.hid (So.below V_6.out hb7)
    have Z_7 := Lib.hid (So.below Z_6.out hb7)
    have I_7 := Lib.hid (So.below I_6.out hb7)
    have J_7 := Lib.hid (So.below J_6.out hb7)
    clear hb7
    have HC8 := Lib.hid ((show Calls Tryd.prog 12 #[.slice D5 (a.length + b.length) d5, .slice tA s.length tc] w7 (fun e w' => e = .returned (.bool by0) ∧ Below w7.heap.size w7 w') by rw [← EZ.out]; exact allR_any w7.heap.size D5 tA (a.length + b.length) d5 s.length tc (a ++ b) s w7 (by simp) rfl (So.sr encR_len Z_7.out).1 (So.sr encP_len V_7.out).1 (Nat.le_refl _) hS (HM.out.below B7)))
    go_wp2_with fail
    refine HC8.out.mono ?_
    rintro e w8 ⟨rfl, hb8⟩
    clear HC8
    have B8 : Below w.heap.size w w8 := B7.trans (hb8.mono B7.size)
    have z8 := B8.size
    have X_8 := Lib.hid (So.below X_7.out hb8)
    have Y_8 := Lib.hid (So.below Y_7.out hb8)
    have V_8 := Lib.hid (So.below V_7.out hb8)
    have Z_8 := Lib.hid (So.below Z_7.out hb8)
    have I_8 := Lib.hid (So.below I_7.out hb8)
    have J_8 := Lib.hid (So.below J_7.out hb8)
    clear hb8
    have HC9 := Lib.hid ((show Calls Tryd.prog 12 #[.slice xA a.length xc, .slice tA s.length tc] w8 (fun e w' => e = .returned (.bool true) ∧ Below w8.heap.size w8 w') by rw [← EX.out]; exact allR_any w8.heap.size xA tA a.length xc s.length tc a s w8 rfl rfl (So.sr encR_len X_8.out).1 (So.sr encP_len V_8.out).1 (Nat.le_refl _) hS (HM.out.below B8)))
    go_wp2_with fail
    refine HC9.out.mono ?_
    rintro e w9 ⟨rfl, hb9⟩
    clear HC9
    have B9 : Below w.heap.size w w9 := B8.trans (hb9.mono B8.size)
    have z9 := B9.size
    have X_9 := Lib.hid (So.below X_8.out hb9)
    have Y_9 := Lib.hid (So.below Y_8.out hb9)
    have V_9 := Lib.hid (So.below V_8.out hb9)
    have Z_9 := Lib.hid (So.below Z_8.out hb9)
    have I_9 := Lib.hid (So.below I_8.out hb9)
    have J_9 := Lib.hid (So.below J_8.out hb9)
    clear hb9
    have HC10 := Lib.hid ((show Calls Tryd.prog 12 #[.slice yA b.length yc, .slice tA s.length tc] w9 (fun e w' => e = .returned (.bool by0) ∧ Below w9.heap.size w9 w') by rw [← EY.out]; exact allR_any w9.heap.size yA tA b.length yc s.length tc b s w9 rfl rfl (So.sr encR_len Y_9.out).1 (So.sr encP_len V_9.out).1 (Nat.le_refl _) hS (HM.out.below B9)))
    go_wp2_with fail
    refine HC10.out.mono ?_
    rintro e w10 ⟨rfl, hb10⟩
    clear HC10
    have B10 : Below w.heap.size w w10 := B9.trans (hb10.mono B9.size)
    have z10 := B10.size
    have X_10 := Lib.hid (So.below X_9.out hb10)
    have Y_10 := Lib.hid (So.below Y_9.out hb10)
    have V_10 := Lib.hid (So.below V_9.out hb10)
    have Z_10 := Lib.hid (So.below Z_9.out hb10)
    have I_10 := Lib.hid (So.below I_9.out hb10)
    have J_10 := Lib.hid (So.below J_9.out hb10)
    clear hb10
    have HC11 := Lib.hid ((show Calls Tryd.prog 12 #[.slice (some ⟨u5.heap.size, 0, none⟩) 3 3, .slice tA s.length tc] w10 (fun e w' => e = .returned (.bool true) ∧ Below w10.heap.size w10 w') by rw [← EI.out]; exact allR_any w10.heap.size (some ⟨u5.heap.size, 0, none⟩) tA 3 3 s.length tc [(nm, 1, gv), (nm, 3, gv), (nm, 4, gv)] s w10 rfl rfl (So.sr encR_len I_10.out).1 (So.sr encP_len V_10.out).1 (Nat.le_refl _) hS (HM.out.below B10)))
    go_wp2_with fail
    refine HC11.out.mono ?_
    rintro e w11 ⟨rfl, hb11⟩
    clear HC11
    have B11 : Below w.heap.size w w11 := B10.trans (hb11.mono B10.size)
    have z11 := B11.size
    have X_11 := Lib.hid (So.below X_10.out hb11)
    have Y_11 := Lib.hid (So.below Y_10.out hb11)
    have V_11 := Lib.hid (So.below V_10.out hb11)
    have Z_11 := Lib.hid (So.below Z_10.out hb11)
    have I_11 := Lib.hid (So.below I_10.out hb11)
    have J_11 := Lib.hid (So.below J_10.out hb11)
    clear hb11
    have HC12 := Lib.hid ((show Calls Tryd.prog 12 #[.slice (some ⟨u5.heap.size + 1, 0, none⟩) 1 1, .slice tA s.length tc] w11 (fun e w' => e = .returned (.bool false) ∧ Below w11.heap.size w11 w') by rw [← EJ.out]; exact allR_any w11.heap.size (some ⟨u5.heap.size + 1, 0, none⟩) tA 1 1 s.length tc [(nm, 2, gv)] s w11 rfl rfl (So.sr encR_len J_11.out).1 (So.sr encP_len V_11.out).1 (Nat.le_refl _) hS (HM.out.below B11)))
    go_wp2_with fail
    refine HC12.out.mono ?_
    rintro e w12 ⟨rfl, hb12⟩
    clear HC12
    have B12 : Below w.heap.size w w12 := B11.trans (hb12.mono B11.size)
    have z12 := B12.size
    have X_12 := Lib.hid (So.below X_11.out hb12)
    have Y_12 := Lib.hid (So.below Y_11.out hb12)
    have V_12 := Lib.hid (So.below V_11.out hb12)
    have Z_12 := Lib.hid (So.below Z_11.out hb12)
    have I_12 := Lib.hid (So.below I_11.out hb12)
    have J_12 := Lib.hid (So.below J_11.out hb12)
    clear hb12
    go_wp2_with fail
    go_ret
    exact ⟨rfl, B12⟩
  | false =>
    rw [hx, Bool.false_and] at hap
    have EX := Lib.hid hx
    have EZ := Lib.hid hap
    clear hx hap
    go_enter Tryd.func6, Tryd.ntmps6
    have HC1 := Lib.hid (toR_any w.heap.size lA a.length lc a w rfl (HAl.out.below (Below.refl _ _)) (Nat.le_refl _) (by omega))
    go_wp2_with fail
    refine HC1.out.mono ?_
    rintro e w1 ⟨xA, xc, rfl, X, hb1⟩
    clear HC1
    have B1 : Below w.heap.size w w1 := hb1
    have z1 := B1.size
    clear hb1
    have X_1 := Lib.hid X
    clear X
    have HC2 := Lib.hid (toR_any w.heap.size mA b.length mc b w1 rfl (HBl.out.below B1) z1 (by omega))
    go_wp2_with fail
    refine HC2.out.mono ?_
    rintro e w2 ⟨yA, yc, rfl, Y, hb2⟩
    clear HC2
    have B2 : Below w.heap.size w w2 := B1.trans (hb2.mono B1.size)
    have z2 := B2.size
    have X_2 := Lib.hid (So.below X_1.out hb2)
    clear hb2
    have Y_2 := Lib.hid Y
    clear Y
    have HC3 := Lib.hid (to_any w.heap.size sA s.length sc s w2 rfl (HSl.out.below B2) z2 (by omega))
    go_wp2_with fail
    refine HC3.out.mono ?_
    rintro e w3 ⟨tA, tc, rfl, V, hb3⟩
    clear HC3
    have B3 : Below w.heap.size w w3 := B2.trans (hb3.mono B2.size)
    have z3 := B3.size
    have X_3 := Lib.hid (So.below X_2.out hb3)
    have Y_3 := Lib.hid (So.below Y_2.out hb3)
    clear hb3
    have V_3 := Lib.hid V
    clear V
    have HC4 := Lib.hid (getv_any w3.heap.size tA s.length tc s nm w3 rfl (So.sr encP_len V_3.out).1 (Nat.le_refl _))
    go_wp2_with fail
    refine HC4.out.mono ?_
    rintro e w4 ⟨rfl, hb4⟩
    clear HC4
    have B4 : Below w.heap.size w w4 := B3.trans (hb4.mono B3.size)
    have z4 := B4.size
    have X_4 := Lib.hid (So.below X_3.out hb4)
    have Y_4 := Lib.hid (So.below Y_3.out hb4)
    have V_4 := Lib.hid (So.below V_3.out hb4)
    clear hb4
    generalize getL s nm = gv at *
    go_wp2_with (first
      | (at_builtin; refine wpList_appE Tryd.underlying26 info_ar rfl (by decide) encR_len encR_one _ rfl (.tmp 25) (.tmp 26) rfl w4.heap.size (.slice (some ⟨w4.heap.size, 0, none⟩) 0 0) [] rfl (lit_so w4 w4.heap.size _ w4.heap.size rfl (Nat.le_refl _) _ 0 [] encR_len rfl rfl (by decide)) xA a.length xc a rfl rfl w4.heap.size ((So.sr encR_len X_4.out).1.alloc (Nat.le_refl _) _) a.length (by simp) (by unfold maxLen; omega) (by omega) (by simp) ?_; intro A5 c5 v5 hown5 hgrow5 hat5; have hbx5 : Below w4.heap.size w4 v5 := grown_belowE ((Below.refl _ _).alloc (Nat.le_refl _) _) hgrow5 (by simp) (by simp [Value.ownBlock]))
      | (at_builtin; refine wpList_appE Tryd.underlying26 info_ar rfl (by decide) encR_len encR_one _ rfl (.tmp 27) (.tmp 28) rfl w4.heap.size (.slice A5 a.length c5) ([] ++ a) rfl hown5 yA b.length yc b rfl rfl v5.heap.size (So.sr encR_len (So.below Y_4.out hbx5)).1 (a.length + b.length) (by simp) (by unfold maxLen; omega) (by omega) hbx5.size ?_; intro D5 d5 u5 Z hgrw5 hatt5; have hb5 : Below w4.heap.size w4 u5 := grown_belowE hbx5 hgrw5 hbx5.size (fun _ h => (hown5.lt _ h).1); clear hgrow5 hat5 hgrw5 hatt5 hbx5 hown5))
    have B5 : Below w.heap.size w u5 := B4.trans (hb5.mono B4.size)
    have z5 := B5.size
    have X_5 := Lib.hid (So.below X_4.out hb5)
    have Y_5 := Lib.hid (So.below Y_4.out hb5)
    have V_5 := Lib.hid (So.below V_4.out hb5)
    clear hb5
    rw [List.nil_append] at Z
    have Z_5 := Lib.hid Z
    clear Z
    obtain ⟨wa, hwa⟩ : ∃ wa, wa = ((u5.alloc (.cells #[.string nm, .int .i64 1, .string gv, .string nm, .int .i64 3, .string gv, .string nm, .int .i64 4, .string gv] 44)).alloc (.cells #[.string nm, .int .i64 2, .string gv] 44)) := ⟨_, rfl⟩
    have hba : Below u5.heap.size u5 wa := by rw [hwa]; exact (((Below.refl _ _).alloc (Nat.le_refl _) _).alloc (by simp) _)
    have I0 := lit_so (enc := encR) (k := 3) u5 u5.heap.size 44 u5.heap.size rfl (Nat.le_refl _) #[.string nm, .int .i64 1, .string gv, .string nm, .int .i64 3, .string gv, .string nm, .int .i64 4, .string gv] 3 [(nm, 1, gv), (nm, 3, gv), (nm, 4, gv)] encR_len rfl rfl (by unfold maxLen; omega)
    have I : So encR 3 wa u5.heap.size 44 (.slice (some ⟨u5.heap.size, 0, none⟩) 3 3) [(nm, 1, gv), (nm, 3, gv), (nm, 4, gv)] := by rw [hwa]; exact ((I0.more (by simp)).alloc _)
    clear I0
    have J0 := lit_so (enc := encR) (k := 3) (u5.alloc (.cells #[.string nm, .int .i64 1, .string gv, .string nm, .int .i64 3, .string gv, .string nm, .int .i64 4, .string gv] 44)) (u5.alloc (.cells #[.string nm, .int .i64 1, .string gv, .string nm, .int .i64 3, .string gv, .string nm, .int .i64 4, .string gv] 44)).heap.size 44 (u5.heap.size + 1) (by simp) (by simp) #[.string nm, .int .i64 2, .string gv] 1 [(nm, 2, gv)] encR_len rfl rfl (by unfold maxLen; omega)
    have J : So encR 3 wa u5.heap.size 44 (.slice (some ⟨(u5.heap.size + 1), 0, none⟩) 1 1) [(nm, 2, gv)] := by rw [hwa]; exact (J0.more (by simp))
    clear J0
    go_wp2_with fail
    rw [← hwa]
    clear hwa
    have B6 : Below w.heap.size w wa := B5.trans (hba.mono B5.size)
    have z6 := B6.size
    have X_6 := Lib.hid (So.below X_5.out hba)
    have Y_6 := Lib.hid (So.below Y_5.out hba)
    have V_6 := Lib.hid (So.below V_5.out hba)
    have Z_6 := Lib.hid (So.below Z_5.out hba)
    clear hba
    have I_6 := Lib.hid I
    clear I
    have J_6 := Lib.hid J
    clear J
    have HC7 := Lib.hid (mawake_any wa (HG.out.below B6) (HM.out.below B6))
    refine HC7.out.mono ?_
    rintro e w7 ⟨rfl, hb7⟩
    clear HC7
    have B7 : Below w.heap.size w w7 := B6.trans (hb7.mono B6.size)
    have z7 := B7.size
    have X_7 := Lib.hid (So.below X_6.out hb7)
    have Y_7 := Lib.hid (So.below Y_6.out hb7)
    have V_7 := Lib.hid (So.below V_6.out hb7)
    have Z_7 := Lib.hid (So.below Z_6.out hb7)
    have I_7 := Lib.hid (So.below I_6.out hb7)
    have J_7 := Lib.hid (So.below J_6.out hb7)
    clear hb7
    have HC8 := Lib.hid ((show Calls Tryd.prog 12 #[.slice D5 (a.length + b.length) d5, .slice tA s.length tc] w7 (fun e w' => e = .returned (.bool false) ∧ Below w7.heap.size w7 w') by rw [← EZ.out]; exact allR_any w7.heap.size D5 tA (a.length + b.length) d5 s.length tc (a ++ b) s w7 (by simp) rfl (So.sr encR_len Z_7.out).1 (So.sr encP_len V_7.out).1 (Nat.le_refl _) hS (HM.out.below B7)))
    go_wp2_with fail
    refine HC8.out.mono ?_
    rintro e w8 ⟨rfl, hb8⟩
    clear HC8
    have B8 : Below w.heap.size w w8 := B7.trans (hb8.mono B7.size)
    have z8 := B8.size
    have X_8 := Lib.hid (So.below X_7.out hb8)
    have Y_8 := Lib.hid (So.below Y_7.out hb8)
    have V_8 := Lib.hid (So.below V_7.out hb8)
    have Z_8 := Lib.hid (So.below Z_7.out hb8)
    have I_8 := Lib.hid (So.below I_7.out hb8)
    have J_8 := Lib.hid (So.below J_7.out hb8)
    clear hb8
    have HC9 := Lib.hid ((show Calls Tryd.prog 12 #[.slice xA a.length xc, .slice tA s.length tc] w8 (fun e w' => e = .returned (.bool false) ∧ Below w8.heap.size w8 w') by rw [← EX.out]; exact allR_any w8.heap.size xA tA a.length xc s.length tc a s w8 rfl rfl (So.sr encR_len X_8.out).1 (So.sr encP_len V_8.out).1 (Nat.le_refl _) hS (HM.out.below B8)))
    go_wp2_with fail
    refine HC9.out.mono ?_
    rintro e w9 ⟨rfl, hb9⟩
    clear HC9
    have B9 : Below w.heap.size w w9 := B8.trans (hb9.mono B8.size)
    have z9 := B9.size
    have X_9 := Lib.hid (So.below X_8.out hb9)
    have Y_9 := Lib.hid (So.below Y_8.out hb9)
    have V_9 := Lib.hid (So.below V_8.out hb9)
    have Z_9 := Lib.hid (So.below Z_8.out hb9)
    have I_9 := Lib.hid (So.below I_8.out hb9)
    have J_9 := Lib.hid (So.below J_8.out hb9)
    clear hb9
    have HC10 := Lib.hid ((show Calls Tryd.prog 12 #[.slice (some ⟨u5.heap.size, 0, none⟩) 3 3, .slice tA s.length tc] w9 (fun e w' => e = .returned (.bool true) ∧ Below w9.heap.size w9 w') by rw [← EI.out]; exact allR_any w9.heap.size (some ⟨u5.heap.size, 0, none⟩) tA 3 3 s.length tc [(nm, 1, gv), (nm, 3, gv), (nm, 4, gv)] s w9 rfl rfl (So.sr encR_len I_9.out).1 (So.sr encP_len V_9.out).1 (Nat.le_refl _) hS (HM.out.below B9)))
    go_wp2_with fail
    refine HC10.out.mono ?_
    rintro e w10 ⟨rfl, hb10⟩
    clear HC10
    have B10 : Below w.heap.size w w10 := B9.trans (hb10.mono B9.size)
    have z10 := B10.size
    have X_10 := Lib.hid (So.below X_9.out hb10)
    have Y_10 := Lib.hid (So.below Y_9.out hb10)
    have V_10 := Lib.hid (So.below V_9.out hb10)
    have Z_10 := Lib.hid (So.below Z_9.out hb10)
    have I_10 := Lib.hid (So.below I_9.out hb10)
    have J_10 := Lib.hid (So.below J_9.out hb10)
    clear hb10
    have HC11 := Lib.hid ((show Calls Tryd.prog 12 #[.slice (some ⟨u5.heap.size + 1, 0, none⟩) 1 1, .slice tA s.length tc] w10 (fun e w' => e = .returned (.bool false) ∧ Below w10.heap.size w10 w') by rw [← EJ.out]; exact allR_any w10.heap.size (some ⟨u5.heap.size + 1, 0, none⟩) tA 1 1 s.length tc [(nm, 2, gv)] s w10 rfl rfl (So.sr encR_len J_10.out).1 (So.sr encP_len V_10.out).1 (Nat.le_refl _) hS (HM.out.below B10)))
    go_wp2_with fail
    refine HC11.out.mono ?_
    rintro e w11 ⟨rfl, hb11⟩
    clear HC11
    have B11 : Below w.heap.size w w11 := B10.trans (hb11.mono B10.size)
    have z11 := B11.size
    have X_11 := Lib.hid (So.below X_10.out hb11)
    have Y_11 := Lib.hid (So.below Y_10.out hb11)
    have V_11 := Lib.hid (So.below V_10.out hb11)
    have Z_11 := Lib.hid (So.below Z_10.out hb11)
    have I_11 := Lib.hid (So.below I_10.out hb11)
    have J_11 := Lib.hid (So.below J_10.out hb11)
    clear hb11
    go_wp2_with fail
    go_ret
    exact ⟨rfl, B11⟩
end Go.Proofs.YtfmgphjnajgldaaDoor
