/- RelayNil's walk. -/
import Derived.Test.YtpnhdocimjkakaaPn37
import Derived.Deep.CutBlock
namespace Go.Proofs.Ytpnhdocimjkakaa
open Go.RowKit Go.BigFrame Go.Maps

set_option maxRecDepth 100000 in
theorem take_nil (n : Int) (v a0 a1 a2 a3 a4 a5 a6 a7 : Value) (hv : v = .agg #[a0, a1, a2, a3, a4, a5, a6, a7]) (w : World) : Calls Try.prog 34 #[.pointer none, .int .i64 n, v] w fun e w' => e = .returned (.tuple #[.slice none 0 0, .slice none 0 0]) ∧ Below w.heap.size w w' := by
  subst hv
  go_enter Try.func34, Try.ntmps34
  go_wp2_with fail
  go_ret2
  exact ⟨rfl, (Below.refl _ _).alloc (Nat.le_refl _) _⟩
set_option maxRecDepth 100000 in
theorem tick_nil (w : World) : Calls Try.prog 36 #[.pointer none] w fun e w' => e = .returned (.slice none 0 0) ∧ w = w' := by
  go_enter Try.func36, Try.ntmps36
  go_wp2_with fail
  go_ret
  exact ⟨rfl, rfl⟩
set_option maxRecDepth 100000 in
theorem save_nil (w : World) : Calls Try.prog 37 #[.pointer none] w fun e w' => e = .returned (.slice none 0 0) ∧ w = w' := by
  go_enter Try.func37, Try.ntmps37
  go_wp2_with fail
  go_ret
  exact ⟨rfl, rfl⟩
set_option maxRecDepth 100000 in
theorem log_nil (w : World) : Calls Try.prog 24 #[.pointer none] w fun e w' => e = .returned (.slice none 0 0) ∧ w = w' := by
  go_enter Try.func24, Try.ntmps24
  go_wp2_with fail
  go_ret
  exact ⟨rfl, rfl⟩
set_option maxRecDepth 100000 in
theorem view_nil (w : World) : Calls Try.prog 27 #[.pointer none] w fun e w' => e = .returned (.agg #[.int .i64 0, .int .i64 0, .slice none 0 0]) ∧ Below w.heap.size w w' := by
  go_enter Try.func27, Try.ntmps27
  go_wp2_with fail
  exact bodyPost_ret (v := .agg #[.int .i64 0, .int .i64 0, .slice none 0 0]) (by simp [results, Try.results27, go_sem]) rfl ⟨rfl, (Below.refl _ _).alloc (Nat.le_refl _) _⟩
set_option maxRecDepth 100000 in
set_option maxHeartbeats 1600000 in
theorem relaynil_any (w : World) : Calls Try.prog 7 #[] w fun e w' => e = .returned (.bool true) ∧ Below w.heap.size w w' := by
  obtain ⟨i0, hi, hz0, hz1, hz2⟩ := info_parts info_u8
  have HI := Lib.hid hi
  have HZ0 := Lib.hid hz0
  have HZ1 := Lib.hid hz1
  have HZ2 := Lib.hid hz2
  clear hi hz0 hz1 hz2
  go_enter Try.func7, Try.ntmps7
  go_wp2_with fail
  refine (lead_nil _ _ _ _ rfl _).mono ?_
  rintro e w1 ⟨rfl, b1⟩
  have HB1 := Lib.hid b1
  clear b1
  go_wp2_with fail
  refine (propose_nil _ _).mono ?_
  rintro e w2 ⟨rfl, rfl⟩
  go_wp2_with fail
  refine (take_nil 1 _ _ _ _ _ _ _ _ _ rfl _).mono ?_
  rintro e w3 ⟨rfl, b3⟩
  have HB3 := Lib.hid (HB1.out.trans (b3.mono HB1.out.size))
  clear b3
  go_wp2_with fail
  refine (newr_any 3 (by omega) (by omega) w3).mono ?_
  rintro e w4 ⟨rfl, hr4, b4⟩
  obtain ⟨b, hb⟩ : ∃ b, b = w3.heap.size := ⟨_, rfl⟩
  rw [← hb] at hr4
  have HR4 := Lib.hid hr4
  have hbw : b ≤ w4.heap.size := by have := b4.size; omega
  have HBB4 : Hid (Below b w3 w4) := Lib.hid (by rw [hb]; exact b4)
  have HB4 := Lib.hid (HB3.out.trans (b4.mono HB3.out.size))
  have HBE := Lib.hid hb
  have HPS := Lib.hid (propose_state HR4.out rfl none 0 0 (by omega))
  clear hr4 b4 hb
  go_wp2_with fail
  rw [← HBE.out]
  refine HPS.out.mono ?_
  rintro e w5 ⟨rfl, rfl⟩
  have HR5 := Lib.hid (HR4.out.below ((Below.refl _ _).alloc (Nat.le_refl _) (.cells #[.int .i64 3] 3)))
  have HBX : Hid (Bxo (w4.alloc (.cells #[.int .i64 3] 3)) w4.heap.size #[.int .i64 3] 3) := Lib.hid (Bxo.new _ _ _)
  have HB5 : Hid (Below b w3 (w4.alloc (.cells #[.int .i64 3] 3))) := Lib.hid (HBB4.out.alloc hbw _)
  obtain ⟨W5, hW5⟩ : ∃ W5, W5 = w4.alloc (.cells #[.int .i64 3] 3) := ⟨_, rfl⟩
  rw [← hW5] at HR5 HBX HB5
  have hz5 : w4.heap.size < W5.heap.size := by rw [hW5]; simp
  have HW5 := Lib.hid hW5
  have HL := Lib.hid (lead_any HR5.out 1 3 W5.heap.size (some ⟨w4.heap.size, 0, none⟩) 1 1 [3] rfl (bx_lit HBX.out rfl hz5) (Nat.le_refl _) (by omega) (by decide) (by decide) (by unfold I64 R0; decide) (by decide) (by decide))
  clear hW5
  go_wp2_with fail
  rw [← HW5.out]
  refine HL.out.mono ?_
  rintro e w6 ⟨v6, rfl, A6, c6, mb, n6, hn6, hr6, hb6⟩
  rw [lead1 3] at hr6
  have hfz := lead1_f _ (lead1_lg 3)
  generalize bgF (prV (R0 3) 1 3 [3]) = F at *
  generalize bgH (prV (R0 3) 1 3 [3]) = G at *
  have HR6 := Lib.hid hr6
  have HFZ := Lib.hid hfz
  have HB6 := Lib.hid (HB5.out.trans hb6)
  have hz6 : b ≤ w6.heap.size := by have := HB6.out.size; have := HBE.out; omega
  clear hr6 hb6 hfz
  go_upto_region 11 with (first
    | (at_make; go_loud (refine wpList_make_full _ rfl _ _ 23 rfl w6.heap.size 5 i0 (.int .u8 0) 1 Try.underlying23 HI.out HZ0.out HZ1.out _ _ _ _ 262145 rfl rfl rfl rfl (by rw [HZ2.out]; omega) (by unfold maxLen; omega) (Nat.le_refl _) ?_; intro w7 hown7 hgrow7; have HG7 := Lib.hid hgrow7; clear hown7 hgrow7))
    | (go_at_call 33; refine (propose_long b _ 262145 262145 (by omega) _).mono ?_; rintro e w8 ⟨rfl, rfl⟩)
    | fail)
  have HB67 : Hid (Below w6.heap.size w6 w7) := Lib.hid ((Tn.ofGrown HG7.out).below (Nat.le_refl _) (fun k _ e => by cases e))
  have HR7 := Lib.hid (HR6.out.below HB67.out)
  have HB7 := Lib.hid (HB6.out.trans (HB67.out.mono hz6))
  go_wp2_with fail
  go_loopw [72] (fun v wx => ∃ (k : Nat) (lg : List Ez) (L : Option Addr) (l n : Nat) (f : Int → Int) (h : Int → Bool), v = .int .i64 k ∧ k ≤ 4096 ∧ lg.length = k ∧ n ≤ k + 1 ∧ Hid (∀ m, 0 ≤ f m ∧ f m ≤ 4096) ∧ Rl wx b b mb A6 c6 L l n f h (S1 3 lg) ∧ Below b w3 wx) (fun v _ => 4096 - (intOf v).toNat)
  case atStart => exact ⟨0, [], none, 0, n6, F, G, rfl, Nat.zero_le _, rfl, by omega, Lib.hid (fun m => by rw [HFZ.out m]; decide), HR7.out, HB7.out⟩
  case round =>
    obtain ⟨k, lg, L, l, n, f, h, rfl, hk, hlg, hn, HFB, hr, hbl⟩ := hrel
    rename World => wr
    have HR := Lib.hid hr
    have HBL := Lib.hid hbl
    have hzr : b ≤ wr.heap.size := by have := hbl.size; have := HBE.out; omega
    have HLG := Lib.hid hlg
    clear hr hbl hlg
    by_cases hlt : k < 4096
    · have hlt1 : (k : Int) < 4096 := by omega
      have HP := Lib.hid (propose_any HR.out hzr rfl (by show lg.length < 4096; rw [HLG.out]; exact hlt) (fun m hm => by obtain rfl := List.mem_singleton.1 hm; unfold I64; decide) (show I64 3 from by unfold I64; decide) (show I64 1 from by unfold I64; decide) (fun m => by have := HFB.out m; unfold I64; omega) (fun m => (HFB.out m).1) (by show 0 ≤ (lg.length : Int) ∧ (lg.length : Int) ≤ 1048576; rw [HLG.out]; omega) (by omega) (show [(3 : Int)].length ≤ 1048576 from by decide) (show 0 < [(3 : Int)].length from by decide) (st_one 3) 0 none 0 0 [] rfl ⟨Nat.le_refl _, by unfold maxLen; omega, fun _ => rfl, fun h => absurd h (by simp)⟩ (Nat.zero_le _) (by decide) (fun h => absurd h (by simp)))
      go_wp2_with fail
      refine HP.out.mono ?_
      rintro e w8 ⟨g, L2, l2, z, rfl, _, hr8, hb8⟩
      have hs1 := settle1 3 f h lg z
      have hr9 : Rl w8 b b mb A6 c6 L2 l2 (n + 1) (fun j => if j = 3 then ((lg ++ [z]).length : Int) else f j) (fun j => h j || decide (j = 3)) (S1 3 (lg ++ [z])) := by rw [← hs1]; exact hr8
      have HR9 := Lib.hid hr9
      have HB9 := Lib.hid (HBL.out.trans hb8)
      have HLN : Hid ((lg ++ [z]).length = k + 1) := Lib.hid (by rw [List.length_append, HLG.out]; rfl)
      have HF9 : Hid (∀ m, 0 ≤ (if m = 3 then ((lg ++ [z]).length : Int) else f m) ∧ (if m = 3 then ((lg ++ [z]).length : Int) else f m) ≤ 4096) := Lib.hid fun m => by
        have := HFB.out m
        have := HLN.out
        split <;> omega
      clear hr8 hb8 hs1 hr9
      go_wp2_with fail
      go_roundw
      case rel => exact ⟨k + 1, lg ++ [z], L2, l2, n + 1, _, _, by go_num, hlt, HLN.out, by omega, HF9, HR9.out, HB9.out⟩
      case measure => simp [intOf]; omega
    · have hk4 : k = 4096 := by omega
      subst hk4
      have HPF := Lib.hid (propose_full HR.out.rn rfl (by show 4096 ≤ lg.length; rw [HLG.out]; exact Nat.le_refl _) none 0 0 (by omega))
      have HSU : Hid (∀ wx, Below wr.heap.size wr wx → Calls Try.prog 25 #[.pointer (some ⟨b, 0, none⟩)] wx fun e w' => e = .returned (.int .i64 4096) ∧ wx = w') := Lib.hid fun wx hx => (sure_any (HR.out.rn.below hx)).mono fun e w' hh => ⟨by rw [hh.1]; show Ending.returned (.int .i64 (lg.length : Int)) = _; rw [HLG.out]; rfl, hh.2⟩
      have HFIN : Hid (Below w.heap.size w wr) := Lib.hid (HB3.out.trans (HBL.out.mono (by rw [HBE.out]; exact HB3.out.size)))
      go_wp2_with fail
      refine HPF.out.mono ?_
      rintro e w8 ⟨rfl, rfl⟩
      go_wp2_with fail
      refine (rawake_any wr).mono ?_
      rintro e w9 ⟨rfl, b9⟩
      have HB9 := Lib.hid b9
      clear b9
      go_wp2_with fail
      refine (tick_nil w9).mono ?_
      rintro e w10 ⟨rfl, rfl⟩
      go_wp2_with fail
      refine (save_nil w9).mono ?_
      rintro e w11 ⟨rfl, rfl⟩
      go_wp2_with fail
      refine (log_nil w9).mono ?_
      rintro e w12 ⟨rfl, rfl⟩
      go_wp2_with fail
      refine (sure_nil w9).mono ?_
      rintro e w13 ⟨rfl, rfl⟩
      go_wp2_with fail
      refine (ractive_nil w9).mono ?_
      rintro e w14 ⟨rfl, b14⟩
      have HB14 := Lib.hid (HB9.out.trans (b14.mono HB9.out.size))
      clear b14
      go_wp2_with fail
      refine (view_nil w14).mono ?_
      rintro e w15 ⟨rfl, b15⟩
      have hfd : (Instr.field 43 (.agg #[.int .i64 0, .int .i64 0, .slice none 0 0]) 0).run Try.prog w15 = .ok (.int .i64 0) w15 := by kernel_rfl
      have HB15 := Lib.hid (HB14.out.trans (b15.mono HB14.out.size))
      clear b15
      go_wp2_with fail
      refine (HSU.out w15 HB15.out).mono ?_
      rintro e w16 ⟨rfl, rfl⟩
      have HE := Lib.hid (HFIN.out.trans (HB15.out.mono HFIN.out.size))
      go_wp2_with fail
      go_ret
      exact ⟨rfl, HE.out⟩
end Go.Proofs.Ytpnhdocimjkakaa
