/- The program's Get. -/
import Derived.Test.YtpnhdocimjkakaaPn25
namespace Go.Proofs.Ytpnhdocimjkakaa
open Go.RowKit Go.BigFrame

theorem Rd.tn {P : Nat → Prop} {w w' : World} {K b : Nat} {l : List UInt8} {e : Int} (h : Rd w K b l e) (t : Tn P w w') (hP : ∀ k, k ≤ b → ¬ P k) : Rd w' K b l e := by
  obtain ⟨A, cap, h0, h1, f0, f1, hs⟩ := h.out
  have hlt := h.lt
  have hkb := h.kb
  have hb := hP b (Nat.le_refl _)
  exact ⟨⟨A, cap, t.cell h0 hb, t.cell h1 hb, (t.frozen (p := ⟨b, 0, none⟩) hlt hb).trans f0, (t.frozen (p := ⟨b, 1, none⟩) hlt hb).trans f1, t.bs hs fun hl ad e9 => by
    obtain ⟨ad', e', hk, _⟩ := hs.at_ hl
    rw [e9] at e'
    cases e'
    exact hP _ (by omega)⟩, hkb, Nat.lt_of_lt_of_le hlt t.size⟩
/-- What the program's Get gives. -/
def VGetP (w : World) (K b : Nat) (l : List UInt8) (e : Int) (en : Ending) (w' : World) : Prop :=
  ∃ A n cap, en = .returned (.agg #[.int .i64 (getV l e).e, .int .i64 (getV l e).p, .slice A n cap]) ∧ n = (getV l e).ms.length ∧ So encI 1 w' w.heap.size 3 (.slice A n cap) (getV l e).ms ∧ Rd w' K b (getV l e).l (getV l e).r ∧ Tn (· = b) w w'
set_option maxRecDepth 100000 in
set_option maxHeartbeats 3200000 in
theorem vget_any2 (K b : Nat) (l : List UInt8) (e : Int) (w : World) (h : Rd w K b l e) :
    Calls Try.prog 54 #[.pointer (some ⟨b, 0, none⟩)] w (VGetP w K b l e) := by
  have hbw := h.lt
  have HG0 := Lib.hid (Gx.start w)
  have HM0 := Lib.hid (h.below (show Below w.heap.size w ((w.alloc (.cells #[.int .i64 0, .int .i64 0, .slice none 0 0] 43)).alloc (.cells #[.int .i64 0, .int .i64 0, .slice none 0 0] 43)) by go_grown))
  have HT0 : Hid (Tn (· = b) w ((w.alloc (.cells #[.int .i64 0, .int .i64 0, .slice none 0 0] 43)).alloc (.cells #[.int .i64 0, .int .i64 0, .slice none 0 0] 43))) := Lib.hid (Tn.ofNew (by go_grown))
  obtain ⟨G, hG⟩ : ∃ G, G = getV l e := ⟨_, rfl⟩
  have HGV := Lib.hid hG
  clear h hG
  go_enter Try.func54, Try.ntmps54
  go_wp2_with fail
  generalize (w.alloc (.cells #[.int .i64 0, .int .i64 0, .slice none 0 0] 43)).alloc (.cells #[.int .i64 0, .int .i64 0, .slice none 0 0] 43) = W0 at *
  go_at_call 53
  refine (rint_any K b l e _ HM0.out).mono ?_
  rintro en w1 ⟨rfl, m1, t1⟩
  obtain ⟨r1, hr1⟩ : ∃ r1, r1 = nuR l e := ⟨_, rfl⟩
  rw [← hr1] at m1 ⊢
  have HR1 := Lib.hid hr1
  have G1 := HG0.out.tn t1 (fun k hk e9 => by omega)
  have x0 := G1.x0
  have xf := G1.xf 0
  have hz1 := G1.hz
  have HG1 := Lib.hid (G1.set0 (unzz r1.1))
  have HT1 := Lib.hid ((HT0.out.then t1).thenNew9 (Tn.setCell w1 (w.heap.size + 1) 0 (.int .i64 (unzz r1.1))) (fun k hk => by omega))
  have HM1 := Lib.hid (m1.tn (Tn.setCell w1 (w.heap.size + 1) 0 (.int .i64 (unzz r1.1))) (fun k hk => by omega))
  clear G1 m1 t1 hr1
  generalize hv1 : unzz r1.1 = v1 at *
  have HV1 := Lib.hid hv1
  clear hv1
  go_wp2_with fail
  generalize w1.setCell ⟨w.heap.size + 1, 0, none⟩ (.int .i64 v1) = W1 at *
  clear x0 xf hz1
  go_at_call 53
  refine (rint_any K b _ _ _ HM1.out).mono ?_
  rintro en w2 ⟨rfl, m2, t2⟩
  obtain ⟨r2, hr2⟩ : ∃ r2, r2 = nuR r1.2.1 r1.2.2 := ⟨_, rfl⟩
  rw [← hr2] at m2 ⊢
  have HR2 := Lib.hid hr2
  have G2 := HG1.out.tn t2 (fun k hk e9 => by omega)
  have x1 := G2.x1
  have xf := G2.xf 1
  have hz2 := G2.hz
  have HG2 := Lib.hid (G2.set1 (unzz r2.1))
  have HT2 := Lib.hid ((HT1.out.then t2).thenNew9 (Tn.setCell w2 (w.heap.size + 1) 1 (.int .i64 (unzz r2.1))) (fun k hk => by omega))
  have HM2 := Lib.hid (m2.tn (Tn.setCell w2 (w.heap.size + 1) 1 (.int .i64 (unzz r2.1))) (fun k hk => by omega))
  clear G2 m2 t2 hr2
  generalize hv2 : unzz r2.1 = v2 at *
  have HV2 := Lib.hid hv2
  clear hv2
  go_wp2_with fail
  generalize w2.setCell ⟨w.heap.size + 1, 1, none⟩ (.int .i64 v2) = W2 at *
  clear x1 xf hz2
  go_at_call 107
  refine (rcount_any 8 (by decide) (by decide) K b _ _ _ HM2.out).mono ?_
  rintro en w3 ⟨rfl, m3, t3⟩
  have hc8 := cn_le8 r2.2.1 r2.2.2
  obtain ⟨r3, hr3⟩ : ∃ r3, r3 = cnR 8 r2.2.1 r2.2.2 := ⟨_, rfl⟩
  rw [← hr3] at m3 hc8 ⊢
  have HR3 := Lib.hid hr3
  have HG3 := Lib.hid (HG2.out.tn t3 (fun k hk e9 => by omega))
  have HT3 := Lib.hid (HT2.out.then t3)
  have HM3 := Lib.hid m3
  clear m3 t3 hr3
  obtain ⟨n3, l3, e3⟩ := r3
  simp only at hc8
  go_wp2_with fail
  go_loopw [12] (fun iv wr => ∃ (j : Nat) (A : Option Addr) (n cap : Nat), j ≤ n3 ∧ iv = .int .i64 (j : Int) ∧ Gx w wr v1 v2 A n cap (rdJ j l3 e3).1 ∧ Rd wr K b (rdJ j l3 e3).2.1 (rdJ j l3 e3).2.2 ∧ Tn (· = b) w wr) (fun iv _ => n3 - (intOf iv).toNat)
  case atStart => exact ⟨0, none, 0, 0, Nat.zero_le _, rfl, HG3.out, HM3.out, HT3.out⟩
  case round =>
    obtain ⟨j, A, n, cap, hj, rfl, g, m, t⟩ := hrel
    rename World => W3
    have HG := Lib.hid g
    have HM := Lib.hid m
    have HT := Lib.hid t
    clear g m t
    by_cases hlt : j < n3
    · have hlI : (j : Int) < (n3 : Int) := by omega
      have x2 := HG.out.x2
      have HGD := Lib.hid (HG.out.tn (P := fun _ => False) (Tn.drew W3) (fun _ _ => id))
      have HMD := Lib.hid (HM.out.tn (P := fun _ => False) (Tn.drew W3) (fun _ _ => id))
      have hrl := rdJ_len l3 e3 j
      have HS : Hid (rdJ (j + 1) l3 e3 = ((rdJ j l3 e3).1 ++ [unzz (nuR (rdJ j l3 e3).2.1 (rdJ j l3 e3).2.2).1], (nuR (rdJ j l3 e3).2.1 (rdJ j l3 e3).2.2).2)) := Lib.hid rfl
      have hln := HG.out.so.lenI
      have HCI := Lib.hid (rint_any K b _ _ _ HMD.out)
      obtain ⟨L, hL⟩ : ∃ L, L = (rdJ j l3 e3).1 := ⟨_, rfl⟩
      obtain ⟨x, hx⟩ : ∃ x, x = unzz (nuR (rdJ j l3 e3).2.1 (rdJ j l3 e3).2.2).1 := ⟨_, rfl⟩
      obtain ⟨q, hq⟩ : ∃ q, q = (nuR (rdJ j l3 e3).2.1 (rdJ j l3 e3).2.2).2 := ⟨_, rfl⟩
      rw [← hL] at hln hrl
      rw [← hL, ← hx, ← hq] at HS
      rw [← hx, ← hq] at HCI
      rw [← hL] at HG HGD
      have HLN : Hid (L.length = j) := Lib.hid hrl
      obtain rfl : n = j := by omega
      clear hrl hln hL hx hq HMD
      go_wp2_with fail
      go_region_law
        (first
          | (go_simp; go_at_call 53; go_loud (refine HCI.out.mono ?_; rintro en w4 ⟨rfl, m4, t4⟩; have G4 := HGD.out.tn t4 (fun k hk e9 => by omega); have x24 := G4.x2; have x24a := (fun o => keptA (o := o) x24); have hz4 := G4.hz; have HG4 := Lib.hid G4))
          | (refine step_appI rfl (.tmp 15) (.tmp 18) rfl (w.heap.size + 2) (.slice A n cap) L rfl (HG4.out.so.alloc _) (some ⟨w4.heap.size, 0, none⟩) 1 1 [x] rfl rfl _ ((lit_so w4 w4.heap.size 3 w4.heap.size rfl (Nat.le_refl _) #[.int .i64 x] 1 [x] encI_len rfl rfl (by decide)).sr encI_len).1 (n + 1) (by rw [HLN.out]; rfl) (by rw [HLN.out]; simp; omega) (by simp; omega) ?_; intro A5 c5 w5 so5 hg5 hat5; have hown := (fun k (e9 : (Value.slice A n cap).ownBlock = some k) => (HG4.out.so.lt k e9).1); have x25 := (Tn.ofGrown hg5).cell (x24a _) (fun e9 => by have := hown _ e9.symm; simp only at this; omega); have xf5 := ((Tn.ofGrown hg5).frozen (p := ⟨w.heap.size + 1, 2, none⟩) (by show w.heap.size + 1 < _; simp; omega) (fun e9 => by have := hown _ e9.symm; simp only at this; omega)).trans (keptFa x24 (HG4.out.xf 2)); have hz5 : w.heap.size + 1 < w5.heap.size := (by have := hg5.size; simp at this; omega)))
      all_goals
        have T45 : Tn (fun k => (Value.slice A n cap).ownBlock = some k) w4 w5 := (Tn.alloc _ _).thenQ (Tn.ofGrown hg5) fun k _ e9 => e9.symm
        have HG5 := Lib.hid (HG4.out.push so5 T45)
        have HT4 : Hid (Tn (· = b) w w4) := Lib.hid ((HT.out.then ((Tn.drew W3).then t4)))
        have HT5 : Hid (Tn (· = b) w w5) := Lib.hid (HT4.out.thenQ T45 fun k hk e9 => by have := hown _ e9; omega)
        have HM5 := Lib.hid (m4.tn T45 fun k hk e9 => by have := hown _ e9; omega)
        have HT6 := Lib.hid (HT5.out.thenNew9 (Tn.setCell w5 (w.heap.size + 1) 2 (.slice A5 (n + 1) c5)) (fun k hk => by omega))
        have HM6 := Lib.hid (HM5.out.tn (Tn.setCell w5 (w.heap.size + 1) 2 (.slice A5 (n + 1) c5)) (fun k hk => by omega))
        clear so5 hg5 hat5 m4 t4 T45
        go_wp2_with fail
        go_roundw
        case rel => exact ⟨n + 1, A5, n + 1, c5, by omega, by go_num, by rw [HS.out]; exact HG5.out, by rw [HS.out]; exact HM6.out, HT6.out⟩
        case measure => simp [intOf]; omega
    · obtain rfl : j = n3 := by omega
      have HEC := Lib.hid (rerr_any K b _ _ _ HM.out)
      have hln := HG.out.so.lenI
      have x0 := HG.out.x0
      have x1 := HG.out.x1
      have x2 := HG.out.x2
      have z0 := HG.out.z0
      have z1 := HG.out.z1
      have z2 := HG.out.z2
      have zf := HG.out.zf
      have hzz := HG.out.hz
      have hza : w.heap.size < W3.heap.size := by omega
      have hzb : w.heap.size + 1 < W3.heap.size := by omega
      have HGE : Hid (getV l e = if (rdJ j l3 e3).2.2 ≠ 0 then ⟨0, 0, [], (rdJ j l3 e3).2.1, (rdJ j l3 e3).2.2⟩ else ⟨v1, v2, (rdJ j l3 e3).1, (rdJ j l3 e3).2.1, (rdJ j l3 e3).2.2⟩) := Lib.hid (by
        unfold getV
        simp only
        rw [← HR1.out, ← HR2.out, ← HR3.out, HV1.out, HV2.out])
      have HFT : Hid (∀ a0 a1 a2, Tn (· = b) w (((W3.setCell ⟨w.heap.size, 0, none⟩ a0).setCell ⟨w.heap.size, 1, none⟩ a1).setCell ⟨w.heap.size, 2, none⟩ a2)) := Lib.hid fun a0 a1 a2 => ((HT.out.thenNew9 (Tn.setCell _ w.heap.size 0 _) (fun k hk => by omega)).thenNew9 (Tn.setCell _ w.heap.size 1 _) (fun k hk => by omega)).thenNew9 (Tn.setCell _ w.heap.size 2 _) (fun k hk => by omega)
      have HFM : Hid (∀ a0 a1 a2, Rd (((W3.setCell ⟨w.heap.size, 0, none⟩ a0).setCell ⟨w.heap.size, 1, none⟩ a1).setCell ⟨w.heap.size, 2, none⟩ a2) K b (rdJ j l3 e3).2.1 (rdJ j l3 e3).2.2) := Lib.hid fun a0 a1 a2 => ((HM.out.tn (Tn.setCell _ w.heap.size 0 _) (fun k hk => by omega)).tn (Tn.setCell _ w.heap.size 1 _) (fun k hk => by omega)).tn (Tn.setCell _ w.heap.size 2 _) (fun k hk => by omega)
      have HFS : Hid (∀ a0 a1 a2, So encI 1 (((W3.setCell ⟨w.heap.size, 0, none⟩ a0).setCell ⟨w.heap.size, 1, none⟩ a1).setCell ⟨w.heap.size, 2, none⟩ a2) w.heap.size 3 (.slice A n cap) (rdJ j l3 e3).1) := Lib.hid fun a0 a1 a2 => (((HG.out.so.tn (Tn.setCell _ w.heap.size 0 _) (fun k e9 => by have := (HG.out.so.lt k e9).1; omega)).tn (Tn.setCell _ w.heap.size 1 _) (fun k e9 => by have := (HG.out.so.lt k e9).1; omega)).tn (Tn.setCell _ w.heap.size 2 _) (fun k e9 => by have := (HG.out.so.lt k e9).1; omega)).more (by omega)
      by_cases he4 : (rdJ j l3 e3).2.2 = 0
      · have d4 : ((rdJ j l3 e3).2.2 != 0) = false := by simpa using he4
        have HGF := Lib.hid (HGE.out.trans (if_neg (by rw [he4]; decide)))
        have HLN := Lib.hid hln
        generalize (rdJ j l3 e3).2.2 = e4 at *
        clear he4 hln
        go_wp2_with (go_at_call 108; refine HEC.out.mono ?_; rintro en w9 ⟨rfl, rfl⟩)
        refine bodyPost_ret (v := .agg #[.int .i64 v1, .int .i64 v2, .slice A n cap]) (by simp [results, Try.results54, go_sem, z0, z1, z2]) rfl ?_
        unfold VGetP
        rw [HGF.out]
        exact ⟨A, n, cap, rfl, HLN.out.symm, HFS.out _ _ _, HFM.out _ _ _, HFT.out _ _ _⟩
      · have d4 : ((rdJ j l3 e3).2.2 != 0) = true := by simpa using he4
        have HGF := Lib.hid (HGE.out.trans (if_pos he4))
        generalize (rdJ j l3 e3).2.2 = e4 at *
        clear he4 hln
        go_wp2_with (go_at_call 108; refine HEC.out.mono ?_; rintro en w9 ⟨rfl, rfl⟩)
        refine bodyPost_ret (v := .agg #[.int .i64 0, .int .i64 0, .slice none 0 0]) (by simp [results, Try.results54, go_sem, z0, z1, z2]) rfl ?_
        unfold VGetP
        rw [HGF.out]
        exact ⟨none, 0, 0, rfl, rfl, So.empty _ _ _ _ _, HFM.out _ _ _, HFT.out _ _ _⟩
end Go.Proofs.Ytpnhdocimjkakaa
