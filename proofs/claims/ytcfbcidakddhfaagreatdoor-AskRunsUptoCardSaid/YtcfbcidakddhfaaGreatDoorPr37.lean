/- The program's readNumber. -/
import Derived.Test.YtcfbcidakddhfaaGreatDoorPr35
import Derived.Test.YtcfbcidakddhfaaGreatDoorPr36
import Derived.Test.YtcfbcidakddhfaaGreatDoorPr20
namespace Go.Proofs.YtcfbcidakddhfaaGreatDoor
open Go.RowKit Go.BigFrame

set_option maxRecDepth 100000 in
set_option maxHeartbeats 1600000 in
theorem cellsOf_any {q : Qr} {A : Option Addr} {c : Nat} (K : Nat) (B : Option Addr) (n cap : Nat) (l : List Smp) (w : World) (hln : l.length = n) (hp : Sr encSm 2 w K B cap l) (hK : K ≤ w.heap.size) (hok : ∀ x ∈ l, Sok x) (hl : l.length ≤ 1048576) (h2 : q.st ≤ 9223372036854775807) :
    Calls Tryz.prog 39 #[qv q A c, .slice B n cap] w (WinP w (cellsQ q l)) := by
  subst hln
  have hle := hp.le
  have hmax := hp.max
  unfold maxLen at hmax
  have B0 : Below w.heap.size w (w.alloc (.cells (qc q A c) 36)) := (Below.refl _ _).alloc (Nat.le_refl _) _
  have HX : Hid (Rwo (w.alloc (.cells (qc q A c) 36)) w.heap.size (qc q A c) 36) := Lib.hid ⟨heap_alloc_new w _⟩
  have HP := Lib.hid (hp.below (B0.mono hK))
  have hz : (w.alloc (.cells (qc q A c) 36)).heap.size = w.heap.size + 1 := by simp
  have HB0 := Lib.hid B0
  obtain ⟨W0, hW0⟩ : ∃ W0, W0 = w.alloc (.cells (qc q A c) 36) := ⟨_, rfl⟩
  rw [← hW0] at HX HP hz HB0
  have HWW := Lib.hid hW0
  have hK0 : K ≤ W0.heap.size := by omega
  clear hp B0 hW0
  by_cases h0 : q.op = 0
  · have HF : Hid (cellsQ q l = (0, l)) := Lib.hid (if_pos h0)
    have x0 : W0.cell? ⟨w.heap.size, 0, none⟩ = some (.int .i64 0) := by rw [← h0]; exact HX.out.cell rfl
    clear h0 hok
    go_enter Tryz.func39, Tryz.ntmps39
    go_upto_region 1 with fail
    rw [← HWW.out]
    have x9 : w.heap.size < W0.heap.size := by omega
    go_wp2_with fail
    go_loopw [6, 26] (fun v i wr => ∃ (k cc : Nat) (D : Option Addr), k ≤ l.length ∧ i = .int .i64 k ∧ v = .slice D k cc ∧ So encSm 2 wr W0.heap.size 121 (.slice D k cc) (l.take k) ∧ Below W0.heap.size W0 wr) (fun _ i _ => l.length - (intOf i).toNat)
    case atStart => exact ⟨0, 0, none, Nat.zero_le _, rfl, rfl, by simpa using So.empty _ _ _ _ _, Below.refl _ _⟩
    case round =>
      obtain ⟨k, cc, D, hk, rfl, rfl, hps, hbl⟩ := hrel
      rename World => wr
      have z := hbl.size
      by_cases hlt : k < l.length
      · obtain ⟨ad, hA, hadK, g1, g2⟩ := s_cells (HP.out.below (hbl.mono hK0)) hlt
        subst hA
        have htk : l.take (k + 1) = l.take k ++ [l[k]] := List.take_succ_eq_append_getElem hlt
        have hln : (l.take k).length = k := by simp; omega
        generalize l[k] = x at *
        obtain ⟨xn, xv⟩ := x
        simp only at g1 g2
        have HT := Lib.hid htk
        have HL := Lib.hid hln
        have hps1 := hps.alloc (.cells #[.int .i64 xn, .int .i64 xv] 130)
        clear htk hln
        go_wp2_with (at_builtin; refine wpList_pushE Tryz.underlying55 info_tc rfl (by decide) (wr.alloc (.cells #[.int .i64 xn, .int .i64 xv] 130)) rfl (.tmp 30) (.tmp 36) rfl W0.heap.size (.slice D k cc) (l.take k) rfl hps1 (xn, xv) _ rfl rfl (encSm_one _) _ (wr.heap.size + 1) (by simp) rfl (k + 1) (by rw [HL.out]) (by unfold maxLen; omega) (by omega) (by omega) ?_; intro A2 cap2 w2 hps2 hgrow2 hat2; have B2 : Below W0.heap.size W0 w2 := grown_belowT (hbl.alloc z _) hgrow2 (by simp; omega) (fun _ h => (hps1.lt _ h).1))
        go_roundw
        case rel => exact ⟨k + 1, cap2, A2, by omega, by go_num, rfl, by rw [HT.out]; exact hps2, B2⟩
        case measure => simp [intOf]; omega
      · have hkl : k = l.length := by omega
        subst hkl
        rw [List.take_length] at hps
        go_wp2
        go_ret2
        exact ⟨D, cc, by rw [HF.out]; rfl, by rw [HF.out]; exact hps.more (by omega), HB0.out.trans (hbl.mono (by omega))⟩
  · have e0 : (q.op == (0 : Int)) = false := by simpa using h0
    have HF : Hid (cellsQ q l = windowsB q.op l q.fr q.to_ q.st) := Lib.hid (if_neg h0)
    have HW := Lib.hid (windows_any q.op K B l.length cap l q.fr q.to_ q.st W0 rfl HP.out hK0 hok h2)
    generalize windowsB q.op l q.fr q.to_ q.st = P at HF HW
    clear h0 hok
    go_enter Tryz.func39, Tryz.ntmps39
    go_upto_region 1 with fail
    rw [← HWW.out]
    have x0 : W0.cell? ⟨w.heap.size, 0, none⟩ = some (.int .i64 q.op) := HX.out.cell rfl
    have x2 : W0.cell? ⟨w.heap.size, 2, none⟩ = some (.int .i64 q.fr) := HX.out.cell rfl
    have x3 : W0.cell? ⟨w.heap.size, 3, none⟩ = some (.int .i64 q.to_) := HX.out.cell rfl
    have x4 : W0.cell? ⟨w.heap.size, 4, none⟩ = some (.int .i64 q.st) := HX.out.cell rfl
    have x9 : w.heap.size < W0.heap.size := by omega
    go_wp2_with fail
    refine HW.out.mono ?_
    rintro e w1 ⟨A9, c9, rfl, so, b1⟩
    have HSO := Lib.hid so
    have HB1 := Lib.hid (HB0.out.trans (b1.mono (by omega)))
    clear so b1
    go_wp2
    go_ret2
    exact ⟨A9, c9, by rw [HF.out]; rfl, by rw [HF.out]; exact HSO.out.more (by omega), HB1.out⟩

/-- What pick gives: samples, and notes whose sets are new. -/
def PickP (q : Qr) (w : World) (lp : List Pt) (e : Ending) (w' : World) : Prop :=
  ∃ A1 c1 A2 c2 nz, e = .returned (.tuple #[.slice A1 (smpsQ q lp).length c1, .slice A2 (notesQ q lp).length c2]) ∧ So encSm 2 w' w.heap.size 130 (.slice A1 (smpsQ q lp).length c1) (smpsQ q lp) ∧
    Pw w' w.heap.size 52 54 (.slice A2 (notesQ q lp).length c2) nz ∧ nz.map Prod.fst = notesQ q lp ∧ Below w.heap.size w w'
/-- pick's loop. -/
structure Pk (q : Qr) (lp : List Pt) (W0 wr : World) (i : Nat) (A1 A2 : Option Addr) (m1 m2 c1 c2 : Nat) (sm : List Smp) (nz : List Pz) : Prop where
  s1 : sm = smpsQ q (lp.take i)
  n1 : nz.map Prod.fst = notesQ q (lp.take i)
  so : So encSm 2 wr W0.heap.size 130 (.slice A1 m1 c1) sm
  pw : Pw wr W0.heap.size 52 54 (.slice A2 m2 c2) nz
  e1 : sm.length = m1
  e2 : nz.length = m2
  l1 : m1 ≤ i
  l2 : m2 ≤ i
  bl : Below W0.heap.size W0 wr
theorem Pk.alloc {q : Qr} {lp : List Pt} {W0 wr : World} {i m1 m2 c1 c2 : Nat} {A1 A2 : Option Addr} {sm : List Smp} {nz : List Pz} (h : Pk q lp W0 wr i A1 A2 m1 m2 c1 c2 sm nz) (o : Obj) : Pk q lp W0 (wr.alloc o) i A1 A2 m1 m2 c1 c2 sm nz :=
  ⟨h.s1, h.n1, h.so.alloc o, h.pw.alloc o, h.e1, h.e2, h.l1, h.l2, h.bl.alloc h.bl.size o⟩
theorem Pk.below {q : Qr} {lp : List Pt} {W0 wr wx : World} {i m1 m2 c1 c2 : Nat} {A1 A2 : Option Addr} {sm : List Smp} {nz : List Pz} (h : Pk q lp W0 wr i A1 A2 m1 m2 c1 c2 sm nz) (hb : Below wr.heap.size wr wx) : Pk q lp W0 wx i A1 A2 m1 m2 c1 c2 sm nz :=
  ⟨h.s1, h.n1, h.so.below hb, h.pw.below hb, h.e1, h.e2, h.l1, h.l2, h.bl.trans (hb.mono h.bl.size)⟩
theorem Pk.skip {q : Qr} {lp : List Pt} {W0 wr : World} {i m1 m2 c1 c2 : Nat} {A1 A2 : Option Addr} {sm : List Smp} {nz : List Pz} (h : Pk q lp W0 wr i A1 A2 m1 m2 c1 c2 sm nz) (hi : i < lp.length) (h1 : (inQ q lp[i] && (lp[i].k == 1)) = false) (h2 : (inQ q lp[i] && ((lp[i].k == 2) && q.nt)) = false) : Pk q lp W0 wr (i + 1) A1 A2 m1 m2 c1 c2 sm nz :=
  ⟨by rw [smpsQ_next q hi, h1, h.s1]; simp, by rw [notesQ_next q hi, h2, h.n1]; simp, h.so, h.pw, h.e1, h.e2, Nat.le_succ_of_le h.l1, Nat.le_succ_of_le h.l2, h.bl⟩
theorem Pk.smp {q : Qr} {lp : List Pt} {W0 wr wx : World} {i m1 m2 c1 c2 c9 : Nat} {A1 A2 A9 : Option Addr} {sm : List Smp} {nz : List Pz} (h : Pk q lp W0 wr i A1 A2 m1 m2 c1 c2 sm nz) (hi : i < lp.length) (h1 : inQ q lp[i] = true) (h2 : lp[i].k = 1)
    (hg : wr.grownBy wx (Value.slice A1 m1 c1).ownBlock) (hn : So encSm 2 wx W0.heap.size 130 (.slice A9 (m1 + 1) c9) (sm ++ [(lp[i].t, lp[i].n)])) : Pk q lp W0 wx (i + 1) A9 A2 (m1 + 1) m2 c9 c2 (sm ++ [(lp[i].t, lp[i].n)]) nz :=
  ⟨by rw [smpsQ_next q hi, h1, h2, ← h.s1]; rfl, by rw [notesQ_next q hi, h1, h2, h.n1]; simp, hn, h.pw.keepO h.so (by decide) (by decide) hg, by rw [List.length_append, h.e1]; rfl, h.e2, by have := h.l1; omega, Nat.le_succ_of_le h.l2,
    grown_belowT h.bl hg h.bl.size (fun _ hb => (h.so.lt _ hb).1)⟩
theorem Pk.note {q : Qr} {lp : List Pt} {W0 wr wx : World} {i m1 m2 c1 c2 c9 : Nat} {A1 A2 A9 : Option Addr} {sm : List Smp} {nz : List Pz} (h : Pk q lp W0 wr i A1 A2 m1 m2 c1 c2 sm nz) (hi : i < lp.length) (h1 : inQ q lp[i] = true) (h2 : lp[i].k = 2) (h3 : q.nt = true) {x : Pz} (hx : x.1 = lp[i])
    (hs : So encP 2 wr W0.heap.size 54 (.slice x.2.1 x.1.set.length x.2.2) x.1.set) (hg : wr.grownBy wx (Value.slice A2 m2 c2).ownBlock) (hn : So encPz 8 wx W0.heap.size 52 (.slice A9 (m2 + 1) c9) (nz ++ [x])) : Pk q lp W0 wx (i + 1) A1 A9 m1 (m2 + 1) c1 c9 sm (nz ++ [x]) :=
  ⟨by rw [smpsQ_next q hi, h1, h2, h.s1]; simp, by rw [notesQ_next q hi, h1, h2, h3, List.map_append, h.n1, ← hx]; rfl, h.so.keepO h.pw.so (by decide) hg, h.pw.push (by decide) hs hg hn, h.e1, by rw [List.length_append, h.e2]; rfl, Nat.le_succ_of_le h.l1, by have := h.l2; omega,
    grown_belowT h.bl hg h.bl.size (fun _ hb => (h.pw.so.lt _ hb).1)⟩
set_option maxRecDepth 100000 in
set_option maxHeartbeats 3200000 in
theorem pick_any {q : Qr} {A : Option Addr} {c : Nat} (K : Nat) (B : Option Addr) (n cap : Nat) (l : List Pz) (lp : List Pt) (w : World) (hln : l.length = n) (hlp : l.map Prod.fst = lp) (hp : Ps w K B cap l) (hK : K ≤ w.heap.size) (hl : l.length ≤ 1048576) (hsm : ∀ x ∈ l, x.1.set.length ≤ 1048576) :
    Calls Tryz.prog 38 #[qv q A c, .slice B n cap] w (PickP q w lp) := by
  subst hln
  have hle := hp.sr.le
  have hmax := hp.sr.max
  unfold maxLen at hmax
  have B0 : Below w.heap.size w (w.alloc (.cells (qc q A c) 36)) := (Below.refl _ _).alloc (Nat.le_refl _) _
  have HX : Hid (Rwo (w.alloc (.cells (qc q A c) 36)) w.heap.size (qc q A c) 36) := Lib.hid ⟨heap_alloc_new w _⟩
  have HP := Lib.hid (hp.below (B0.mono hK))
  have hz : (w.alloc (.cells (qc q A c) 36)).heap.size = w.heap.size + 1 := by simp
  have HB0 := Lib.hid B0
  obtain ⟨W0, hW0⟩ : ∃ W0, W0 = w.alloc (.cells (qc q A c) 36) := ⟨_, rfl⟩
  rw [← hW0] at HX HP hz HB0
  have HWW := Lib.hid hW0
  have HSM := Lib.hid hsm
  have HLP := Lib.hid hlp
  have hK0 : K ≤ W0.heap.size := by omega
  have hll : lp.length = l.length := by rw [← hlp, List.length_map]
  clear hp B0 hW0 hsm hlp
  go_enter Tryz.func38, Tryz.ntmps38
  go_upto_region 1 with fail
  rw [← HWW.out]
  go_wp2_with fail
  go_loopw [6, 7, 12] (fun v6 v7 v12 wr => ∃ (i m1 m2 c1 c2 : Nat) (A1 A2 : Option Addr) (sm : List Smp) (nz : List Pz), i ≤ l.length ∧ v12 = .int .i64 i ∧ v6 = .slice A1 m1 c1 ∧ v7 = .slice A2 m2 c2 ∧ Pk q lp W0 wr i A1 A2 m1 m2 c1 c2 sm nz) (fun _ _ i _ => l.length - (intOf i).toNat)
  case atStart => exact ⟨0, 0, 0, 0, 0, none, none, [], [], Nat.zero_le _, rfl, rfl, rfl, rfl, rfl, So.empty _ _ _ _ _, Pw.empty _ _ _ _, rfl, rfl, Nat.le_refl _, Nat.le_refl _, Below.refl _ _⟩
  case round =>
    obtain ⟨i, m1, m2, c1, c2, A1, A2, sm, nz, hi, rfl, rfl, rfl, hpk⟩ := hrel
    rename World => wr
    have z := hpk.bl.size
    by_cases hlt : i < l.length
    · obtain ⟨ad, hA, hadK, g0, g1, g2, g3, g4, g5, g6, g7⟩ := ps_cells (HP.out.sr.below (hpk.bl.mono hK0)) hlt
      subst hA
      have hxl : l[i].1 = lp[i]'(by omega) := by
        have := HLP.out
        subst this
        simp
      have hst := (HP.out.st l[i] (List.getElem_mem hlt))
      have hsl := HSM.out l[i] (List.getElem_mem hlt)
      generalize l[i] = x at *
      have HST := Lib.hid hst
      have HXL := Lib.hid hxl
      have HPK := Lib.hid (hpk.alloc (.cells (ceP x) 52))
      have HPX : Hid (Rwo (wr.alloc (.cells (ceP x) 52)) wr.heap.size (ceP x) 52) := Lib.hid ⟨heap_alloc_new wr _⟩
      have HQX : Hid (Rwo (wr.alloc (.cells (ceP x) 52)) w.heap.size (qc q A c) 36) := Lib.hid (by
        have h1 := HX.out
        have hlt9 := h1.lt
        have hbb := HPK.out.bl
        exact ⟨(hbb.block _ (by omega)).trans h1.hp⟩)
      have hzx : (wr.alloc (.cells (ceP x) 52)).heap.size = wr.heap.size + 1 := by simp
      have hm1 := hpk.l1
      have hm2 := hpk.l2
      have HPK0 := Lib.hid hpk
      have HB01 : Hid (Below wr.heap.size wr (wr.alloc (.cells (ceP x) 52))) := Lib.hid ((Below.refl _ _).alloc (Nat.le_refl _) _)
      clear hst hxl hpk
      go_upto_region 6 with fail
      obtain ⟨W1, hW1⟩ : ∃ W1, W1 = wr.alloc (.cells (ceP x) 52) := ⟨_, rfl⟩
      rw [← hW1] at HPK HPX HQX hzx HB01
      rw [← hW1]
      clear hW1 g0 g1 g2 g3 g4 g5 g6 g7
      have x0 : W1.cell? ⟨wr.heap.size, 0, none⟩ = some (.slice x.2.1 x.1.set.length x.2.2) := HPX.out.cell rfl
      have x1 : W1.cell? ⟨wr.heap.size, 1, none⟩ = some (.int .i64 x.1.t) := HPX.out.cell rfl
      have x2 : W1.cell? ⟨wr.heap.size, 2, none⟩ = some (.int .i64 x.1.k) := HPX.out.cell rfl
      have x3 : W1.cell? ⟨wr.heap.size, 3, none⟩ = some (.int .i64 x.1.n) := HPX.out.cell rfl
      have q2 : W1.cell? ⟨w.heap.size, 2, none⟩ = some (.int .i64 q.fr) := HQX.out.cell rfl
      have q3 : W1.cell? ⟨w.heap.size, 3, none⟩ = some (.int .i64 q.to_) := HQX.out.cell rfl
      have q5 : W1.cell? ⟨w.heap.size, 5, none⟩ = some (.bool q.nt) := HQX.out.cell rfl
      have hzz : wr.heap.size < W1.heap.size := by omega
      have hzw : w.heap.size < W1.heap.size := by omega
      clear hzx
      have hzn : w.heap.size ≠ wr.heap.size := by omega
      have hfin : ∀ b : Bool, inQ q x.1 = b → inQ q (lp[i]'(by omega)) = b := fun b h => by rw [← HXL.out]; exact h
      have HIN := Lib.hid hfin
      clear hfin
      cases d1 : decide (x.1.t < q.fr) with
      | true =>
        have HI : Hid (inQ q (lp[i]'(by omega)) = false) := Lib.hid (HIN.out _ (by simp at d1; unfold inQ; rw [decide_eq_false (by omega)]; rfl))
        go_wp2_with fail
        go_roundw
        case rel => exact ⟨i + 1, m1, m2, c1, c2, A1, A2, sm, nz, by omega, by go_num, rfl, rfl, HPK.out.skip (by omega) (by rw [HI.out]; rfl) (by rw [HI.out]; rfl)⟩
        case measure => simp [intOf]; omega
      | false =>
      cases d2 : decide (q.to_ ≤ x.1.t) with
      | true =>
        have HI : Hid (inQ q (lp[i]'(by omega)) = false) := Lib.hid (HIN.out _ (by simp at d2; unfold inQ; rw [decide_eq_false (show ¬ x.1.t < q.to_ by omega), Bool.and_false]))
        go_wp2_with fail
        go_roundw
        case rel => exact ⟨i + 1, m1, m2, c1, c2, A1, A2, sm, nz, by omega, by go_num, rfl, rfl, HPK.out.skip (by omega) (by rw [HI.out]; rfl) (by rw [HI.out]; rfl)⟩
        case measure => simp [intOf]; omega
      | false =>
      have HI : Hid (inQ q (lp[i]'(by omega)) = true) := Lib.hid (HIN.out _ (by simp at d1 d2; unfold inQ; rw [decide_eq_true (show q.fr ≤ x.1.t by omega), decide_eq_true (show x.1.t < q.to_ by omega)]; rfl))
      cases d3 : (x.1.k == (1 : Int)) with
      | true =>
        have hk1 : x.1.k = 1 := by simpa using d3
        have hk2 := Lib.hid (show (lp[i]'(by omega)).k = 1 by rw [← HXL.out]; exact hk1)
        have HTN : Hid ((x.1.t, x.1.n) = ((lp[i]'(by omega)).t, (lp[i]'(by omega)).n)) := Lib.hid (by rw [← HXL.out])
        clear hk1
        go_wp2_with (at_builtin; refine wpList_pushE Tryz.underlying100 info_ts rfl (by decide) W1 rfl (.tmp 33) (.tmp 39) rfl W0.heap.size (.slice A1 m1 c1) sm rfl HPK.out.so (x.1.t, x.1.n) _ rfl rfl (encSm_one _) _ W1.heap.size rfl rfl (m1 + 1) (by rw [HPK.out.e1]) (by unfold maxLen; omega) (by omega) HPK.out.bl.size ?_; intro A9 c9 w9 so9 hg9 hat9)
        go_roundw
        case rel => exact ⟨i + 1, m1 + 1, m2, c9, c2, A9, A2, sm ++ [((lp[i]'(by omega)).t, (lp[i]'(by omega)).n)], nz, by omega, by go_num, rfl, rfl, HPK.out.smp (by omega) HI.out hk2.out hg9 (by rw [← HTN.out]; exact so9)⟩
        case measure => simp [intOf]; omega
      | false =>
      cases d4 : (x.1.k == (2 : Int)) with
      | false =>
        go_wp2_with fail
        go_roundw
        case rel => exact ⟨i + 1, m1, m2, c1, c2, A1, A2, sm, nz, by omega, by go_num, rfl, rfl, HPK.out.skip (by omega) (by rw [← HXL.out, d3, Bool.and_false]) (by rw [← HXL.out, d4, Bool.false_and, Bool.and_false])⟩
        case measure => simp [intOf]; omega
      | true =>
      cases d5 : q.nt with
      | false =>
        rw [d5] at q5
        go_wp2_with fail
        go_roundw
        case rel => exact ⟨i + 1, m1, m2, c1, c2, A1, A2, sm, nz, by omega, by go_num, rfl, rfl, HPK.out.skip (by omega) (by rw [← HXL.out, d3, Bool.and_false]) (by rw [d5, Bool.and_false, Bool.and_false])⟩
        case measure => simp [intOf]; omega
      | true =>
        rw [d5] at q5
        have hk2 := Lib.hid (show (lp[i]'(by omega)).k = 2 by rw [← HXL.out]; simpa using d4)
        have HCL := Lib.hid (clone_any K x.2.1 x.1.set.length x.2.2 x.1.set W1 rfl (HST.out.below (HPK.out.bl.mono hK0)) (Nat.le_trans hK0 HPK.out.bl.size) (by omega))
        go_wp2_with fail
        refine HCL.out.mono ?_
        rintro e w3 ⟨A8, c8, rfl, so8, b8⟩
        have HPK3 := Lib.hid (HPK.out.below b8)
        have HPX3 := Lib.hid (HPX.out.below b8)
        have hf3 := HPX3.out.fr 0
        have hz3 : wr.heap.size < w3.heap.size := by have := b8.size; omega
        have y0 : w3.cell? ⟨wr.heap.size, 0, none⟩ = some (.slice x.2.1 x.1.set.length x.2.2) := HPX3.out.cell rfl
        have HB03 := Lib.hid (HB01.out.trans (b8.mono HB01.out.size))
        have HSO8 := Lib.hid so8
        have hzl := Lib.hid hzz
        clear so8 b8 x0 x1 x2 x3 q2 q3 q5
        go_upto_region 11 with fail
        obtain ⟨W4, hW4⟩ : ∃ W4, W4 = w3.setCell ⟨wr.heap.size, 0, none⟩ (.slice A8 x.1.set.length c8) := ⟨_, rfl⟩
        have HX4 : Hid (Rwo W4 wr.heap.size (ceP (x.1, A8, c8)) 52) := Lib.hid (by rw [hW4]; exact HPX3.out.set 0 _)
        have HB4 : Hid (Below wr.heap.size wr W4) := Lib.hid (by rw [hW4]; exact HB03.out.setCell (Nat.le_refl _) _)
        have HS4 : Hid (So encP 2 W4 W0.heap.size 54 (.slice A8 x.1.set.length c8) x.1.set) := Lib.hid (by
          rw [hW4]
          exact (HSO8.out.keep (grown_set _ _ _ _) (.inr (fun e => by have := (HSO8.out.lt _ e).1; omega))).more HPK.out.bl.size)
        rw [← hW4]
        clear hW4 hf3 hz3 y0 hzz
        have HPK4 := Lib.hid (HPK0.out.below HB4.out)
        have y0 : W4.cell? ⟨wr.heap.size, 0, none⟩ = some (.slice A8 x.1.set.length c8) := HX4.out.cell rfl
        have y1 : W4.cell? ⟨wr.heap.size, 1, none⟩ = some (.int .i64 x.1.t) := HX4.out.cell rfl
        have y2 : W4.cell? ⟨wr.heap.size, 2, none⟩ = some (.int .i64 x.1.k) := HX4.out.cell rfl
        have y3 : W4.cell? ⟨wr.heap.size, 3, none⟩ = some (.int .i64 x.1.n) := HX4.out.cell rfl
        have y4 : W4.cell? ⟨wr.heap.size, 4, none⟩ = some (.string x.1.x) := HX4.out.cell rfl
        have y5 : W4.cell? ⟨wr.heap.size, 5, none⟩ = some (.int .i64 x.1.a) := HX4.out.cell rfl
        have y6 : W4.cell? ⟨wr.heap.size, 6, none⟩ = some (.int .u32 x.1.b) := HX4.out.cell rfl
        have y7 : W4.cell? ⟨wr.heap.size, 7, none⟩ = some (.int .u32 x.1.c) := HX4.out.cell rfl
        have y9 : wr.heap.size < W4.heap.size := HX4.out.lt
        go_wp2_with (at_builtin; refine wpList_pushE Tryz.underlying28 info_pt rfl (by decide) W4 rfl (.tmp 53) (.tmp 55) rfl W0.heap.size (.slice A2 m2 c2) nz rfl HPK4.out.pw.so (x.1, A8, c8) _ rfl rfl (encPz_one _) _ W4.heap.size rfl rfl (m2 + 1) (by rw [HPK4.out.e2]) (by unfold maxLen; omega) (by omega) HPK4.out.bl.size ?_; intro A9 c9 w9 so9 hg9 hat9)
        go_roundw
        case rel => exact ⟨i + 1, m1, m2 + 1, c1, c9, A1, A9, sm, nz ++ [(x.1, A8, c8)], by omega, by go_num, rfl, rfl, HPK4.out.note (by omega) HI.out hk2.out d5 HXL.out HS4.out hg9 so9⟩
        case measure => simp [intOf]; omega
    · have hil : i = l.length := by omega
      subst hil
      have hT : lp.take l.length = lp := by rw [← hll]; exact List.take_length
      have s1 := hpk.s1
      have n1 := hpk.n1
      have e1 := hpk.e1
      have e2 := hpk.e2
      rw [hT] at s1 n1
      subst s1
      have HN1 := Lib.hid n1
      have e3 : (notesQ q lp).length = m2 := by rw [← n1, List.length_map]; exact e2
      have HPK := Lib.hid hpk
      subst e1
      subst e3
      clear n1 e2 hpk hT
      go_wp2
      go_ret2
      exact ⟨A1, c1, A2, c2, nz, rfl, HPK.out.so.more (by omega), HPK.out.pw.more (by omega), HN1.out, HB0.out.trans (HPK.out.bl.mono (by omega))⟩
end Go.Proofs.YtcfbcidakddhfaaGreatDoor
namespace Go.Proofs.YtcfbcidakddhfaaGreatDoor
open Go.RowKit Go.BigFrame

theorem cutc_any (s : ByteArray) (c : UInt8) (sep : ByteArray) (w : World) (hc : sep.data.toList = [c]) (hs : s.size ≤ 1048576) (hm : Mx w) : Calls Tryz.prog 41 #[.string s, .string sep] w fun e w' => (∃ x : ByteArray, e = .returned (.tuple #[.string (strB (cutB c s.data.toList)), .string x, .bool (decide (c ∈ s.data.toList))])) ∧ Below w.heap.size w w' := by
  obtain ⟨m, hm⟩ := hm
  refine (cut_any s sep m w (by omega) hm).mono ?_
  rintro e w' ⟨rfl, n, rfl⟩
  rw [hc]
  obtain ⟨h1, h2⟩ := cut_one c s.data.toList
  rw [h1, h2]
  exact ⟨⟨_, rfl⟩, below_drewN (Below.refl _ _) _⟩
theorem cutPrefix_no (s p : ByteArray) (w : World) (h : Lib.hasPrefix s.data.toList p.data.toList = false) : Calls Tryz.prog 82 #[.string s, .string p] w fun e w' => e = .returned (.tuple #[.string s, .bool false]) ∧ w = w' := by
  have h1 := cutPrefix_any s p w
  rw [h] at h1
  simpa using h1
theorem cutPrefix_yes (s p : ByteArray) (w : World) (h : Lib.hasPrefix s.data.toList p.data.toList = true) : Calls Tryz.prog 82 #[.string s, .string p] w fun e w' => e = .returned (.tuple #[.string (s.extract p.size s.size), .bool true]) ∧ w = w' := by
  have h1 := cutPrefix_any s p w
  rw [h] at h1
  simpa using h1
/-- What readNumber leaves: nothing read, or the number in its place. -/
def RnP (w : World) (b i : Nat) (x : Option (Int × Nat)) (e : Ending) (w' : World) : Prop :=
  (x = none ∧ e = .returned (.int .i64 0) ∧ Below w.heap.size w w') ∨ ∃ v u w1, x = some (v, u) ∧ e = .returned (.int .i64 ((u : Nat) : Int)) ∧ Below w.heap.size w w1 ∧ w' = w1.setCell ⟨b, i, none⟩ (.int .i64 v)
set_option maxRecDepth 100000 in
set_option maxHeartbeats 1600000 in
theorem readNumber_any {b i : Nat} {cs : Array Value} {T : TypeId} {old : Int} (t : ByteArray) (w : World) (hs : t.size ≤ 1048576) (hm : Mx w) (he : Errs w) (hp : Pow w) (hx : Rwo w b cs T) (hi : cs[i]? = some (.int .i64 old)) :
    Calls Tryz.prog 60 #[.pointer (some ⟨b, i, none⟩), .string t] w (RnP w b i (numA t.data.toList)) := by
  have HM := Lib.hid hm
  have HE := Lib.hid he
  have HP := Lib.hid hp
  have HX := Lib.hid hx
  have HI := Lib.hid hi
  have HS := Lib.hid hs
  have htl : t.data.toList.length = t.size := by simp
  clear hm he hp hx hi hs
  cases hh : Lib.hasPrefix t.data.toList [32] with
  | false =>
    have HC1 := Lib.hid (cutPrefix_no t ⟨#[32]⟩ w hh)
    have HF : Hid (numA t.data.toList = none) := Lib.hid (by
      cases hl : t.data.toList with
      | nil => rfl
      | cons x r =>
        unfold numA
        simp only
        rw [if_neg (fun e => by rw [hl, e] at hh; simp [Lib.hasPrefix, List.isPrefixOf] at hh)])
    clear hh
    go_enter Tryz.func60, Tryz.ntmps60
    go_wp2_with fail
    refine HC1.out.mono ?_
    rintro e w' ⟨rfl, rfl⟩
    go_wp2_with fail
    refine (cutc_any t 32 ⟨#[32]⟩ w rfl HS.out HM.out).mono ?_
    rintro e w1 ⟨⟨x, rfl⟩, b1⟩
    have HB1 := Lib.hid b1
    have HC3 := Lib.hid (parseInt_any (strB (cutB 32 t.data.toList)) w1 (by rw [sz_strB]; have := cutB_len 32 t.data.toList; have := HS.out; omega) (HE.out.below b1))
    clear b1
    go_wp2_with fail
    refine HC3.out.mono ?_
    rintro e w2 ⟨b2, ⟨v, _, rfl⟩ | ⟨_, v, N, rfl⟩⟩
    · have HB2 := Lib.hid (HB1.out.trans (b2.mono HB1.out.size))
      clear b2
      go_wp2
      go_ret
      exact .inl ⟨HF.out, rfl, HB2.out⟩
    · have HB2 := Lib.hid (HB1.out.trans (b2.mono HB1.out.size))
      clear b2
      go_wp2
      go_ret
      exact .inl ⟨HF.out, rfl, HB2.out⟩
  | true =>
    have HC1 := Lib.hid (cutPrefix_yes t ⟨#[32]⟩ w hh)
    obtain ⟨r, hr⟩ : ∃ r, t.data.toList = 32 :: r := by
      cases hl : t.data.toList with
      | nil => rw [hl] at hh; simp [Lib.hasPrefix, List.isPrefixOf] at hh
      | cons x r =>
        rw [hl] at hh
        simp [Lib.hasPrefix, List.isPrefixOf] at hh
        exact ⟨r, by rw [← hh]⟩
    have hsz : t.size = r.length + 1 := by rw [← htl, hr]; rfl
    have hex : (t.extract (⟨#[32]⟩ : ByteArray).size t.size).data.toList = r := by
      rw [ex_list, hr]
      rfl
    have hes : (t.extract (⟨#[32]⟩ : ByteArray).size t.size).size ≤ 1048576 := by
      have h1 : (⟨#[32]⟩ : ByteArray).size = 1 := rfl
      have := HS.out
      rw [ex_size, h1]
      omega
    have hnA : numA t.data.toList = (numOf (cutB 32 r)).map fun v => (v, 1 + (cutB 32 r).length) := by
      rw [hr]
      unfold numA
      simp only
      rw [if_pos trivial]
    have hdl : (cutB 32 r).length ≤ 1048576 := by have := cutB_len 32 r; have := HS.out; omega
    have HNA := Lib.hid hnA
    have HEX := Lib.hid hex
    have HES := Lib.hid hes
    have HDL := Lib.hid hdl
    generalize t.extract (⟨#[32]⟩ : ByteArray).size t.size = s at HC1 HEX HES
    clear hh hsz hr hex hes hnA hdl
    go_enter Tryz.func60, Tryz.ntmps60
    go_wp2_with fail
    refine HC1.out.mono ?_
    rintro e w' ⟨rfl, rfl⟩
    go_wp2_with fail
    refine (cutc_any s 32 ⟨#[32]⟩ w rfl HES.out HM.out).mono ?_
    rintro e w1 ⟨⟨x, rfl⟩, b1⟩
    rw [HEX.out]
    have HB1 := Lib.hid b1
    have HPW := Lib.hid (HP.out.below b1)
    have HC3 := Lib.hid (parseInt_any (strB (cutB 32 r)) w1 (by rw [sz_strB]; have := HDL.out; omega) (HE.out.below b1))
    generalize (decide ((32 : UInt8) ∈ r)) = fd
    obtain ⟨d, hd⟩ : ∃ d, d = cutB 32 r := ⟨_, rfl⟩
    rw [← hd] at HC3 HNA HDL ⊢
    clear b1 hd
    go_wp2_with fail
    refine HC3.out.mono ?_
    rintro e w2 ⟨b2, ⟨v, hv, rfl⟩ | ⟨hv, v, N, rfl⟩⟩
    · rw [ls_strB] at hv
      have hbd := Lib.parseIntB_bounds hv
      have v1 : -9223372036854775808 ≤ v := by have := hbd.1; omega
      have v2 : v ≤ 9223372036854775807 := by have := hbd.2; omega
      have HB2 := Lib.hid (HB1.out.trans (b2.mono HB1.out.size))
      have HF := Lib.hid (format_any v w2 v1 v2 (HPW.out.below b2))
      by_cases hit : Lib.itoa v = d
      · have HN : Hid (numA t.data.toList = some (v, 1 + d.length)) := Lib.hid (by
          rw [HNA.out]
          unfold numOf
          rw [hv]
          simp only
          rw [if_pos hit]
          rfl)
        have ec : ((strB (Lib.itoa v)).toList == (strB d).toList) = true := by rw [hit]; simp
        clear b2 hbd hv hit
        go_wp2_with fail
        refine HF.out.mono ?_
        rintro e w3 ⟨rfl, b3⟩
        have HB3 := Lib.hid (HB2.out.trans (b3.mono HB2.out.size))
        have hX3 := HX.out.below HB3.out
        have y1 := hX3.cell HI.out
        have yf := hX3.fr
        have yl := hX3.lt
        have hsz : (strB d).size = d.length := sz_strB d
        have hd2 := HDL.out
        clear b3 hX3
        go_wp2
        go_ret
        exact .inr ⟨v, 1 + d.length, w3, HN.out, congrArg (fun n : Int => Ending.returned (Value.int .i64 n)) (show (1 + (d.length : Int)) = ((1 + d.length : Nat) : Int) by omega), HB3.out, rfl⟩
      · have HN : Hid (numA t.data.toList = none) := Lib.hid (by
          rw [HNA.out]
          unfold numOf
          rw [hv]
          simp only
          rw [if_neg hit]
          rfl)
        have ec : ((strB (Lib.itoa v)).toList == (strB d).toList) = false := by
          have h := beqB (Lib.itoa v) (strB d)
          rwa [ls_strB, decide_eq_false (fun e => hit e.symm)] at h
        clear b2 hbd hv hit
        go_wp2_with fail
        refine HF.out.mono ?_
        rintro e w3 ⟨rfl, b3⟩
        have HB3 := Lib.hid (HB2.out.trans (b3.mono HB2.out.size))
        clear b3
        go_wp2
        go_ret
        exact .inl ⟨HN.out, rfl, HB3.out⟩
    · rw [ls_strB] at hv
      have HN : Hid (numA t.data.toList = none) := Lib.hid (by
        rw [HNA.out]
        unfold numOf
        cases hq : Lib.parseIntB 64 d
        · exact absurd hq (hv _)
        · rfl
        · rfl)
      have HB2 := Lib.hid (HB1.out.trans (b2.mono HB1.out.size))
      clear b2 hv
      go_wp2
      go_ret
      exact .inl ⟨HN.out, rfl, HB2.out⟩
end Go.Proofs.YtcfbcidakddhfaaGreatDoor
