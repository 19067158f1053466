/- AskRuns' walk. -/
import Derived.Test.YtcfbcidakddhfaaGreatDoorPr49
import Derived.Deep.CutBlock
namespace Go.Proofs.YtcfbcidakddhfaaGreatDoor
open Go.RowKit Go.BigFrame

/-- What came in, and the box of the query, seen from the world w. -/
structure Cx (q : Qr) (A : Option Addr) (c K0 KP : Nat) (B : Option Addr) (cap : Nat) (l : List Pz) (w wx : World) : Prop where
  bx : Rwo wx w.heap.size (qc q A c) 24
  rr : Rr wx K0 A c q.rs
  ps : Ps wx KP B cap l
  bl : Below w.heap.size w wx
  hk : K0 ≤ w.heap.size
  hp : KP ≤ w.heap.size
theorem Cx.below {q : Qr} {A : Option Addr} {c K0 KP : Nat} {B : Option Addr} {cap : Nat} {l : List Pz} {w wx wy : World} (h : Cx q A c K0 KP B cap l w wx) (hb : Below wx.heap.size wx wy) : Cx q A c K0 KP B cap l w wy :=
  ⟨h.bx.below hb, h.rr.below (hb.mono (Nat.le_trans h.hk h.bl.size)), h.ps.below (hb.mono (Nat.le_trans h.hp h.bl.size)), h.bl.trans (hb.mono h.bl.size), h.hk, h.hp⟩
theorem rz_cells {w : World} {K cap : Nat} {A : Option Addr} {l : List Rz} (h : Sr encRz 2 w K A cap l) {i : Nat} (hi : i < l.length) : ∃ ad : Addr, A = some ad ∧ ad.block < K ∧ w.cell? (ad.add (i * 2)) = some (.slice l[i].2.1.1 l[i].1.1.length l[i].2.1.2) ∧
    w.cell? ⟨(ad.add (i * 2)).block, (ad.add (i * 2)).off + 1, none⟩ = some (.slice l[i].2.2.1 l[i].1.2.length l[i].2.2.2) := by
  obtain ⟨ad, e, hb, h0, h1⟩ := h.get2 hi
  exact ⟨ad, e, hb, h0 _ rfl, h1 1 _ (by decide) rfl⟩
set_option maxRecDepth 100000 in
set_option maxHeartbeats 1000000 in
theorem askruns_any {q : Qr} {A : Option Addr} {c K0 KP : Nat} (B : Option Addr) (n cap : Nat) (l : List Pz) (w : World) (hln : l.length = n) (hp : Ps w KP B cap l) (hKP : KP ≤ w.heap.size) (hr : Rr w K0 A c q.rs) (hK0 : K0 ≤ w.heap.size) (hS : SmR q.rs) (hql0 : q.rs.length ≤ 1048576) (hq : Qok q)
    (hl : l.length ≤ 1048576) (hok : ∀ x ∈ l, PtOk x.1) (hm : Mx w) (he : Errs w) (hpw : Pow w) (hg : Sg w) (hwo : Wo w) :
    Calls Tryz.prog 3 #[qv q A c, .slice B n cap] w fun e w' => e = .returned (.bool true) ∧ Below w.heap.size w w' := by
  have HMX : Hid (∀ wx, Below w.heap.size w wx → Mx wx) := Lib.hid fun wx h => Mx.below hm h
  have HAW : Hid (∀ wx, Below w.heap.size w wx → Calls Tryz.prog 8 #[] wx fun e w' => e = .returned (.bool true) ∧ Below wx.heap.size wx w') := Lib.hid fun wx h => awakeQ_any wx (Mx.below hm h) (he.below h) (hpw.below h) (Sg.below hg h) (hwo.below h)
  have hql : Hid (q.rs.length ≤ 1048576) := Lib.hid hql0
  have hSM := Lib.hid hS
  have hqs := Lib.hid hq.s2
  have hle := hp.sr.le
  have hmax := hp.sr.max
  unfold maxLen at hmax
  rw [hln] at hle
  have HLN := Lib.hid hln
  obtain ⟨LP, hLP⟩ : ∃ LP, LP = l.map Prod.fst := ⟨_, rfl⟩
  have HLP := Lib.hid hLP
  have HLPN : Hid (LP.length = n) := Lib.hid (by rw [hLP, List.length_map]; exact hln)
  have HOL : Hid (LP.length ≤ 1048576 ∧ ∀ p ∈ LP, PtOk p) := Lib.hid (by
    rw [hLP]
    exact ⟨by rw [List.length_map]; exact hl, fun p hp => by
      obtain ⟨x, hx, rfl⟩ := List.mem_map.1 hp
      exact hok x hx⟩)
  have hlI : n ≤ 1048576 := by omega
  have HPT : Hid (∀ wx, Cx q A c K0 KP B cap l w wx → Calls Tryz.prog 7 #[.slice B n cap] wx fun e w' => ∃ A3 c3 lz, e = .returned (.slice A3 n c3) ∧ lz.map Prod.fst = LP ∧ Pw w' wx.heap.size 52 54 (.slice A3 n c3) lz ∧ Below wx.heap.size wx w') := Lib.hid fun wx h => by
    refine (points_any KP B n cap l wx hln h.ps (Nat.le_trans h.hp h.bl.size) hl (fun x hx => (hok x hx).1)).mono ?_
    rintro e w' ⟨A3, c3, lz, e1, e2, e3, e4⟩
    rw [List.length_map, hln] at e1 e3
    exact ⟨A3, c3, lz, e1, by rw [hLP]; exact e2, e3, e4⟩
  have HRUN : Hid (∀ wx A2 A3 c2 c3 lz, Cx q A c K0 KP B cap l w wx → lz.map Prod.fst = LP → Pw wx w.heap.size 52 54 (.slice A3 n c3) lz → Ra wx w.heap.size (.slice A2 q.rs.length c2) q.rs → Calls Tryz.prog 5 #[qv q A2 c2, .slice A3 n c3] wx (RunP q wx LP)) := Lib.hid fun wx A2 A3 c2 c3 lz h h1 h2 h3 => by
    rw [← HLPN.out] at h2 ⊢
    exact runZ_any wx h1 h2 h3 hS (HMX.out wx h.bl) hq.s2 HOL.out.1 HOL.out.2
  have HDRUN : Hid (∀ wx, Cx q A c K0 KP B cap l w wx → orderB (l.map Prod.fst) = true → Calls Tryz.prog 9 #[qv q A c, .slice B n cap] wx (RRunP q wx KP LP)) := Lib.hid fun wx h ho => by
    rw [hLP]
    exact rrun_any KP K0 B n cap l wx hln h.ps (Nat.le_trans h.hp h.bl.size) h.rr (Nat.le_trans h.hk h.bl.size) hS ho hq.s2 hl (fun x hx => ⟨(hok x hx).1, (hok x hx).2.1⟩) (fun x hx => (hok x hx).2.2)
  have HTO := Lib.hid (fun wx (h : Cx q A c K0 KP B cap l w wx) => toQ_any wx h.rr (Nat.le_trans h.hk h.bl.size) hql.out)
  obtain ⟨er, her⟩ : ∃ er, er = (runQ q LP).1 := ⟨_, rfl⟩
  have HER := Lib.hid her
  obtain ⟨W0, hW0⟩ : ∃ W0, W0 = w.alloc (.cells (qc q A c) 24) := ⟨_, rfl⟩
  have B0 : Below w.heap.size w W0 := by rw [hW0]; exact (Below.refl _ _).alloc (Nat.le_refl _) _
  have HC0 : Hid (Cx q A c K0 KP B cap l w W0) := Lib.hid ⟨⟨by rw [hW0]; exact heap_alloc_new w _⟩, hr.below (B0.mono hK0), hp.below (B0.mono hKP), B0, hK0, hKP⟩
  have HPW : Hid (Ps w KP B cap l) := Lib.hid hp
  have HWW := Lib.hid hW0
  clear hm he hpw hg hwo hS hql0 hq hok hp hr B0 hW0 hln hl hLP her
  go_enter Tryz.func3, Tryz.ntmps3
  go_upto_region 1 with fail
  rw [← HWW.out]
  clear HWW
  cases c1 : decide ((200 : Int) < n) with
  | true =>
    have HC1 := HC0
    obtain ⟨W1, hW1⟩ : ∃ W1, W1 = W0 := ⟨_, rfl⟩
    rw [← hW1] at HC1
    rw [← hW1]
    clear hW1
    have x0 : W1.cell? ⟨w.heap.size, 0, none⟩ = some (.int .i64 q.op) := HC1.out.bx.cell rfl
    have x1 : W1.cell? ⟨w.heap.size, 1, none⟩ = some (.slice A q.rs.length c) := HC1.out.bx.cell rfl
    have x2 : W1.cell? ⟨w.heap.size, 2, none⟩ = some (.int .i64 q.fr) := HC1.out.bx.cell rfl
    have x3 : W1.cell? ⟨w.heap.size, 3, none⟩ = some (.int .i64 q.to_) := HC1.out.bx.cell rfl
    have x4 : W1.cell? ⟨w.heap.size, 4, none⟩ = some (.int .i64 q.st) := HC1.out.bx.cell rfl
    have x5 : W1.cell? ⟨w.heap.size, 5, none⟩ = some (.bool q.nt) := HC1.out.bx.cell rfl
    have xl := HC1.out.bx.lt
    go_wp2_with fail
    refine (HTO.out W1 HC1.out).mono ?_
    rintro e w2 ⟨A2, c2, rfl, ra2, b2⟩
    have HC2 := Lib.hid (HC1.out.below b2)
    have HRA2 := Lib.hid ra2
    have hz12 : W1.heap.size ≤ w2.heap.size := b2.size
    clear b2 ra2
    clear x0 x1 x2 x3 x4 x5 xl
    go_wp2_with fail
    refine (HPT.out w2 HC2.out).mono ?_
    rintro e w3 ⟨A3, c3, lz, rfl, hlz, pw3, b3⟩
    have HC3 := Lib.hid (HC2.out.below b3)
    have HRA3 := Lib.hid (So.below HRA2.out b3)
    have HRZ := Lib.hid (HRUN.out w3 A2 A3 c2 c3 lz HC3.out hlz (pw3.more (Nat.le_trans HC1.out.bl.size hz12)) (So.more HRA3.out HC1.out.bl.size))
    clear b3 hlz pw3
    go_wp2_with fail
    refine HRZ.out.mono ?_
    rintro e w4 ⟨A4, B4, c4, d4, rs4, ns4, rfl, hr4, hn4, rg4, pw4, b4⟩
    have HC4 := Lib.hid (HC3.out.below b4)
    have HAW4 := Lib.hid (HAW.out w4 HC4.out.bl)
    clear b4 hr4 hn4 rg4 pw4
    go_wp2_with fail
    refine HAW4.out.mono ?_
    rintro e w9 ⟨rfl, b9⟩
    have HB9 := Lib.hid (HC4.out.bl.trans (b9.mono HC4.out.bl.size))
    clear b9
    go_wp2_with fail
    go_ret
    exact ⟨rfl, HB9.out⟩
  | false =>
    obtain ⟨ob, hob⟩ : ∃ ob, ob = orderB (l.map Prod.fst) := ⟨_, rfl⟩
    have HOQ : Hid (Calls Tryz.prog 4 #[.slice B n cap] W0 fun e w' => e = .returned (.bool ob) ∧ Below W0.heap.size W0 w') := Lib.hid (by
      have h := orderQ_any (w := W0) HLN.out HC0.out.ps
      rw [hob]
      refine h.mono ?_
      rintro e w' ⟨e1, m, e2⟩
      exact ⟨e1, by rw [e2]; exact below_drewP (Below.refl _ _) _⟩)
    go_wp2_with fail
    refine HOQ.out.mono ?_
    rintro e W1 ⟨rfl, b1⟩
    have HC1 := Lib.hid (HC0.out.below b1)
    clear b1 HOQ
    cases hobc : ob with
    | false =>
      clear hobc hob
      have x0 : W1.cell? ⟨w.heap.size, 0, none⟩ = some (.int .i64 q.op) := HC1.out.bx.cell rfl
      have x1 : W1.cell? ⟨w.heap.size, 1, none⟩ = some (.slice A q.rs.length c) := HC1.out.bx.cell rfl
      have x2 : W1.cell? ⟨w.heap.size, 2, none⟩ = some (.int .i64 q.fr) := HC1.out.bx.cell rfl
      have x3 : W1.cell? ⟨w.heap.size, 3, none⟩ = some (.int .i64 q.to_) := HC1.out.bx.cell rfl
      have x4 : W1.cell? ⟨w.heap.size, 4, none⟩ = some (.int .i64 q.st) := HC1.out.bx.cell rfl
      have x5 : W1.cell? ⟨w.heap.size, 5, none⟩ = some (.bool q.nt) := HC1.out.bx.cell rfl
      have xl := HC1.out.bx.lt
      go_wp2_with fail
      refine (HTO.out W1 HC1.out).mono ?_
      rintro e w2 ⟨A2, c2, rfl, ra2, b2⟩
      have HC2 := Lib.hid (HC1.out.below b2)
      have HRA2 := Lib.hid ra2
      have hz12 : W1.heap.size ≤ w2.heap.size := b2.size
      clear b2 ra2
      clear x0 x1 x2 x3 x4 x5 xl
      go_wp2_with fail
      refine (HPT.out w2 HC2.out).mono ?_
      rintro e w3 ⟨A3, c3, lz, rfl, hlz, pw3, b3⟩
      have HC3 := Lib.hid (HC2.out.below b3)
      have HRA3 := Lib.hid (So.below HRA2.out b3)
      have HRZ := Lib.hid (HRUN.out w3 A2 A3 c2 c3 lz HC3.out hlz (pw3.more (Nat.le_trans HC1.out.bl.size hz12)) (So.more HRA3.out HC1.out.bl.size))
      clear b3 hlz pw3
      go_wp2_with fail
      refine HRZ.out.mono ?_
      rintro e w4 ⟨A4, B4, c4, d4, rs4, ns4, rfl, hr4, hn4, rg4, pw4, b4⟩
      have HC4 := Lib.hid (HC3.out.below b4)
      have HAW4 := Lib.hid (HAW.out w4 HC4.out.bl)
      clear b4 hr4 hn4 rg4 pw4
      go_wp2_with fail
      refine HAW4.out.mono ?_
      rintro e w9 ⟨rfl, b9⟩
      have HB9 := Lib.hid (HC4.out.bl.trans (b9.mono HC4.out.bl.size))
      clear b9
      go_wp2_with fail
      go_ret
      exact ⟨rfl, HB9.out⟩
    | true =>
      rw [hobc] at hob
      clear hobc
      have hl200 : n ≤ 200 := by have := of_decide_eq_false c1; omega
      have HORD : Hid (orderB (l.map Prod.fst) = true) := Lib.hid hob.symm
      clear hob
      go_wp2_with fail
      refine (HPT.out W1 HC1.out).mono ?_
      rintro e w2 ⟨A3, c3, lz, rfl, hlz, pw2, b2⟩
      have HC2 := Lib.hid (HC1.out.below b2)
      have HLZ0 := Lib.hid hlz
      have HPI2 := Lib.hid pw2
      have hz12 : W1.heap.size ≤ w2.heap.size := b2.size
      clear b2 hlz pw2
      have x0 : w2.cell? ⟨w.heap.size, 0, none⟩ = some (.int .i64 q.op) := HC2.out.bx.cell rfl
      have x1 : w2.cell? ⟨w.heap.size, 1, none⟩ = some (.slice A q.rs.length c) := HC2.out.bx.cell rfl
      have x2 : w2.cell? ⟨w.heap.size, 2, none⟩ = some (.int .i64 q.fr) := HC2.out.bx.cell rfl
      have x3 : w2.cell? ⟨w.heap.size, 3, none⟩ = some (.int .i64 q.to_) := HC2.out.bx.cell rfl
      have x4 : w2.cell? ⟨w.heap.size, 4, none⟩ = some (.int .i64 q.st) := HC2.out.bx.cell rfl
      have x5 : w2.cell? ⟨w.heap.size, 5, none⟩ = some (.bool q.nt) := HC2.out.bx.cell rfl
      have xl := HC2.out.bx.lt
      go_wp2_with fail
      refine (HTO.out w2 HC2.out).mono ?_
      rintro e w3 ⟨A2, c2, rfl, ra3, b3⟩
      have HC3 := Lib.hid (HC2.out.below b3)
      have HPI3 := Lib.hid (HPI2.out.below b3)
      have HRUN3 := Lib.hid (HRUN.out w3 A2 A3 c2 c3 lz HC3.out HLZ0.out (HPI3.out.more HC1.out.bl.size) (So.more ra3 HC2.out.bl.size))
      have hz23 : w2.heap.size ≤ w3.heap.size := b3.size
      clear b3 ra3
      clear x0 x1 x2 x3 x4 x5 xl
      go_wp2_with fail
      refine HRUN3.out.mono ?_
      rintro e w4 ⟨A4, B4, c4, d4, rs4, ns4, rfl, hr4, hn4, rg4, pw4, b4⟩
      have HC4 := Lib.hid (HC3.out.below b4)
      rw [← HER.out]
      obtain ⟨W5, hW5⟩ : ∃ W5, W5 = w4.alloc (.cells (ceA A4 B4 rs4.length ns4.length c4 d4) 30) := ⟨_, rfl⟩
      have hba : Below w4.heap.size w4 W5 := by rw [hW5]; exact (Below.refl _ _).alloc (Nat.le_refl _) _
      obtain ⟨b7, hb7⟩ : ∃ b7, b7 = w4.heap.size := ⟨_, rfl⟩
      obtain ⟨B3, hB3e⟩ : ∃ B3, B3 = w3.heap.size := ⟨_, rfl⟩
      have HR55 : Hid (Rwo W5 b7 (ceA A4 B4 rs4.length ns4.length c4 d4) 30) := Lib.hid ⟨by rw [hW5, hb7]; exact heap_alloc_new w4 _⟩
      have HRG5 : Hid (Rg W5 B3 (.slice A4 rs4.length c4) rs4) := Lib.hid (by rw [hB3e]; exact rg4.below hba)
      have HPN5 : Hid (Pw W5 B3 52 54 (.slice B4 ns4.length d4) ns4) := Lib.hid (by rw [hB3e]; exact pw4.below hba)
      have HC5 := Lib.hid (HC4.out.below hba)
      have HB25 : Hid (Below w3.heap.size w3 W5) := Lib.hid (b4.trans (hba.mono b4.size))
      have hz35 : w3.heap.size ≤ W5.heap.size := HB25.out.size
      have HW5 := Lib.hid hW5
      have HB7 := Lib.hid hb7
      have HHR := Lib.hid hr4
      have HHN := Lib.hid hn4
      clear b4 hr4 hn4 rg4 pw4 hW5 hba hb7
      go_upto_region 6 with fail
      rw [← HB7.out, ← HW5.out]
      clear HW5 HB7
      have HDR := Lib.hid (HDRUN.out W5 HC5.out HORD.out)
      have x0 : W5.cell? ⟨w.heap.size, 0, none⟩ = some (.int .i64 q.op) := HC5.out.bx.cell rfl
      have x1 : W5.cell? ⟨w.heap.size, 1, none⟩ = some (.slice A q.rs.length c) := HC5.out.bx.cell rfl
      have x2 : W5.cell? ⟨w.heap.size, 2, none⟩ = some (.int .i64 q.fr) := HC5.out.bx.cell rfl
      have x3 : W5.cell? ⟨w.heap.size, 3, none⟩ = some (.int .i64 q.to_) := HC5.out.bx.cell rfl
      have x4 : W5.cell? ⟨w.heap.size, 4, none⟩ = some (.int .i64 q.st) := HC5.out.bx.cell rfl
      have x5 : W5.cell? ⟨w.heap.size, 5, none⟩ = some (.bool q.nt) := HC5.out.bx.cell rfl
      have xl := HC5.out.bx.lt
      go_wp2_with fail
      refine HDR.out.mono ?_
      rintro e w6 ⟨A6, B6, c6, d6, rs6, ns6, rfl, hr6, hn6, rd6, pd6, b6⟩
      have HC6 := Lib.hid (HC5.out.below b6)
      rw [← HER.out]
      obtain ⟨W7, hW7⟩ : ∃ W7, W7 = w6.alloc (.cells (ceA A6 B6 rs6.length ns6.length c6 d6) 42) := ⟨_, rfl⟩
      have hba : Below w6.heap.size w6 W7 := by rw [hW7]; exact (Below.refl _ _).alloc (Nat.le_refl _) _
      obtain ⟨b8, hb8⟩ : ∃ b8, b8 = w6.heap.size := ⟨_, rfl⟩
      have HR7 : Hid (Rwo W7 b8 (ceA A6 B6 rs6.length ns6.length c6 d6) 42) := Lib.hid ⟨by rw [hW7, hb8]; exact heap_alloc_new w6 _⟩
      have hb57 : Below W5.heap.size W5 W7 := b6.trans (hba.mono b6.size)
      have HR5 := Lib.hid (HR55.out.below hb57)
      have HRG7 := Lib.hid (HRG5.out.below hb57)
      have HPN7 := Lib.hid (HPN5.out.below hb57)
      have HC7 := Lib.hid (HC6.out.below hba)
      have hz57 : W5.heap.size ≤ W7.heap.size := hb57.size
      have hB37 : B3 ≤ W7.heap.size := by omega
      have hB3w : w.heap.size ≤ B3 := by have := HC3.out.bl.size; omega
      have hB2 : w3.heap.size ≤ B3 := by omega
      have HB28 : Hid (Below w3.heap.size w3 W7) := Lib.hid (HB25.out.trans (hb57.mono hz35))
      have hB28 : w3.heap.size ≤ W7.heap.size := by omega
      have hk6 : KP ≤ w6.heap.size := Nat.le_trans HC6.out.hp HC6.out.bl.size
      obtain ⟨RR, hRR⟩ : ∃ RR, RR = (runQ q LP).2.1 := ⟨_, rfl⟩
      obtain ⟨NN, hNN⟩ : ∃ NN, NN = (runQ q LP).2.2 := ⟨_, rfl⟩
      have hbd := runQ_bd q HOL.out.1 HOL.out.2
      have k1 : rs4.map Prod.fst = RR := by rw [hRR]; exact HHR.out
      have k2 : ns4.map Prod.fst = NN := by rw [hNN]; exact HHN.out
      have k3 : rs6.map Prod.fst = RR := by rw [hRR]; exact hr6
      have k4 : ns6.map Prod.fst = NN := by rw [hNN]; exact hn6
      have HTA : Hid (∀ wx, Below W7.heap.size W7 wx → Calls Tryz.prog 11 #[.agg #[.slice A4 rs4.length c4, .slice B4 ns4.length d4]] wx (AnsP wx RR NN)) := Lib.hid fun wx h => by
        have l1 : rs4.length ≤ 1048576 := by have := hbd.2.2.1; rw [← HHR.out, List.length_map] at this; exact this
        have l2 : ns4.length ≤ 1048576 := by have := hbd.2.2.2; rw [← HHN.out, List.length_map] at this; exact this
        have := answ_any W7.heap.size A4 B4 c4 d4 rs4 ns4 wx ((HRG7.out.rs.1).below h) ((HPN7.out.ps.1).below h) h.size (by omega) l2 (fun r hr => hbd.1 r.1 (by rw [← HHR.out]; exact List.mem_map.2 ⟨r, hr, rfl⟩)) (fun x hx => (hbd.2.1 x.1 (by rw [← HHN.out]; exact List.mem_map.2 ⟨x, hx, rfl⟩)).1)
        rwa [k1, k2] at this
      have HDD : Hid (∀ wx, Below W7.heap.size W7 wx → Rs9 wx wx.heap.size A6 c6 rs6 ∧ Ps wx wx.heap.size B6 d6 ns6 ∧ rs6.map Prod.fst = RR ∧ ns6.map Prod.fst = NN ∧ RR.length = rs6.length ∧ NN.length = ns6.length) := Lib.hid fun wx h => by
        have h1 := (rd6.below hba hk6).rs (by have := hba.size; omega)
        have h2 := (pd6.below hba hk6).ps (by have := hba.size; omega)
        exact ⟨(h1.1.below h).more h.size, (h2.1.below h).more h.size, k3, k4, by rw [← k3, List.length_map], by rw [← k4, List.length_map]⟩
      have HBR : Hid (rs4.length ≤ 1048576 ∧ ∀ x ∈ rs4, x.1.1.length ≤ 1048576) := Lib.hid ⟨by have := hbd.2.2.1; rw [← HHR.out, List.length_map] at this; exact this, fun r hr => (hbd.1 r.1 (by rw [← HHR.out]; exact List.mem_map.2 ⟨r, hr, rfl⟩)).1⟩
      have HBN : Hid (ns4.length ≤ 1048576 ∧ ∀ x ∈ ns4, x.1.set.length ≤ 1048576) := Lib.hid ⟨by have := hbd.2.2.2; rw [← HHN.out, List.length_map] at this; exact this, fun x hx => (hbd.2.1 x.1 (by rw [← HHN.out]; exact List.mem_map.2 ⟨x, hx, rfl⟩)).1⟩
      have HLZ : Hid (lz.length ≤ 1048576 ∧ ∀ x ∈ lz, x.1.set.length ≤ 1048576) := Lib.hid ⟨by have h9 := congrArg List.length HLZ0.out; rw [List.length_map] at h9; have := HOL.out.1; omega, fun x hx => (HOL.out.2 x.1 (by rw [← HLZ0.out]; exact List.mem_map.2 ⟨x, hx, rfl⟩)).1⟩
      have HLZN : Hid ((lz.map Prod.fst).length = n) := Lib.hid (by rw [HLZ0.out]; exact HLPN.out)
      have HLZF : Hid (l.map Prod.fst = lz.map Prod.fst) := Lib.hid (by rw [HLZ0.out]; exact HLP.out.symm)
      have HW7 := Lib.hid hW7
      have HB8 := Lib.hid hb8
      clear b6 hr6 hn6 rd6 pd6 hW7 hba hb8 hb57 k1 k2 k3 k4 hbd hRR hNN hB3e
      clear x0 x1 x2 x3 x4 x5 xl
      go_upto_region 7 with fail
      rw [← HB8.out, ← HW7.out]
      clear HW7 HB8
      apply region_V (HY RR NN W7.heap.size) (fun wx => Below W7.heap.size W7 wx) [.v (.int .i64 er), .v (.int .i64 er), .v (.bool true), .v (.bool true), .v (.agg #[.slice A4 rs4.length c4, .slice B4 ns4.length d4]), .td, .v (.agg #[.slice A6 rs6.length c6, .slice B6 ns6.length d6]), .v (.bool true), .v (.bool true), .v (.bool true)] (.v undef)
      case mono => exact fun p v w0 w1 h hb => HY.mono h hb
      case hm => kernel_rfl
      case hf => kernel_rfl
      case hQ => exact (by intro c x y w e h; exact And.intro (e.symm.trans (And.left h)) (And.right h))
      case hF => intro vs; simp only [putAll, Act.put, List.setIfInBounds_toArray, List.set_cons_zero, List.set_cons_succ, Nat.reduceAdd]; rfl
      case h0 => exact ⟨rfl, rfl, rfl, Nat.le_refl _, fun _ _ => rfl⟩
      case hstep =>
        repeat' (first | exact AllOps.nil | apply AllOps.cons)
        · intro vs wx hG hd K hK
          replace hK : ∀ (uu : Value) (w' : World), Below wx.heap.size wx w' → ((fun wx => Below W7.heap.size W7 wx)) w' → (HY RR NN W7.heap.size) (.v (.int .i64 er)) uu w' → K _ w' := hK
          simp only [Act.put, List.setIfInBounds_toArray, List.set_cons_zero, List.set_cons_succ] at hK ⊢
          have HK := Lib.hid hK
          have HG := Lib.hid hG
          clear hK hd
          clear hG
          go_simp
          exact HK.out _ _ (Below.refl _ _) HG.out rfl
        · intro vs wx hG hd K hK
          replace hK : ∀ (uu : Value) (w' : World), Below wx.heap.size wx w' → ((fun wx => Below W7.heap.size W7 wx)) w' → (HY RR NN W7.heap.size) (.v (.int .i64 er)) uu w' → K _ w' := hK
          simp only [Act.put, List.setIfInBounds_toArray, List.set_cons_zero, List.set_cons_succ] at hK ⊢
          have HK := Lib.hid hK
          have HG := Lib.hid hG
          clear hK hd
          clear hG
          go_simp
          exact HK.out _ _ (Below.refl _ _) HG.out rfl
        · intro vs wx hG hd K hK
          have e0 : vs 0 = .int .i64 er := hd.get (j := 0) (by simp [depsOf, Region.binds])
          have e1 : vs 1 = .int .i64 er := hd.get (j := 1) (by simp [depsOf, Region.binds])
          replace hK : ∀ (uu : Value) (w' : World), Below wx.heap.size wx w' → ((fun wx => Below W7.heap.size W7 wx)) w' → (HY RR NN W7.heap.size) (.v (.bool true)) uu w' → K _ w' := hK
          simp only [Act.put, List.setIfInBounds_toArray, List.set_cons_zero, List.set_cons_succ, e0, e1] at hK ⊢
          have HK := Lib.hid hK
          have HG := Lib.hid hG
          clear hK hd e0 e1
          clear hG
          go_simp
          exact HK.out _ _ (Below.refl _ _) HG.out rfl
        · intro vs wx hG hd K hK
          have e2 : vs 2 = .bool true := hd.get (j := 2) (by simp [depsOf, Region.binds])
          replace hK : ∀ (uu : Value) (w' : World), Below wx.heap.size wx w' → ((fun wx => Below W7.heap.size W7 wx)) w' → (HY RR NN W7.heap.size) (.v (.bool true)) uu w' → K _ w' := hK
          simp only [Act.put, List.setIfInBounds_toArray, List.set_cons_zero, List.set_cons_succ, e2] at hK ⊢
          have HK := Lib.hid hK
          have HG := Lib.hid hG
          clear hK hd e2
          clear hG
          go_simp
          exact HK.out _ _ (Below.refl _ _) HG.out rfl
        · intro vs wx hG hd K hK
          have e3 : vs 3 = .bool true := hd.get (j := 3) (by simp [depsOf, Region.binds])
          replace hK : ∀ (uu : Value) (w' : World), Below wx.heap.size wx w' → ((fun wx => Below W7.heap.size W7 wx)) w' → (HY RR NN W7.heap.size) (.v (.agg #[.slice A4 rs4.length c4, .slice B4 ns4.length d4])) uu w' → K _ w' := hK
          simp only [Act.put, List.setIfInBounds_toArray, List.set_cons_zero, List.set_cons_succ, e3] at hK ⊢
          have HK := Lib.hid hK
          have HG := Lib.hid hG
          clear hK hd e3
          have hbw := HG.out
          have y0 : wx.cell? ⟨b7, 0, none⟩ = some (.slice A4 rs4.length c4) := (HR5.out.below hbw).cell rfl
          have y1 : wx.cell? ⟨b7, 1, none⟩ = some (.slice B4 ns4.length d4) := (HR5.out.below hbw).cell rfl
          have y2 : wx.cell? ⟨b8, 0, none⟩ = some (.slice A6 rs6.length c6) := (HR7.out.below hbw).cell rfl
          have y3 : wx.cell? ⟨b8, 1, none⟩ = some (.slice B6 ns6.length d6) := (HR7.out.below hbw).cell rfl
          have yl7 := (HR5.out.below hbw).lt
          have yl8 := (HR7.out.below hbw).lt
          clear hG hbw
          go_simp
          exact HK.out _ _ (Below.refl _ _) HG.out rfl
        · intro vs wx hG hd K hK
          have e3 : vs 3 = .bool true := hd.get (j := 3) (by simp [depsOf, Region.binds])
          have e4 : vs 4 = .agg #[.slice A4 rs4.length c4, .slice B4 ns4.length d4] := hd.get (j := 4) (by simp [depsOf, Region.binds])
          replace hK : ∀ (uu : Value) (w' : World), Below wx.heap.size wx w' → ((fun wx => Below W7.heap.size W7 wx)) w' → (HY RR NN W7.heap.size) (.td) uu w' → K _ w' := hK
          simp only [Act.put, List.setIfInBounds_toArray, List.set_cons_zero, List.set_cons_succ, e3, e4] at hK ⊢
          have HK := Lib.hid hK
          have HG := Lib.hid hG
          clear hK hd e3 e4
          have hbw := HG.out
          clear hG
          go_simp
          go_at_call 11
          refine (HTA.out wx hbw).mono ?_
          rintro en w9 ⟨A9, B9, c9, d9, rs9, ns9, rfl, hr9, hn9, rh9, pw9, hb⟩
          exact HK.out _ _ hb (hbw.trans (hb.mono hbw.size)) ⟨A9, B9, c9, d9, rs9, ns9, rfl, hr9, hn9, rh9.more hbw.size, pw9.more hbw.size⟩
        · intro vs wx hG hd K hK
          have e3 : vs 3 = .bool true := hd.get (j := 3) (by simp [depsOf, Region.binds])
          replace hK : ∀ (uu : Value) (w' : World), Below wx.heap.size wx w' → ((fun wx => Below W7.heap.size W7 wx)) w' → (HY RR NN W7.heap.size) (.v (.agg #[.slice A6 rs6.length c6, .slice B6 ns6.length d6])) uu w' → K _ w' := hK
          simp only [Act.put, List.setIfInBounds_toArray, List.set_cons_zero, List.set_cons_succ, e3] at hK ⊢
          have HK := Lib.hid hK
          have HG := Lib.hid hG
          clear hK hd e3
          have hbw := HG.out
          have y0 : wx.cell? ⟨b7, 0, none⟩ = some (.slice A4 rs4.length c4) := (HR5.out.below hbw).cell rfl
          have y1 : wx.cell? ⟨b7, 1, none⟩ = some (.slice B4 ns4.length d4) := (HR5.out.below hbw).cell rfl
          have y2 : wx.cell? ⟨b8, 0, none⟩ = some (.slice A6 rs6.length c6) := (HR7.out.below hbw).cell rfl
          have y3 : wx.cell? ⟨b8, 1, none⟩ = some (.slice B6 ns6.length d6) := (HR7.out.below hbw).cell rfl
          have yl7 := (HR5.out.below hbw).lt
          have yl8 := (HR7.out.below hbw).lt
          clear hG hbw
          go_simp
          exact HK.out _ _ (Below.refl _ _) HG.out rfl
        · intro vs wx hG hd K hK
          have e3 : vs 3 = .bool true := hd.get (j := 3) (by simp [depsOf, Region.binds])
          obtain ⟨A5, B5, c5, d5, rr5, nn5, e5, f5, g5, h5, p5⟩ : ∃ (A1 A2 : Option Addr) (c1 c2 : Nat) (rs : List Rz) (ns : List Pz), vs 5 = .agg #[.slice A1 RR.length c1, .slice A2 NN.length c2] ∧ rs.map Prod.fst = RR ∧ ns.map Prod.fst = NN ∧ Rh wx W7.heap.size (.slice A1 RR.length c1) rs ∧ Pw wx W7.heap.size 65 92 (.slice A2 NN.length c2) ns := hd.get (j := 5) (by simp [depsOf, Region.binds])
          have e6 : vs 6 = .agg #[.slice A6 rs6.length c6, .slice B6 ns6.length d6] := hd.get (j := 6) (by simp [depsOf, Region.binds])
          replace hK : ∀ (uu : Value) (w' : World), Below wx.heap.size wx w' → ((fun wx => Below W7.heap.size W7 wx)) w' → (HY RR NN W7.heap.size) (.v (.bool true)) uu w' → K _ w' := hK
          simp only [Act.put, List.setIfInBounds_toArray, List.set_cons_zero, List.set_cons_succ, e3, e5, e6] at hK ⊢
          have HK := Lib.hid hK
          have HG := Lib.hid hG
          clear hK hd e3 e5 e6
          have hbw := HG.out
          have hd := HDD.out wx hbw
          clear hG
          have hs9 : Calls Tryz.prog 10 #[.agg #[.slice A5 RR.length c5, .slice B5 NN.length d5], .agg #[.slice A6 rs6.length c6, .slice B6 ns6.length d6]] wx (Ok0 wx) := by
            rw [← hd.2.2.2.2.1, ← hd.2.2.2.2.2]
            exact sameA_any (w := wx) (Kp := wx.heap.size) (l := rr5) (m := rs6) (nl := nn5) (nm := ns6) (by rw [← f5, List.length_map]) (by rw [← g5, List.length_map]) (hd.2.2.1.trans f5.symm) (hd.2.2.2.1.trans g5.symm) h5.rs.1 hd.1 p5.ps.1 hd.2.1 (Nat.le_refl _)
          have HS9 := Lib.hid hs9
          clear hs9 hd
          go_simp
          go_at_call 10
          refine HS9.out.mono ?_
          rintro en w9 ⟨rfl, hb⟩
          exact HK.out _ _ hb (hbw.trans (hb.mono hbw.size)) rfl
        · intro vs wx hG hd K hK
          have e3 : vs 3 = .bool true := hd.get (j := 3) (by simp [depsOf, Region.binds])
          have e7 : vs 7 = .bool true := hd.get (j := 7) (by simp [depsOf, Region.binds])
          replace hK : ∀ (uu : Value) (w' : World), Below wx.heap.size wx w' → ((fun wx => Below W7.heap.size W7 wx)) w' → (HY RR NN W7.heap.size) (.v (.bool true)) uu w' → K _ w' := hK
          simp only [Act.put, List.setIfInBounds_toArray, List.set_cons_zero, List.set_cons_succ, e3, e7] at hK ⊢
          have HK := Lib.hid hK
          have HG := Lib.hid hG
          clear hK hd e3 e7
          clear hG
          go_simp
          exact HK.out _ _ (Below.refl _ _) HG.out rfl
        · intro vs wx hG hd K hK
          have e8 : vs 8 = .bool true := hd.get (j := 8) (by simp [depsOf, Region.binds])
          replace hK : ∀ (uu : Value) (w' : World), Below wx.heap.size wx w' → ((fun wx => Below W7.heap.size W7 wx)) w' → (HY RR NN W7.heap.size) (.v (.bool true)) uu w' → K _ w' := hK
          simp only [Act.put, List.setIfInBounds_toArray, List.set_cons_zero, List.set_cons_succ, e8] at hK ⊢
          have HK := Lib.hid hK
          have HG := Lib.hid hG
          clear hK hd e8
          clear hG
          go_simp
          exact HK.out _ _ (Below.refl _ _) HG.out rfl
      case hend =>
        intro vs W8 hG hv
        have e9 : vs 9 = .bool true := hv 9 (by decide)
        have HC8 := Lib.hid (HC7.out.below hG)
        have HRB : Hid (Rwo W8 b7 (ceA A4 B4 rs4.length ns4.length c4 d4) 30) := Lib.hid (HR5.out.below hG)
        have HRG := Lib.hid (HRG7.out.below hG)
        have HPN := Lib.hid (HPN7.out.below hG)
        have HZ8 : Hid (Zs B3 W8 W8 rs4 ns4) := Lib.hid (Zs.start HRG.out.st HPN.out.st)
        have hB3 : B3 ≤ W8.heap.size := Nat.le_trans hB37 hG.size
        have HPIN : Hid (∀ wx, Below B3 W8 wx → Pw wx W1.heap.size 52 54 (.slice A3 n c3) lz) := Lib.hid fun wx h => HPI3.out.belowB (W := W8) hB2 (HB28.out.trans (hG.mono hB28)) h
        have y0 : W8.cell? ⟨b7, 1, none⟩ = some (.slice B4 ns4.length d4) := HRB.out.cell rfl
        have yl := HRB.out.lt
        clear hv hG
        simp only [e9]
        clear e9
        go_wp2_with fail
        have hlb := HBN.out.1
        go_loopw [56] (fun v wx => ∃ i : Nat, v = .int .i64 i ∧ i ≤ ns4.length ∧ Zs B3 W8 wx rs4 ns4) (fun v _ => ns4.length - (intOf v).toNat)
        case atStart => exact ⟨0, rfl, Nat.zero_le _, HZ8.out⟩
        case round =>
          obtain ⟨i, rfl, hi, hzs⟩ := hrel
          rename World => wr
          have HZS := Lib.hid hzs
          clear hzs
          by_cases hlt : i < ns4.length
          · have hiI : (i : Int) < ns4.length := by omega
            obtain ⟨ad, hA, _, g0, _⟩ := ps_cells (So.sr encPz_len (HZS.out.so HPN.out.so (by decide))).1 hlt
            have hbx := HZS.out.rwo HRB.out (by decide)
            have y0 : wr.cell? ⟨b7, 1, none⟩ = some (.slice B4 ns4.length d4) := hbx.cell rfl
            have yl := hbx.lt
            subst hA
            have HMM := Lib.hid (List.getElem_mem hlt)
            obtain ⟨x, hx⟩ : ∃ x, x = ns4[i] := ⟨_, rfl⟩
            rw [← hx] at g0 HMM
            obtain ⟨SA, hSA⟩ : ∃ SA, SA = x.2.1 := ⟨_, rfl⟩
            obtain ⟨sn, hsn⟩ : ∃ sn, sn = x.1.set.length := ⟨_, rfl⟩
            obtain ⟨sc, hsc⟩ : ∃ sc, sc = x.2.2 := ⟨_, rfl⟩
            rw [← hSA, ← hsn, ← hsc] at g0
            have hsb : sn ≤ 1048576 := by rw [hsn]; exact HBN.out.2 x HMM.out
            have HSA := Lib.hid hSA
            have HSN := Lib.hid hsn
            have HX := Lib.hid hx
            have HSC := Lib.hid hsc
            clear hbx hSA hsn hsc hx
            go_wp2_with fail
            go_loopw [66] (fun v wx => ∃ k : Nat, v = .int .i64 k ∧ k ≤ sn ∧ Zs B3 W8 wx rs4 ns4) (fun v _ => sn - (intOf v).toNat)
            case atStart => exact ⟨0, rfl, Nat.zero_le _, HZS.out⟩
            case round =>
              obtain ⟨k, rfl, hk, hzt⟩ := hrel
              rename World => wt
              have HZT := Lib.hid hzt
              clear hzt
              by_cases hkl : k < sn
              · have hkI : (k : Int) < sn := by omega
                obtain ⟨ad2, hA2, _, t0, _⟩ := ps_cells (So.sr encPz_len (HZT.out.so HPN.out.so (by decide))).1 hlt
                cases hA2
                rw [← HX.out] at t0
                rw [← HSA.out, ← HSN.out, ← HSC.out] at t0
                have hbx := HZT.out.rwo HRB.out (by decide)
                have y0 : wt.cell? ⟨b7, 1, none⟩ = some (.slice (some ad) ns4.length d4) := hbx.cell rfl
                have yl := hbx.lt
                have hzp := HZT.out.n x HMM.out
                rw [← HSA.out, ← HSN.out] at hzp
                rcases hzp with h0 | ⟨g, cs, hg, hgB, hgr, hgs⟩
                · omega
                · subst hg
                  obtain ⟨u0, hu0⟩ : ∃ u, cs[k * 2]? = some u := ⟨cs[k * 2]'(by omega), Array.getElem?_eq_getElem (by omega)⟩
                  obtain ⟨u1, hu1⟩ : ∃ u, cs[k * 2 + 1]? = some u := ⟨cs[k * 2 + 1]'(by omega), Array.getElem?_eq_getElem (by omega)⟩
                  have p0 : wt.cell? ⟨g, k * 2, none⟩ = some u0 := hgr.cell hu0
                  have p1 : wt.cell? ⟨g, k * 2 + 1, none⟩ = some u1 := hgr.cell hu1
                  have pf := hgr.fr
                  have pl := hgr.lt
                  have HZN := Lib.hid (HZT.out.store hgr hgB (k * 2) (k * 2 + 1) (.string ⟨#[]⟩) (.string ⟨#[]⟩))
                  clear hbx hgr hu0 hu1 hgs hgB
                  go_wp2_with fail
                  go_roundw
                  case rel => exact ⟨k + 1, by go_num, hkl, HZN.out⟩
                  case measure => simp [intOf]; omega
              · have hkI : ¬ (k : Int) < sn := by omega
                go_wp2_with fail
                go_roundw
                case rel => exact ⟨i + 1, by go_num, hlt, HZT.out⟩
                case measure => simp [intOf]; omega
          · have hil : i = ns4.length := by omega
            subst hil
            have hbx := HZS.out.rwo HRB.out (by decide)
            have y0 : wr.cell? ⟨b7, 0, none⟩ = some (.slice A4 rs4.length c4) := hbx.cell rfl
            have yl := hbx.lt
            clear hbx
            go_wp2_with fail
            have hlb := HBR.out.1
            go_loopw [83] (fun v wx => ∃ i : Nat, v = .int .i64 i ∧ i ≤ rs4.length ∧ Zs B3 W8 wx rs4 ns4) (fun v _ => rs4.length - (intOf v).toNat)
            case atStart => exact ⟨0, rfl, Nat.zero_le _, HZS.out⟩
            case round =>
              obtain ⟨i, rfl, hi, hzs⟩ := hrel
              rename World => wr
              have HZS := Lib.hid hzs
              clear hzs
              by_cases hlt : i < rs4.length
              · have hiI : (i : Int) < rs4.length := by omega
                obtain ⟨ad, hA, _, g0, _⟩ := rz_cells (So.sr encRz_len (HZS.out.so HRG.out.so (by decide))).1 hlt
                have hbx := HZS.out.rwo HRB.out (by decide)
                have y0 : wr.cell? ⟨b7, 0, none⟩ = some (.slice A4 rs4.length c4) := hbx.cell rfl
                have yl := hbx.lt
                subst hA
                have HMM := Lib.hid (List.getElem_mem hlt)
                obtain ⟨x, hx⟩ : ∃ x, x = rs4[i] := ⟨_, rfl⟩
                rw [← hx] at g0 HMM
                obtain ⟨SA, hSA⟩ : ∃ SA, SA = x.2.1.1 := ⟨_, rfl⟩
                obtain ⟨sn, hsn⟩ : ∃ sn, sn = x.1.1.length := ⟨_, rfl⟩
                obtain ⟨sc, hsc⟩ : ∃ sc, sc = x.2.1.2 := ⟨_, rfl⟩
                rw [← hSA, ← hsn, ← hsc] at g0
                have hsb : sn ≤ 1048576 := by rw [hsn]; exact HBR.out.2 x HMM.out
                have HSA := Lib.hid hSA
                have HSN := Lib.hid hsn
                have HX := Lib.hid hx
                have HSC := Lib.hid hsc
                clear hbx hSA hsn hsc hx
                go_wp2_with fail
                go_loopw [93] (fun v wx => ∃ k : Nat, v = .int .i64 k ∧ k ≤ sn ∧ Zs B3 W8 wx rs4 ns4) (fun v _ => sn - (intOf v).toNat)
                case atStart => exact ⟨0, rfl, Nat.zero_le _, HZS.out⟩
                case round =>
                  obtain ⟨k, rfl, hk, hzt⟩ := hrel
                  rename World => wt
                  have HZT := Lib.hid hzt
                  clear hzt
                  by_cases hkl : k < sn
                  · have hkI : (k : Int) < sn := by omega
                    obtain ⟨ad2, hA2, _, t0, _⟩ := rz_cells (So.sr encRz_len (HZT.out.so HRG.out.so (by decide))).1 hlt
                    cases hA2
                    rw [← HX.out] at t0
                    rw [← HSA.out, ← HSN.out, ← HSC.out] at t0
                    have hbx := HZT.out.rwo HRB.out (by decide)
                    have y0 : wt.cell? ⟨b7, 0, none⟩ = some (.slice (some ad) rs4.length c4) := hbx.cell rfl
                    have yl := hbx.lt
                    have hzp := HZT.out.r x HMM.out
                    rw [← HSA.out, ← HSN.out] at hzp
                    rcases hzp with h0 | ⟨g, cs, hg, hgB, hgr, hgs⟩
                    · omega
                    · subst hg
                      obtain ⟨u0, hu0⟩ : ∃ u, cs[k * 2]? = some u := ⟨cs[k * 2]'(by omega), Array.getElem?_eq_getElem (by omega)⟩
                      obtain ⟨u1, hu1⟩ : ∃ u, cs[k * 2 + 1]? = some u := ⟨cs[k * 2 + 1]'(by omega), Array.getElem?_eq_getElem (by omega)⟩
                      have p0 : wt.cell? ⟨g, k * 2, none⟩ = some u0 := hgr.cell hu0
                      have p1 : wt.cell? ⟨g, k * 2 + 1, none⟩ = some u1 := hgr.cell hu1
                      have pf := hgr.fr
                      have pl := hgr.lt
                      have HZN := Lib.hid (HZT.out.store hgr hgB (k * 2) (k * 2 + 1) (.string ⟨#[]⟩) (.string ⟨#[]⟩))
                      clear hbx hgr hu0 hu1 hgs hgB
                      go_wp2_with fail
                      go_roundw
                      case rel => exact ⟨k + 1, by go_num, hkl, HZN.out⟩
                      case measure => simp [intOf]; omega
                  · have hkI : ¬ (k : Int) < sn := by omega
                    go_wp2_with fail
                    go_roundw
                    case rel => exact ⟨i + 1, by go_num, hlt, HZT.out⟩
                    case measure => simp [intOf]; omega
              · have hil : i = rs4.length := by omega
                subst hil
                have HZ9 := Lib.hid HZS.out
                have HB9 : Hid (Below w.heap.size w wr) := Lib.hid (HC8.out.bl.trans ((HZ9.out.below hB3).mono hB3w))
                have HAW9 := Lib.hid (HAW.out wr HB9.out)
                clear HZS
                go_wp2_with fail
                refine HAW9.out.mono ?_
                rintro e w9 ⟨rfl, b9⟩
                have HBA : Hid (Below w.heap.size w w9) := Lib.hid (HB9.out.trans (b9.mono HB9.out.size))
                have HPI := Lib.hid ((HPIN.out wr (HZ9.out.below hB3)).below b9)
                have HPK := Lib.hid (HPI.out.ps)
                have HDP := Lib.hid (dpoints_any w9.heap.size A3 n c3 lz w9 (HPK.out.2) HPK.out.1 (Nat.le_refl _) HLZ.out.1 HLZ.out.2)
                clear b9
                go_wp2_with fail
                refine HDP.out.mono ?_
                rintro e w10 ⟨A9, c9, l9, rfl, hl9, pw9, b10⟩
                have HBB : Hid (Below w.heap.size w w10) := Lib.hid (HBA.out.trans (b10.mono HBA.out.size))
                rw [HLZN.out] at pw9
                rw [HLZN.out]
                have HSP := Lib.hid (samePts_any (w := w10) (K := w10.heap.size) (A := A9) (B := B) (n := n) (cap := c9) (cbp := cap) (l := l9) (m := l) (pw9.ps.2) (by rw [hl9, HLZF.out]) pw9.ps.1 ((HPW.out.below (HBB.out.mono hKP)).more (Nat.le_trans hKP HBB.out.size)) (Nat.le_refl _))
                clear b10 hl9 pw9
                go_wp2_with fail
                refine HSP.out.mono ?_
                rintro e w11 ⟨rfl, b11⟩
                have HBC := Lib.hid (HBB.out.trans (b11.mono HBB.out.size))
                clear b11
                go_wp2_with fail
                go_ret
                exact ⟨rfl, HBC.out⟩
end Go.Proofs.YtcfbcidakddhfaaGreatDoor
