/- The program's tell. -/
import Derived.Test.YtcfbcidakddhfaaGreatDoorPr38
import Derived.Test.YtcfbcidakddhfaaGreatDoorPr8
namespace Go.Proofs.YtcfbcidakddhfaaGreatDoor
open Go.RowKit Go.BigFrame

inductive Vr where
  | v (x : Value)
  | cl
  | ag
  | li
  | ap
def Vr.isAp : Vr → Bool
  | .ap => true
  | _ => false
/-- What is known of an operation's value, where a row is laid behind an answer's. -/
def HR (s : List Pp) (cells : List Smp) (CA : Option Addr) (cc K : Nat) (rows : List Rz) (B : Nat) : Vr → Value → World → Prop
  | .v x, u, _ => u = x
  | .cl, u, w => ∃ A c, u = .slice A s.length c ∧ So encP 2 w B 54 (.slice A s.length c) s
  | .ag, u, w => ∃ A c, u = .agg #[.slice A s.length c, .slice CA cells.length cc] ∧ So encP 2 w B 54 (.slice A s.length c) s
  | .li, u, w => ∃ g A c, u = .slice (some ⟨g, 0, none⟩) 1 1 ∧ B ≤ g ∧ w.heap[g]? = some (.cells #[.slice A s.length c, .slice CA cells.length cc] 57) ∧ So encP 2 w B 54 (.slice A s.length c) s
  | .ap, u, w => ∃ A c r, u = .slice A (rows.length + 1) c ∧ r.1 = (s, cells) ∧ Rg w K (.slice A (rows.length + 1) c) (rows ++ [r])
section
variable {s : List Pp} {cells : List Smp} {CA : Option Addr} {cc K : Nat} {rows : List Rz} {B : Nat} {y : Vr} {u : Value} {w w' : World}
theorem HR.mono (h : HR s cells CA cc K rows B y u w) (hb : Below w.heap.size w w') : HR s cells CA cc K rows B y u w' := by
  cases y with
  | v x => exact h
  | cl => obtain ⟨A, c, e, r⟩ := h; exact ⟨A, c, e, r.below hb⟩
  | ag => obtain ⟨A, c, e, r⟩ := h; exact ⟨A, c, e, r.below hb⟩
  | li =>
    obtain ⟨g, A, c, e, hg, hc, r⟩ := h
    refine ⟨g, A, c, e, hg, (hb.block g ?_).trans hc, r.below hb⟩
    exact (Array.getElem?_eq_some_iff.1 hc).1
  | ap => obtain ⟨A, c, r, e, f, h⟩ := h; exact ⟨A, c, r, e, f, h.below hb⟩
theorem HR.grown (hy : y.isAp = false) (h : HR s cells CA cc K rows B y u w) {v : Value} {l : List Rz} {K2 : Nat} (hv : So encRz 2 w K2 57 v l) (hg : w.grownBy w' v.ownBlock) (hB : ∀ g, v.ownBlock = some g → g < B) : HR s cells CA cc K rows B y u w' := by
  cases y with
  | v x => exact h
  | cl => obtain ⟨A, c, e, r⟩ := h; exact ⟨A, c, e, r.keepO hv (by decide) hg⟩
  | ag => obtain ⟨A, c, e, r⟩ := h; exact ⟨A, c, e, r.keepO hv (by decide) hg⟩
  | li =>
    obtain ⟨g, A, c, e, hgB, hc, r⟩ := h
    refine ⟨g, A, c, e, hgB, (hg.block g (Array.getElem?_eq_some_iff.1 hc).1 fun e => ?_).trans hc, r.keepO hv (by decide) hg⟩
    have := hB g e.symm
    omega
  | ap => cases hy
end
/-- A literal row of one element, read. -/
theorem sr_lit {α : Type} {enc : α → List Value} {w : World} {g : Nat} {cs : Array Value} {T : TypeId} {x : α} {k : Nat} (h : w.heap[g]? = some (.cells cs T)) (he : cs.toList = enc x) : Sr enc k w w.heap.size (some ⟨g, 0, none⟩) 1 [x] := by
  refine ⟨by simp, by unfold maxLen; omega, (fun h => by cases h), fun _ => ⟨_, rfl, (Array.getElem?_eq_some_iff.1 h).1, fun i y hi j u hu => ?_⟩⟩
  obtain ⟨hi1, hi2⟩ := List.getElem?_eq_some_iff.1 hi
  simp at hi1
  subst hi1
  simp at hi2
  subst hi2
  have hc : cs[j]? = some u := by rw [← Array.getElem?_toList, he]; exact hu
  have := (cell_of_row w g j cs T (0, 0) h).trans hc
  unfold Addr.add
  split
  · rename_i h0
    have : j = 0 := by omega
    subst this
    exact (cell_of_row w g 0 cs T (0, 0) h).trans hc
  · simpa using this
/-- tell's statement that lays a row: what stands while its operations come up. -/
structure Gt (W0 : World) (fl : Bool) (wx : World) (K KP b : Nat) (A1 A2 : Option Addr) (c1 c2 : Nat) (SA : Option Addr) (sc : Nat) (CA : Option Addr) (cc : Nat) (s : List Pp) (cells : List Smp) (rows : List Rz) (notes : List Pz) (u2 : Value) (nz : List Pz) : Prop where
  pn : Pw wx K 52 54 u2 nz
  ls : Lr wx KP SA sc s
  sz : W0.heap.size ≤ wx.heap.size
  bl : Below K W0 wx
  bx : Rwo wx b (ceA A1 A2 rows.length notes.length c1 c2) 30
  pw : Pw wx K 52 54 (.slice A2 notes.length c2) notes
  ce : So encSm 2 wx K 121 (.slice CA cells.length cc) cells
  lt : ∀ g, (Value.slice A1 rows.length c1).ownBlock = some g → g < W0.heap.size
  hk : K ≤ W0.heap.size
  hp : KP ≤ K
  rg : fl = false → Rg wx K (.slice A1 rows.length c1) rows
def TellF (W0 wx : World) (K b : Nat) (A2 : Option Addr) (c2 : Nat) (s : List Pp) (cells : List Smp) (rows : List Rz) (notes : List Pz) (u2 : Value) (nz : List Pz) : Prop :=
  ∃ A c r, r.1 = (s, cells) ∧ An wx K b A A2 c c2 (rows ++ [r]) notes ∧ Below K W0 wx ∧ Pw wx K 52 54 u2 nz
section
variable {W0 wx wy : World} {fl : Bool} {K KP b c1 c2 sc cc : Nat} {A1 A2 SA CA : Option Addr} {s : List Pp} {cells : List Smp} {rows : List Rz} {notes nz : List Pz} {u2 : Value}
theorem Gt.below (h : Gt W0 fl wx K KP b A1 A2 c1 c2 SA sc CA cc s cells rows notes u2 nz) (hb : Below wx.heap.size wx wy) : Gt W0 fl wy K KP b A1 A2 c1 c2 SA sc CA cc s cells rows notes u2 nz :=
  ⟨h.pn.below hb, h.ls.below (hb.mono (Nat.le_trans h.hp (Nat.le_trans h.hk h.sz))), Nat.le_trans h.sz hb.size, h.bl.trans (hb.mono (Nat.le_trans h.hk h.sz)), h.bx.below hb, h.pw.below hb, h.ce.below hb, h.lt, h.hk, h.hp, fun e => (h.rg e).below hb⟩
theorem Gt.app (h : Gt W0 fl wx K KP b A1 A2 c1 c2 SA sc CA cc s cells rows notes u2 nz) (hr : So encRz 2 wx K 57 (.slice A1 rows.length c1) rows) (hg : wx.grownBy wy (Value.slice A1 rows.length c1).ownBlock) : Gt W0 true wy K KP b A1 A2 c1 c2 SA sc CA cc s cells rows notes u2 nz := by
  have hb : Below K wx wy := grown_belowE (Below.refl _ _) hg (Nat.le_trans h.hk h.sz) (fun _ e => (hr.lt _ e).1)
  exact ⟨h.pn.keepO hr (by decide) (by decide) hg, h.ls.below (hb.mono h.hp), Nat.le_trans h.sz hb.size, h.bl.trans hb, h.bx.grown hg (hr.nebox2 h.bx (by decide)), h.pw.keepO hr (by decide) (by decide) hg, h.ce.keepO hr (by decide) hg, h.lt, h.hk, h.hp, fun e => by cases e⟩
theorem Gt.fin (h : Gt W0 fl wx K KP b A1 A2 c1 c2 SA sc CA cc s cells rows notes u2 nz) (hKb : K ≤ b) {A : Option Addr} {c : Nat} {r : Rz} (e : r.1 = (s, cells)) (hr : Rg wx K (.slice A (rows.length + 1) c) (rows ++ [r])) :
    TellF W0 (wx.setCell ⟨b, 0, none⟩ (.slice A (rows.length + 1) c)) K b A2 c2 s cells rows notes u2 nz := by
  refine ⟨A, c, r, e, ⟨?_, ?_, h.pw.setA h.bx 0 _⟩, h.bl.setCell hKb _, h.pn.setA h.bx 0 _⟩
  · have := h.bx.set 0 (.slice A (rows.length + 1) c)
    rw [List.length_append]
    exact this
  · have hl : (rows ++ [r]).length = rows.length + 1 := by rw [List.length_append]; rfl
    have h2 : Rg wx K (.slice A (rows ++ [r]).length c) (rows ++ [r]) := by rw [hl]; exact hr
    exact h2.set h.bx 0 _
end
theorem An.note {w w' : World} {K b c1 c2 c5 N : Nat} {A1 A2 A5 : Option Addr} {rows : List Rz} {notes nz : List Pz} {u : Value} (h : An w K b A1 A2 c1 c2 rows notes) (h2 : Pw w K 52 54 u nz)
    (hg : w.grownBy w' (Value.slice A2 notes.length c2).ownBlock) (hn : So encPz 8 w' K 52 (.slice A5 N c5) (notes ++ nz)) (hN : notes.length + nz.length = N) : An (w'.setCell ⟨b, 1, none⟩ (.slice A5 N c5)) K b A1 A5 c1 c5 rows (notes ++ nz) := by
  have hb := h.bx.grown hg (h.pw.so.nebox2 h.bx (by decide))
  have hr := h.rg.keepO h.pw.so (by decide) (by decide) (by decide) hg
  have hp := h.pw.app (by decide) h2 (Nat.le_refl _) hg hn
  subst hN
  have hl : (notes ++ nz).length = notes.length + nz.length := List.length_append
  refine ⟨?_, hr.set hb 1 _, ?_⟩
  · have := hb.set 1 (.slice A5 (notes.length + nz.length) c5)
    rw [hl]
    exact this
  · have h3 : Pw w' K 52 54 (.slice A5 (notes ++ nz).length c5) (notes ++ nz) := by rw [hl]; exact hp
    exact h3.setA hb 1 _
theorem tell_ne {b : Nat} {A1 CA : Option Addr} {c1 cc : Nat} {x : Pz} {cells : List Smp} {rows : List Rz} : ∀ j, Nat.beq j 10 = false → Vr.isAp (([.v (.pointer (some ⟨b, 0, none⟩)), .v (.pointer (some ⟨b, 0, none⟩)), .v (.pointer (some ⟨b, 0, none⟩)), .v (.pointer (some ⟨b, 0, none⟩)), .v (.slice A1 rows.length c1), .v (.slice x.2.1 x.1.set.length x.2.2), .cl, .v (.slice CA cells.length cc), .ag, .li, .ap, .v (.pointer (some ⟨b, 0, none⟩)), .v (.pointer (some ⟨b, 0, none⟩)), .v undef] : List Vr).getD j (.v undef)) = false
  | 0, _ => rfl
  | 1, _ => rfl
  | 2, _ => rfl
  | 3, _ => rfl
  | 4, _ => rfl
  | 5, _ => rfl
  | 6, _ => rfl
  | 7, _ => rfl
  | 8, _ => rfl
  | 9, _ => rfl
  | 10, h => by cases h
  | 11, _ => rfl
  | 12, _ => rfl
  | 13, _ => rfl
  | _ + 14, _ => rfl
/-- What tell gives. -/
def TellP (q : Qr) (w : World) (K b : Nat) (rows : List Rz) (notes : List Pz) (lp : List Pt) (e : Ending) (w' : World) : Prop :=
  ∃ A1 A2 c1 c2 rs ns, e = .returned (.int .i64 (tellQ q lp).1) ∧ rs.map Prod.fst = (tellQ q lp).2.1 ∧ ns.map Prod.fst = (tellQ q lp).2.2 ∧ An w' K b A1 A2 c1 c2 (rows ++ rs) (notes ++ ns) ∧ Below K w w'
set_option maxRecDepth 100000 in
set_option maxHeartbeats 3200000 in
theorem tell_any {q : Qr} {A : Option Addr} {c : Nat} (KP K KQ b : Nat) (B : Option Addr) (n cap : Nat) (l : List Pz) (lp : List Pt) (rows : List Rz) (notes : List Pz) (A1 A2 : Option Addr) (c1 c2 : Nat) (w : World) (hln : l.length = n) (hlp : l.map Prod.fst = lp) (h0 : 0 < l.length) (hp : Ps w KP B cap l) (hKP : KP ≤ K) (hKw : K ≤ w.heap.size) (hKb : K ≤ b)
    (hr : Rr w KQ A c q.rs) (hKQ : KQ ≤ K) (hm : Mx w) (h2 : q.st ≤ 9223372036854775807) (ha : An w K b A1 A2 c1 c2 rows notes) (hl : l.length ≤ 1048576) (hsm : ∀ x ∈ l, x.1.set.length ≤ 1048576 ∧ Sm x.1.set) (hok : ∀ x ∈ l, Pok x.1) (hrl : rows.length ≤ 1048576) (hnl : notes.length ≤ 1048576) :
    Calls Tryz.prog 17 #[.pointer (some ⟨b, 0, none⟩), qv q A c, .slice B n cap] w (TellP q w K b rows notes lp) := by
  subst hln
  obtain ⟨ad, hB, hadK, k0, _⟩ := ps_cells hp.sr h0
  subst hB
  have hst := hp.st l[0] (List.getElem_mem h0)
  have hss := hsm l[0] (List.getElem_mem h0)
  have hsa : setAt lp = l[0].1.set := by
    subst hlp
    cases l with
    | nil => simp at h0
    | cons x r => rfl
  generalize l[0] = x at *
  have e00 : ad.add (0 * 8) = ad := by rw [Nat.zero_mul]; exact el_add_zero ad
  rw [e00] at k0
  have B0 : Below w.heap.size w (w.alloc (.cells (qc q A c) 36)) := (Below.refl _ _).alloc (Nat.le_refl _) _
  have HX : Hid (Rwo (w.alloc (.cells (qc q A c) 36)) w.heap.size (qc q A c) 36) := Lib.hid ⟨heap_alloc_new w _⟩
  have HP := Lib.hid (hp.below (B0.mono (Nat.le_trans hKP hKw)))
  have HRR := Lib.hid (hr.below (B0.mono (Nat.le_trans hKQ hKw)))
  have HL := Lib.hid (hst.below (B0.mono (Nat.le_trans hKP hKw)))
  have HM := Lib.hid (hm.below B0)
  have HA := Lib.hid (ha.below B0)
  have hz : (w.alloc (.cells (qc q A c) 36)).heap.size = w.heap.size + 1 := by simp
  have hk0' : (w.alloc (.cells (qc q A c) 36)).cell? ad = some (.slice x.2.1 x.1.set.length x.2.2) := keptA k0
  have HB0 := Lib.hid B0
  obtain ⟨W0, hW0⟩ : ∃ W0, W0 = w.alloc (.cells (qc q A c) 36) := ⟨_, rfl⟩
  rw [← hW0] at HX HP HRR HL HM HA hz hk0' HB0
  have HWW := Lib.hid hW0
  have hK0 : K ≤ W0.heap.size := by omega
  have x1 : W0.cell? ⟨w.heap.size, 1, none⟩ = some (.slice A q.rs.length c) := HX.out.cell rfl
  have hzw : w.heap.size < W0.heap.size := by omega
  have HALL := Lib.hid (allR_any K A x.2.1 q.rs.length c x.1.set.length x.2.2 q.rs x.1.set W0 rfl rfl (HRR.out.more hKQ) (HL.out.more hKP) hK0 hss.2 HM.out)
  clear hp hr hst hm ha B0 hW0 k0 e00 hadK
  cases hall : allB x.1.set q.rs with
  | false =>
    rw [hall] at HALL
    have HT : Hid (tellQ q lp = (0, [], [])) := Lib.hid (by unfold tellQ; rw [hsa, if_pos hall])
    clear hall hsa hz
    go_enter Tryz.func17, Tryz.ntmps17
    go_upto_region 1 with fail
    rw [← HWW.out]
    go_wp2_with fail
    refine HALL.out.mono ?_
    rintro e w1 ⟨rfl, b1⟩
    have HB1 := Lib.hid b1
    clear b1
    go_wp2
    go_ret
    exact ⟨A1, A2, c1, c2, [], [], by rw [HT.out]; rfl, by rw [HT.out]; rfl, by rw [HT.out]; rfl, by rw [List.append_nil, List.append_nil]; exact HA.out.below HB1.out, (HB0.out.mono hKw).trans (HB1.out.mono hK0)⟩
  | true =>
    rw [hall] at HALL
    have HPI := Lib.hid (fun W (hW : Below W0.heap.size W0 W) => pick_any (q := q) (A := A) (c := c) KP (some ad) l.length cap l lp W rfl hlp (HP.out.below (hW.mono (Nat.le_trans hKP hK0))) (Nat.le_trans (Nat.le_trans hKP hK0) hW.size) hl (fun y hy => (hsm y hy).1))
    have hsl := smpsQ_len q lp
    have hnl2 := notesQ_len q lp
    have hll : lp.length = l.length := by rw [← hlp, List.length_map]
    have hsok := smpsQ_ok q (l := lp) (by
      rw [← hlp]
      intro y hy
      obtain ⟨z, hz1, rfl⟩ := List.mem_map.1 hy
      exact hok z hz1)
    have HCE := Lib.hid (fun W (B9 : Option Addr) (c9 : Nat) (h : So encSm 2 W W0.heap.size 130 (.slice B9 (smpsQ q lp).length c9) (smpsQ q lp)) => cellsOf_any (q := q) (A := A) (c := c) W.heap.size B9 (smpsQ q lp).length c9 (smpsQ q lp) W rfl (So.sr encSm_len h).1 (Nat.le_refl _) hsok (by omega) h2)
    have HT : Hid (tellQ q lp = if (cellsQ q (smpsQ q lp)).1 ≠ 0 then ((cellsQ q (smpsQ q lp)).1, [], []) else (0, (if (cellsQ q (smpsQ q lp)).2 = [] then [] else [(x.1.set, (cellsQ q (smpsQ q lp)).2)]), notesQ q lp)) := Lib.hid (by
      unfold tellQ
      rw [hsa, if_neg (by rw [hall]; decide)])
    generalize cellsQ q (smpsQ q lp) = cq at HT HCE
    obtain ⟨er, cells⟩ := cq
    simp only at HT
    clear hall hsa hz hsok
    have q9 : ∀ W, Below W0.heap.size W0 W → W.cell? ⟨w.heap.size, 0, none⟩ = some (.int .i64 q.op) ∧ W.cell? ⟨w.heap.size, 1, none⟩ = some (.slice A q.rs.length c) ∧ W.cell? ⟨w.heap.size, 2, none⟩ = some (.int .i64 q.fr) ∧ W.cell? ⟨w.heap.size, 3, none⟩ = some (.int .i64 q.to_) ∧ W.cell? ⟨w.heap.size, 4, none⟩ = some (.int .i64 q.st) ∧ W.cell? ⟨w.heap.size, 5, none⟩ = some (.bool q.nt) := fun W hW => by
      have h := HX.out.below hW
      exact ⟨h.cell rfl, h.cell rfl, h.cell rfl, h.cell rfl, h.cell rfl, h.cell rfl⟩
    have HQ9 := Lib.hid q9
    clear q9
    go_enter Tryz.func17, Tryz.ntmps17
    go_upto_region 1 with fail
    rw [← HWW.out]
    go_wp2_with fail
    refine HALL.out.mono ?_
    rintro e w1 ⟨rfl, b1⟩
    have HB1 := Lib.hid b1
    obtain ⟨y0, y1, y2, y3, y4, y5⟩ := HQ9.out w1 b1
    have hz1 : w.heap.size < w1.heap.size := by have := b1.size; omega
    clear b1 x1 hk0'
    go_wp2_with fail
    refine (HPI.out w1 HB1.out).mono ?_
    rintro e w2 ⟨D1, d1, D2, d2, nz, rfl, so2, pw2, hnz, b2⟩
    have HB2 := Lib.hid (HB1.out.trans (b2.mono HB1.out.size))
    obtain ⟨z0, z1, z2, z3, z4, z5⟩ := HQ9.out w2 HB2.out
    have hz2 : w.heap.size < w2.heap.size := by have := b2.size; omega
    have HS2 := Lib.hid (so2.more HB1.out.size)
    have HPW2 := Lib.hid (pw2.more (K' := K) (by have := HB1.out.size; omega))
    have HNZ := Lib.hid hnz
    clear b2 y0 y1 y2 y3 y4 y5 hz1 so2 pw2 hnz
    go_wp2_with fail
    refine (HCE.out w2 D1 d1 HS2.out).mono ?_
    rintro e w3 ⟨CA, cc, rfl, so3, b3⟩
    have HB3 := Lib.hid (HB2.out.trans (b3.mono HB2.out.size))
    have HA3 := Lib.hid (HA.out.below HB3.out)
    have HPW3 := Lib.hid (HPW2.out.below b3)
    have HL3 := Lib.hid (HL.out.below (HB3.out.mono (Nat.le_trans hKP hK0)))
    have HC3 := Lib.hid (so3.more (K' := K) (by have := HB2.out.size; omega))
    have hz3 : W0.heap.size ≤ w3.heap.size := HB3.out.size
    clear b3 z0 z1 z2 z3 z4 z5 hz2 so3 HS2 HPW2 HCE HPI HALL HQ9
    by_cases her : er = 0
    · subst her
      rw [if_neg (by simp)] at HT
      by_cases hce : cells = []
      · subst hce
        rw [if_pos rfl] at HT
        have q1 : w3.cell? ⟨b, 1, none⟩ = some (.slice A2 notes.length c2) := HA3.out.bx.cell rfl
        have ql := HA3.out.bx.lt
        have hps := HPW3.out.ps
        have hpn : nz.length = (notesQ q lp).length := hps.2
        have HSRC := Lib.hid hps.1.sr
        have HPN := Lib.hid hpn
        have hkx : K ≤ w3.heap.size := Nat.le_trans hK0 hz3
        clear hps hpn
        go_wp2_with (at_builtin; refine wpList_appE Tryz.underlying28 info_pt rfl (by decide) encPz_len encPz_one w3 rfl (.tmp 56) (.tmp 57) rfl K (.slice A2 notes.length c2) notes rfl HA3.out.pw.so D2 (notesQ q lp).length d2 nz rfl HPN.out w3.heap.size HSRC.out (notes.length + (notesQ q lp).length) (by rw [HPN.out]) (by unfold maxLen; omega) (by omega) hkx ?_; intro A5 c5 w5 so5 hg5 hat5; have HB5 := Lib.hid (HA3.out.bx.grown hg5 (HA3.out.pw.so.nebox2 HA3.out.bx (by decide))); have hl5 := HB5.out.lt; have hf5 := HB5.out.fr 1; have p1 : w5.cell? ⟨b, 1, none⟩ = some (.slice A2 notes.length c2) := HB5.out.cell rfl)
        have HFIN := Lib.hid (HA3.out.note HPW3.out hg5 so5 (by rw [HPN.out]))
        have HBE := Lib.hid ((grown_belowE (Below.refl _ _) hg5 hkx (fun _ e => (HA3.out.pw.so.lt _ e).1)).setCell (p := ⟨b, 1, none⟩) hKb (.slice A5 (notes.length + (notesQ q lp).length) c5))
        go_wp2_with fail
        go_ret
        exact ⟨A1, A5, c1, c5, [], nz, by rw [HT.out]; rfl, by rw [HT.out]; rfl, by rw [HT.out]; exact HNZ.out, by rw [List.append_nil]; exact HFIN.out, ((HB0.out.mono hKw).trans (HB3.out.mono hK0)).trans HBE.out⟩
      · have hc0 : 0 < cells.length := List.length_pos_iff.2 hce
        have hc1 : (0 : Int) < cells.length := by omega
        rw [if_neg hce] at HT
        clear hce
        have hKP2 := Lib.hid (Nat.le_trans (Nat.le_trans hKP hK0) hz3)
        have hKW := Lib.hid (Nat.le_trans hK0 hz3)
        have hKb9 := Lib.hid hKb
        have hsl9 := Lib.hid (show x.1.set.length * 32 ≤ 140737488355328 by have := hss.1; omega)
        have hrl9 := Lib.hid hrl
        have HG0 : Hid (Gt w3 false w3 K KP b A1 A2 c1 c2 x.2.1 x.2.2 CA cc x.1.set cells rows notes (.slice D2 (notesQ q lp).length d2) nz) := Lib.hid ⟨HPW3.out, HL3.out, Nat.le_refl _, Below.refl _ _, HA3.out.bx, HA3.out.pw, HC3.out, fun g e => (HA3.out.rg.so.lt g e).2, Nat.le_trans hK0 hz3, hKP, fun _ => HA3.out.rg⟩
        go_upto_region 9 with fail
        apply region_GS (HR x.1.set cells CA cc K rows w3.heap.size) (fun fl wx => Gt w3 fl wx K KP b A1 A2 c1 c2 x.2.1 x.2.2 CA cc x.1.set cells rows notes (.slice D2 (notesQ q lp).length d2) nz) (fun wx => TellF w3 wx K b A2 c2 x.1.set cells rows notes (.slice D2 (notesQ q lp).length d2) nz) 10 13 [.v (.pointer (some ⟨b, 0, none⟩)), .v (.pointer (some ⟨b, 0, none⟩)), .v (.pointer (some ⟨b, 0, none⟩)), .v (.pointer (some ⟨b, 0, none⟩)), .v (.slice A1 rows.length c1), .v (.slice x.2.1 x.1.set.length x.2.2), .cl, .v (.slice CA cells.length cc), .ag, .li, .ap, .v (.pointer (some ⟨b, 0, none⟩)), .v (.pointer (some ⟨b, 0, none⟩)), .v undef] (.v undef)
        case hl => kernel_rfl
        case hm => kernel_rfl
        case hf => kernel_rfl
        case hp => kernel_rfl
        case hQ => exact (by intro c x y w e h; exact And.intro (e.symm.trans (And.left h)) (And.right h))
        case hF => intro vs; simp only [putAll, Act.put, List.setIfInBounds_toArray, List.set_cons_zero, List.set_cons_succ, Nat.reduceAdd]; rfl
        case h0 => exact HG0.out.below ⟨rfl, rfl, rfl, Nat.le_refl _, fun _ _ => rfl⟩
        case hstep =>
          repeat' (first | exact AllOps.nil | apply AllOps.cons)
          · intro vs yb wx hG hd hbp hbn K9 hK
            replace hK : ∀ (uu : Value) (w' : World), ((fun fl wx => Gt w3 fl wx K KP b A1 A2 c1 c2 x.2.1 x.2.2 CA cc x.1.set cells rows notes (.slice D2 (notesQ q lp).length d2) nz)) yb w' → (∀ j u, Nat.beq j 0 = false → (HR x.1.set cells CA cc K rows w3.heap.size) (([.v (.pointer (some ⟨b, 0, none⟩)), .v (.pointer (some ⟨b, 0, none⟩)), .v (.pointer (some ⟨b, 0, none⟩)), .v (.pointer (some ⟨b, 0, none⟩)), .v (.slice A1 rows.length c1), .v (.slice x.2.1 x.1.set.length x.2.2), .cl, .v (.slice CA cells.length cc), .ag, .li, .ap, .v (.pointer (some ⟨b, 0, none⟩)), .v (.pointer (some ⟨b, 0, none⟩)), .v undef] : List _).getD j (.v undef)) u wx → (HR x.1.set cells CA cc K rows w3.heap.size) (([.v (.pointer (some ⟨b, 0, none⟩)), .v (.pointer (some ⟨b, 0, none⟩)), .v (.pointer (some ⟨b, 0, none⟩)), .v (.pointer (some ⟨b, 0, none⟩)), .v (.slice A1 rows.length c1), .v (.slice x.2.1 x.1.set.length x.2.2), .cl, .v (.slice CA cells.length cc), .ag, .li, .ap, .v (.pointer (some ⟨b, 0, none⟩)), .v (.pointer (some ⟨b, 0, none⟩)), .v undef] : List _).getD j (.v undef)) u w') → (HR x.1.set cells CA cc K rows w3.heap.size) (.v (.pointer (some ⟨b, 0, none⟩))) uu w' → K9 _ w' := hK
            simp only [Act.put, List.setIfInBounds_toArray, List.set_cons_zero, List.set_cons_succ] at hK ⊢
            have HK := Lib.hid hK
            have HG := Lib.hid hG
            clear hK hd
            clear hG hbp hbn
            go_simp
            exact HK.out _ _ HG.out (fun _ _ _ h9 => h9) rfl
          · intro vs yb wx hG hd hbp hbn K9 hK
            replace hK : ∀ (uu : Value) (w' : World), ((fun fl wx => Gt w3 fl wx K KP b A1 A2 c1 c2 x.2.1 x.2.2 CA cc x.1.set cells rows notes (.slice D2 (notesQ q lp).length d2) nz)) yb w' → (∀ j u, Nat.beq j 1 = false → (HR x.1.set cells CA cc K rows w3.heap.size) (([.v (.pointer (some ⟨b, 0, none⟩)), .v (.pointer (some ⟨b, 0, none⟩)), .v (.pointer (some ⟨b, 0, none⟩)), .v (.pointer (some ⟨b, 0, none⟩)), .v (.slice A1 rows.length c1), .v (.slice x.2.1 x.1.set.length x.2.2), .cl, .v (.slice CA cells.length cc), .ag, .li, .ap, .v (.pointer (some ⟨b, 0, none⟩)), .v (.pointer (some ⟨b, 0, none⟩)), .v undef] : List _).getD j (.v undef)) u wx → (HR x.1.set cells CA cc K rows w3.heap.size) (([.v (.pointer (some ⟨b, 0, none⟩)), .v (.pointer (some ⟨b, 0, none⟩)), .v (.pointer (some ⟨b, 0, none⟩)), .v (.pointer (some ⟨b, 0, none⟩)), .v (.slice A1 rows.length c1), .v (.slice x.2.1 x.1.set.length x.2.2), .cl, .v (.slice CA cells.length cc), .ag, .li, .ap, .v (.pointer (some ⟨b, 0, none⟩)), .v (.pointer (some ⟨b, 0, none⟩)), .v undef] : List _).getD j (.v undef)) u w') → (HR x.1.set cells CA cc K rows w3.heap.size) (.v (.pointer (some ⟨b, 0, none⟩))) uu w' → K9 _ w' := hK
            simp only [Act.put, List.setIfInBounds_toArray, List.set_cons_zero, List.set_cons_succ] at hK ⊢
            have HK := Lib.hid hK
            have HG := Lib.hid hG
            clear hK hd
            clear hG hbp hbn
            go_simp
            exact HK.out _ _ HG.out (fun _ _ _ h9 => h9) rfl
          · intro vs yb wx hG hd hbp hbn K9 hK
            have e1 : vs 1 = .pointer (some ⟨b, 0, none⟩) := hd.get (j := 1) (by simp [depsOf, Region.binds])
            replace hK : ∀ (uu : Value) (w' : World), ((fun fl wx => Gt w3 fl wx K KP b A1 A2 c1 c2 x.2.1 x.2.2 CA cc x.1.set cells rows notes (.slice D2 (notesQ q lp).length d2) nz)) yb w' → (∀ j u, Nat.beq j 2 = false → (HR x.1.set cells CA cc K rows w3.heap.size) (([.v (.pointer (some ⟨b, 0, none⟩)), .v (.pointer (some ⟨b, 0, none⟩)), .v (.pointer (some ⟨b, 0, none⟩)), .v (.pointer (some ⟨b, 0, none⟩)), .v (.slice A1 rows.length c1), .v (.slice x.2.1 x.1.set.length x.2.2), .cl, .v (.slice CA cells.length cc), .ag, .li, .ap, .v (.pointer (some ⟨b, 0, none⟩)), .v (.pointer (some ⟨b, 0, none⟩)), .v undef] : List _).getD j (.v undef)) u wx → (HR x.1.set cells CA cc K rows w3.heap.size) (([.v (.pointer (some ⟨b, 0, none⟩)), .v (.pointer (some ⟨b, 0, none⟩)), .v (.pointer (some ⟨b, 0, none⟩)), .v (.pointer (some ⟨b, 0, none⟩)), .v (.slice A1 rows.length c1), .v (.slice x.2.1 x.1.set.length x.2.2), .cl, .v (.slice CA cells.length cc), .ag, .li, .ap, .v (.pointer (some ⟨b, 0, none⟩)), .v (.pointer (some ⟨b, 0, none⟩)), .v undef] : List _).getD j (.v undef)) u w') → (HR x.1.set cells CA cc K rows w3.heap.size) (.v (.pointer (some ⟨b, 0, none⟩))) uu w' → K9 _ w' := hK
            simp only [Act.put, List.setIfInBounds_toArray, List.set_cons_zero, List.set_cons_succ, e1] at hK ⊢
            have HK := Lib.hid hK
            have HG := Lib.hid hG
            clear hK hd e1
            clear hG hbp hbn
            go_simp
            exact HK.out _ _ HG.out (fun _ _ _ h9 => h9) rfl
          · intro vs yb wx hG hd hbp hbn K9 hK
            have e2 : vs 2 = .pointer (some ⟨b, 0, none⟩) := hd.get (j := 2) (by simp [depsOf, Region.binds])
            replace hK : ∀ (uu : Value) (w' : World), ((fun fl wx => Gt w3 fl wx K KP b A1 A2 c1 c2 x.2.1 x.2.2 CA cc x.1.set cells rows notes (.slice D2 (notesQ q lp).length d2) nz)) yb w' → (∀ j u, Nat.beq j 3 = false → (HR x.1.set cells CA cc K rows w3.heap.size) (([.v (.pointer (some ⟨b, 0, none⟩)), .v (.pointer (some ⟨b, 0, none⟩)), .v (.pointer (some ⟨b, 0, none⟩)), .v (.pointer (some ⟨b, 0, none⟩)), .v (.slice A1 rows.length c1), .v (.slice x.2.1 x.1.set.length x.2.2), .cl, .v (.slice CA cells.length cc), .ag, .li, .ap, .v (.pointer (some ⟨b, 0, none⟩)), .v (.pointer (some ⟨b, 0, none⟩)), .v undef] : List _).getD j (.v undef)) u wx → (HR x.1.set cells CA cc K rows w3.heap.size) (([.v (.pointer (some ⟨b, 0, none⟩)), .v (.pointer (some ⟨b, 0, none⟩)), .v (.pointer (some ⟨b, 0, none⟩)), .v (.pointer (some ⟨b, 0, none⟩)), .v (.slice A1 rows.length c1), .v (.slice x.2.1 x.1.set.length x.2.2), .cl, .v (.slice CA cells.length cc), .ag, .li, .ap, .v (.pointer (some ⟨b, 0, none⟩)), .v (.pointer (some ⟨b, 0, none⟩)), .v undef] : List _).getD j (.v undef)) u w') → (HR x.1.set cells CA cc K rows w3.heap.size) (.v (.pointer (some ⟨b, 0, none⟩))) uu w' → K9 _ w' := hK
            simp only [Act.put, List.setIfInBounds_toArray, List.set_cons_zero, List.set_cons_succ, e2] at hK ⊢
            have HK := Lib.hid hK
            have HG := Lib.hid hG
            clear hK hd e2
            clear hG hbp hbn
            go_simp
            exact HK.out _ _ HG.out (fun _ _ _ h9 => h9) rfl
          · intro vs yb wx hG hd hbp hbn K9 hK
            have e3 : vs 3 = .pointer (some ⟨b, 0, none⟩) := hd.get (j := 3) (by simp [depsOf, Region.binds])
            replace hK : ∀ (uu : Value) (w' : World), ((fun fl wx => Gt w3 fl wx K KP b A1 A2 c1 c2 x.2.1 x.2.2 CA cc x.1.set cells rows notes (.slice D2 (notesQ q lp).length d2) nz)) yb w' → (∀ j u, Nat.beq j 4 = false → (HR x.1.set cells CA cc K rows w3.heap.size) (([.v (.pointer (some ⟨b, 0, none⟩)), .v (.pointer (some ⟨b, 0, none⟩)), .v (.pointer (some ⟨b, 0, none⟩)), .v (.pointer (some ⟨b, 0, none⟩)), .v (.slice A1 rows.length c1), .v (.slice x.2.1 x.1.set.length x.2.2), .cl, .v (.slice CA cells.length cc), .ag, .li, .ap, .v (.pointer (some ⟨b, 0, none⟩)), .v (.pointer (some ⟨b, 0, none⟩)), .v undef] : List _).getD j (.v undef)) u wx → (HR x.1.set cells CA cc K rows w3.heap.size) (([.v (.pointer (some ⟨b, 0, none⟩)), .v (.pointer (some ⟨b, 0, none⟩)), .v (.pointer (some ⟨b, 0, none⟩)), .v (.pointer (some ⟨b, 0, none⟩)), .v (.slice A1 rows.length c1), .v (.slice x.2.1 x.1.set.length x.2.2), .cl, .v (.slice CA cells.length cc), .ag, .li, .ap, .v (.pointer (some ⟨b, 0, none⟩)), .v (.pointer (some ⟨b, 0, none⟩)), .v undef] : List _).getD j (.v undef)) u w') → (HR x.1.set cells CA cc K rows w3.heap.size) (.v (.slice A1 rows.length c1)) uu w' → K9 _ w' := hK
            simp only [Act.put, List.setIfInBounds_toArray, List.set_cons_zero, List.set_cons_succ, e3] at hK ⊢
            have HK := Lib.hid hK
            have HG := Lib.hid hG
            clear hK hd e3
            have q0 : wx.cell? ⟨b, 0, none⟩ = some (.slice A1 rows.length c1) := HG.out.bx.cell rfl
            clear hG hbp hbn
            go_simp
            exact HK.out _ _ HG.out (fun _ _ _ h9 => h9) rfl
          · intro vs yb wx hG hd hbp hbn K9 hK
            replace hK : ∀ (uu : Value) (w' : World), ((fun fl wx => Gt w3 fl wx K KP b A1 A2 c1 c2 x.2.1 x.2.2 CA cc x.1.set cells rows notes (.slice D2 (notesQ q lp).length d2) nz)) yb w' → (∀ j u, Nat.beq j 5 = false → (HR x.1.set cells CA cc K rows w3.heap.size) (([.v (.pointer (some ⟨b, 0, none⟩)), .v (.pointer (some ⟨b, 0, none⟩)), .v (.pointer (some ⟨b, 0, none⟩)), .v (.pointer (some ⟨b, 0, none⟩)), .v (.slice A1 rows.length c1), .v (.slice x.2.1 x.1.set.length x.2.2), .cl, .v (.slice CA cells.length cc), .ag, .li, .ap, .v (.pointer (some ⟨b, 0, none⟩)), .v (.pointer (some ⟨b, 0, none⟩)), .v undef] : List _).getD j (.v undef)) u wx → (HR x.1.set cells CA cc K rows w3.heap.size) (([.v (.pointer (some ⟨b, 0, none⟩)), .v (.pointer (some ⟨b, 0, none⟩)), .v (.pointer (some ⟨b, 0, none⟩)), .v (.pointer (some ⟨b, 0, none⟩)), .v (.slice A1 rows.length c1), .v (.slice x.2.1 x.1.set.length x.2.2), .cl, .v (.slice CA cells.length cc), .ag, .li, .ap, .v (.pointer (some ⟨b, 0, none⟩)), .v (.pointer (some ⟨b, 0, none⟩)), .v undef] : List _).getD j (.v undef)) u w') → (HR x.1.set cells CA cc K rows w3.heap.size) (.v (.slice x.2.1 x.1.set.length x.2.2)) uu w' → K9 _ w' := hK
            simp only [Act.put, List.setIfInBounds_toArray, List.set_cons_zero, List.set_cons_succ] at hK ⊢
            have HK := Lib.hid hK
            have HG := Lib.hid hG
            clear hK hd
            clear hG hbp hbn
            go_simp
            exact HK.out _ _ HG.out (fun _ _ _ h9 => h9) rfl
          · intro vs yb wx hG hd hbp hbn K9 hK
            have e5 : vs 5 = .slice x.2.1 x.1.set.length x.2.2 := hd.get (j := 5) (by simp [depsOf, Region.binds])
            replace hK : ∀ (uu : Value) (w' : World), ((fun fl wx => Gt w3 fl wx K KP b A1 A2 c1 c2 x.2.1 x.2.2 CA cc x.1.set cells rows notes (.slice D2 (notesQ q lp).length d2) nz)) yb w' → (∀ j u, Nat.beq j 6 = false → (HR x.1.set cells CA cc K rows w3.heap.size) (([.v (.pointer (some ⟨b, 0, none⟩)), .v (.pointer (some ⟨b, 0, none⟩)), .v (.pointer (some ⟨b, 0, none⟩)), .v (.pointer (some ⟨b, 0, none⟩)), .v (.slice A1 rows.length c1), .v (.slice x.2.1 x.1.set.length x.2.2), .cl, .v (.slice CA cells.length cc), .ag, .li, .ap, .v (.pointer (some ⟨b, 0, none⟩)), .v (.pointer (some ⟨b, 0, none⟩)), .v undef] : List _).getD j (.v undef)) u wx → (HR x.1.set cells CA cc K rows w3.heap.size) (([.v (.pointer (some ⟨b, 0, none⟩)), .v (.pointer (some ⟨b, 0, none⟩)), .v (.pointer (some ⟨b, 0, none⟩)), .v (.pointer (some ⟨b, 0, none⟩)), .v (.slice A1 rows.length c1), .v (.slice x.2.1 x.1.set.length x.2.2), .cl, .v (.slice CA cells.length cc), .ag, .li, .ap, .v (.pointer (some ⟨b, 0, none⟩)), .v (.pointer (some ⟨b, 0, none⟩)), .v undef] : List _).getD j (.v undef)) u w') → (HR x.1.set cells CA cc K rows w3.heap.size) (.cl) uu w' → K9 _ w' := hK
            simp only [Act.put, List.setIfInBounds_toArray, List.set_cons_zero, List.set_cons_succ, e5] at hK ⊢
            have HK := Lib.hid hK
            have HG := Lib.hid hG
            clear hK hd e5
            have HL := Lib.hid (HG.out.ls)
            have HS := Lib.hid (HG.out.sz)
            have HU1 := Lib.hid (HG.out.bl)
            clear hG
            go_simp
            go_at_call 40
            refine (clone_any KP x.2.1 x.1.set.length x.2.2 x.1.set wx rfl HL.out (Nat.le_trans hKP2.out HS.out) hsl9.out).mono ?_
            rintro en w9 ⟨A9, c9, rfl, so9, hb⟩
            exact HK.out _ _ (HG.out.below hb) (fun j u _ h9 => HR.mono h9 hb) ⟨A9, c9, rfl, so9.more HS.out⟩
          · intro vs yb wx hG hd hbp hbn K9 hK
            replace hK : ∀ (uu : Value) (w' : World), ((fun fl wx => Gt w3 fl wx K KP b A1 A2 c1 c2 x.2.1 x.2.2 CA cc x.1.set cells rows notes (.slice D2 (notesQ q lp).length d2) nz)) yb w' → (∀ j u, Nat.beq j 7 = false → (HR x.1.set cells CA cc K rows w3.heap.size) (([.v (.pointer (some ⟨b, 0, none⟩)), .v (.pointer (some ⟨b, 0, none⟩)), .v (.pointer (some ⟨b, 0, none⟩)), .v (.pointer (some ⟨b, 0, none⟩)), .v (.slice A1 rows.length c1), .v (.slice x.2.1 x.1.set.length x.2.2), .cl, .v (.slice CA cells.length cc), .ag, .li, .ap, .v (.pointer (some ⟨b, 0, none⟩)), .v (.pointer (some ⟨b, 0, none⟩)), .v undef] : List _).getD j (.v undef)) u wx → (HR x.1.set cells CA cc K rows w3.heap.size) (([.v (.pointer (some ⟨b, 0, none⟩)), .v (.pointer (some ⟨b, 0, none⟩)), .v (.pointer (some ⟨b, 0, none⟩)), .v (.pointer (some ⟨b, 0, none⟩)), .v (.slice A1 rows.length c1), .v (.slice x.2.1 x.1.set.length x.2.2), .cl, .v (.slice CA cells.length cc), .ag, .li, .ap, .v (.pointer (some ⟨b, 0, none⟩)), .v (.pointer (some ⟨b, 0, none⟩)), .v undef] : List _).getD j (.v undef)) u w') → (HR x.1.set cells CA cc K rows w3.heap.size) (.v (.slice CA cells.length cc)) uu w' → K9 _ w' := hK
            simp only [Act.put, List.setIfInBounds_toArray, List.set_cons_zero, List.set_cons_succ] at hK ⊢
            have HK := Lib.hid hK
            have HG := Lib.hid hG
            clear hK hd
            clear hG hbp hbn
            go_simp
            exact HK.out _ _ HG.out (fun _ _ _ h9 => h9) rfl
          · intro vs yb wx hG hd hbp hbn K9 hK
            obtain ⟨A6, d6, e6, r6⟩ : ∃ A' c', vs 6 = .slice A' x.1.set.length c' ∧ So encP 2 wx w3.heap.size 54 (.slice A' x.1.set.length c') x.1.set := hd.get (j := 6) (by simp [depsOf, Region.binds])
            have e7 : vs 7 = .slice CA cells.length cc := hd.get (j := 7) (by simp [depsOf, Region.binds])
            replace hK : ∀ (uu : Value) (w' : World), ((fun fl wx => Gt w3 fl wx K KP b A1 A2 c1 c2 x.2.1 x.2.2 CA cc x.1.set cells rows notes (.slice D2 (notesQ q lp).length d2) nz)) yb w' → (∀ j u, Nat.beq j 8 = false → (HR x.1.set cells CA cc K rows w3.heap.size) (([.v (.pointer (some ⟨b, 0, none⟩)), .v (.pointer (some ⟨b, 0, none⟩)), .v (.pointer (some ⟨b, 0, none⟩)), .v (.pointer (some ⟨b, 0, none⟩)), .v (.slice A1 rows.length c1), .v (.slice x.2.1 x.1.set.length x.2.2), .cl, .v (.slice CA cells.length cc), .ag, .li, .ap, .v (.pointer (some ⟨b, 0, none⟩)), .v (.pointer (some ⟨b, 0, none⟩)), .v undef] : List _).getD j (.v undef)) u wx → (HR x.1.set cells CA cc K rows w3.heap.size) (([.v (.pointer (some ⟨b, 0, none⟩)), .v (.pointer (some ⟨b, 0, none⟩)), .v (.pointer (some ⟨b, 0, none⟩)), .v (.pointer (some ⟨b, 0, none⟩)), .v (.slice A1 rows.length c1), .v (.slice x.2.1 x.1.set.length x.2.2), .cl, .v (.slice CA cells.length cc), .ag, .li, .ap, .v (.pointer (some ⟨b, 0, none⟩)), .v (.pointer (some ⟨b, 0, none⟩)), .v undef] : List _).getD j (.v undef)) u w') → (HR x.1.set cells CA cc K rows w3.heap.size) (.ag) uu w' → K9 _ w' := hK
            simp only [Act.put, List.setIfInBounds_toArray, List.set_cons_zero, List.set_cons_succ, e6, e7] at hK ⊢
            have HK := Lib.hid hK
            have HG := Lib.hid hG
            clear hK hd e6 e7
            clear hG
            go_simp
            exact HK.out _ _ HG.out (fun _ _ _ h9 => h9) ⟨_, _, rfl, r6⟩
          · intro vs yb wx hG hd hbp hbn K9 hK
            obtain ⟨A8, d8, e8, r8⟩ : ∃ A' c', vs 8 = .agg #[.slice A' x.1.set.length c', .slice CA cells.length cc] ∧ So encP 2 wx w3.heap.size 54 (.slice A' x.1.set.length c') x.1.set := hd.get (j := 8) (by simp [depsOf, Region.binds])
            replace hK : ∀ (uu : Value) (w' : World), ((fun fl wx => Gt w3 fl wx K KP b A1 A2 c1 c2 x.2.1 x.2.2 CA cc x.1.set cells rows notes (.slice D2 (notesQ q lp).length d2) nz)) yb w' → (∀ j u, Nat.beq j 9 = false → (HR x.1.set cells CA cc K rows w3.heap.size) (([.v (.pointer (some ⟨b, 0, none⟩)), .v (.pointer (some ⟨b, 0, none⟩)), .v (.pointer (some ⟨b, 0, none⟩)), .v (.pointer (some ⟨b, 0, none⟩)), .v (.slice A1 rows.length c1), .v (.slice x.2.1 x.1.set.length x.2.2), .cl, .v (.slice CA cells.length cc), .ag, .li, .ap, .v (.pointer (some ⟨b, 0, none⟩)), .v (.pointer (some ⟨b, 0, none⟩)), .v undef] : List _).getD j (.v undef)) u wx → (HR x.1.set cells CA cc K rows w3.heap.size) (([.v (.pointer (some ⟨b, 0, none⟩)), .v (.pointer (some ⟨b, 0, none⟩)), .v (.pointer (some ⟨b, 0, none⟩)), .v (.pointer (some ⟨b, 0, none⟩)), .v (.slice A1 rows.length c1), .v (.slice x.2.1 x.1.set.length x.2.2), .cl, .v (.slice CA cells.length cc), .ag, .li, .ap, .v (.pointer (some ⟨b, 0, none⟩)), .v (.pointer (some ⟨b, 0, none⟩)), .v undef] : List _).getD j (.v undef)) u w') → (HR x.1.set cells CA cc K rows w3.heap.size) (.li) uu w' → K9 _ w' := hK
            simp only [Act.put, List.setIfInBounds_toArray, List.set_cons_zero, List.set_cons_succ, e8] at hK ⊢
            have HK := Lib.hid hK
            have HG := Lib.hid hG
            clear hK hd e8
            have HS := Lib.hid (HG.out.sz)
            clear hG
            go_simp
            have hb : Below wx.heap.size wx (wx.alloc (.cells #[.slice A8 x.1.set.length d8, .slice CA cells.length cc] 57)) := (Below.refl _ _).alloc (Nat.le_refl _) _
            exact HK.out _ _ (HG.out.below hb) (fun j u _ h9 => HR.mono h9 hb) ⟨wx.heap.size, A8, d8, rfl, HS.out, heap_alloc_new wx _, r8.below hb⟩
          · intro vs yb wx hG hd hbp hbn K9 hK
            have e4 : vs 4 = .slice A1 rows.length c1 := hd.get (j := 4) (by simp [depsOf, Region.binds])
            obtain ⟨g9, A9, d9, e9, f9, h9, r9⟩ : ∃ g A' c', vs 9 = .slice (some ⟨g, 0, none⟩) 1 1 ∧ w3.heap.size ≤ g ∧ wx.heap[g]? = some (.cells #[.slice A' x.1.set.length c', .slice CA cells.length cc] 57) ∧ So encP 2 wx w3.heap.size 54 (.slice A' x.1.set.length c') x.1.set := hd.get (j := 9) (by simp [depsOf, Region.binds])
            replace hK : ∀ (uu : Value) (w' : World), ((fun fl wx => Gt w3 fl wx K KP b A1 A2 c1 c2 x.2.1 x.2.2 CA cc x.1.set cells rows notes (.slice D2 (notesQ q lp).length d2) nz)) true w' → (∀ j u, Nat.beq j 10 = false → (HR x.1.set cells CA cc K rows w3.heap.size) (([.v (.pointer (some ⟨b, 0, none⟩)), .v (.pointer (some ⟨b, 0, none⟩)), .v (.pointer (some ⟨b, 0, none⟩)), .v (.pointer (some ⟨b, 0, none⟩)), .v (.slice A1 rows.length c1), .v (.slice x.2.1 x.1.set.length x.2.2), .cl, .v (.slice CA cells.length cc), .ag, .li, .ap, .v (.pointer (some ⟨b, 0, none⟩)), .v (.pointer (some ⟨b, 0, none⟩)), .v undef] : List _).getD j (.v undef)) u wx → (HR x.1.set cells CA cc K rows w3.heap.size) (([.v (.pointer (some ⟨b, 0, none⟩)), .v (.pointer (some ⟨b, 0, none⟩)), .v (.pointer (some ⟨b, 0, none⟩)), .v (.pointer (some ⟨b, 0, none⟩)), .v (.slice A1 rows.length c1), .v (.slice x.2.1 x.1.set.length x.2.2), .cl, .v (.slice CA cells.length cc), .ag, .li, .ap, .v (.pointer (some ⟨b, 0, none⟩)), .v (.pointer (some ⟨b, 0, none⟩)), .v undef] : List _).getD j (.v undef)) u w') → (HR x.1.set cells CA cc K rows w3.heap.size) (.ap) uu w' → K9 _ w' := hK
            simp only [Act.put, List.setIfInBounds_toArray, List.set_cons_zero, List.set_cons_succ, e4, e9] at hK ⊢
            have HK := Lib.hid hK
            have HG := Lib.hid hG
            clear hK hd e4 e9
            have hyb : yb = false := hbp rfl
            subst hyb
            have hrg := HG.out.rg rfl
            have hsz := HG.out.sz
            have hce := HG.out.ce
            have hsr : Sr encRz 2 wx wx.heap.size (some ⟨g9, 0, none⟩) 1 [(((x.1.set, cells), (A9, d9), (CA, cc)) : Rz)] := sr_lit h9 rfl
            clear hG
            apply step_appE Tryz.underlying27 info_row rfl (by decide) encRz_len encRz_one (K := K) (v := .slice A1 rows.length c1) (l := rows) (A := some ⟨g9, 0, none⟩) (cap := 1) (m := [(((x.1.set, cells), (A9, d9), (CA, cc)) : Rz)]) (K' := wx.heap.size) (s := .tmp 43) (x := .tmp 48)
            case hgd => rfl
            case ho => rfl
            case hs => rfl
            case hx => rfl
            case hown => exact hrg.so
            case hsrc => exact hsr
            case hm => unfold maxLen; have := hrl9.out; simp only [List.length_singleton]; omega
            case hsz => have := hrl9.out; simp only [List.length_singleton]; omega
            case hbase => exact Nat.le_trans hKW.out hsz
            intro A5 c5 w5 so5 hg5
            have so6 : So encRz 2 w5 K 57 (.slice A5 (rows.length + 1) c5) (rows ++ [(((x.1.set, cells), (A9, d9), (CA, cc)) : Rz)]) := so5
            have hk := hrg.push (r := ((x.1.set, cells), (A9, d9), (CA, cc))) (r9.more hKW.out) hce hg5 so6
            have hrl9 : ∀ g, (Value.slice A1 rows.length c1).ownBlock = some g → g < w3.heap.size := HG.out.lt
            simp only [Act.put, List.setIfInBounds_toArray, List.set_cons_zero, List.set_cons_succ]
            exact HK.out _ _ (HG.out.app hrg.so hg5) (fun j u hj h9 => HR.grown (tell_ne j hj) h9 hrg.so hg5 hrl9) ⟨A5, c5, _, rfl, rfl, hk⟩
          · intro vs yb wx hG hd hbp hbn K9 hK
            have e0 : vs 0 = .pointer (some ⟨b, 0, none⟩) := hd.get (j := 0) (by simp [depsOf, Region.binds])
            replace hK : ∀ (uu : Value) (w' : World), ((fun fl wx => Gt w3 fl wx K KP b A1 A2 c1 c2 x.2.1 x.2.2 CA cc x.1.set cells rows notes (.slice D2 (notesQ q lp).length d2) nz)) yb w' → (∀ j u, Nat.beq j 11 = false → (HR x.1.set cells CA cc K rows w3.heap.size) (([.v (.pointer (some ⟨b, 0, none⟩)), .v (.pointer (some ⟨b, 0, none⟩)), .v (.pointer (some ⟨b, 0, none⟩)), .v (.pointer (some ⟨b, 0, none⟩)), .v (.slice A1 rows.length c1), .v (.slice x.2.1 x.1.set.length x.2.2), .cl, .v (.slice CA cells.length cc), .ag, .li, .ap, .v (.pointer (some ⟨b, 0, none⟩)), .v (.pointer (some ⟨b, 0, none⟩)), .v undef] : List _).getD j (.v undef)) u wx → (HR x.1.set cells CA cc K rows w3.heap.size) (([.v (.pointer (some ⟨b, 0, none⟩)), .v (.pointer (some ⟨b, 0, none⟩)), .v (.pointer (some ⟨b, 0, none⟩)), .v (.pointer (some ⟨b, 0, none⟩)), .v (.slice A1 rows.length c1), .v (.slice x.2.1 x.1.set.length x.2.2), .cl, .v (.slice CA cells.length cc), .ag, .li, .ap, .v (.pointer (some ⟨b, 0, none⟩)), .v (.pointer (some ⟨b, 0, none⟩)), .v undef] : List _).getD j (.v undef)) u w') → (HR x.1.set cells CA cc K rows w3.heap.size) (.v (.pointer (some ⟨b, 0, none⟩))) uu w' → K9 _ w' := hK
            simp only [Act.put, List.setIfInBounds_toArray, List.set_cons_zero, List.set_cons_succ, e0] at hK ⊢
            have HK := Lib.hid hK
            have HG := Lib.hid hG
            clear hK hd e0
            clear hG hbp hbn
            go_simp
            exact HK.out _ _ HG.out (fun _ _ _ h9 => h9) rfl
          · intro vs yb wx hG hd hbp hbn K9 hK
            have e11 : vs 11 = .pointer (some ⟨b, 0, none⟩) := hd.get (j := 11) (by simp [depsOf, Region.binds])
            replace hK : ∀ (uu : Value) (w' : World), ((fun fl wx => Gt w3 fl wx K KP b A1 A2 c1 c2 x.2.1 x.2.2 CA cc x.1.set cells rows notes (.slice D2 (notesQ q lp).length d2) nz)) yb w' → (∀ j u, Nat.beq j 12 = false → (HR x.1.set cells CA cc K rows w3.heap.size) (([.v (.pointer (some ⟨b, 0, none⟩)), .v (.pointer (some ⟨b, 0, none⟩)), .v (.pointer (some ⟨b, 0, none⟩)), .v (.pointer (some ⟨b, 0, none⟩)), .v (.slice A1 rows.length c1), .v (.slice x.2.1 x.1.set.length x.2.2), .cl, .v (.slice CA cells.length cc), .ag, .li, .ap, .v (.pointer (some ⟨b, 0, none⟩)), .v (.pointer (some ⟨b, 0, none⟩)), .v undef] : List _).getD j (.v undef)) u wx → (HR x.1.set cells CA cc K rows w3.heap.size) (([.v (.pointer (some ⟨b, 0, none⟩)), .v (.pointer (some ⟨b, 0, none⟩)), .v (.pointer (some ⟨b, 0, none⟩)), .v (.pointer (some ⟨b, 0, none⟩)), .v (.slice A1 rows.length c1), .v (.slice x.2.1 x.1.set.length x.2.2), .cl, .v (.slice CA cells.length cc), .ag, .li, .ap, .v (.pointer (some ⟨b, 0, none⟩)), .v (.pointer (some ⟨b, 0, none⟩)), .v undef] : List _).getD j (.v undef)) u w') → (HR x.1.set cells CA cc K rows w3.heap.size) (.v (.pointer (some ⟨b, 0, none⟩))) uu w' → K9 _ w' := hK
            simp only [Act.put, List.setIfInBounds_toArray, List.set_cons_zero, List.set_cons_succ, e11] at hK ⊢
            have HK := Lib.hid hK
            have HG := Lib.hid hG
            clear hK hd e11
            clear hG hbp hbn
            go_simp
            exact HK.out _ _ HG.out (fun _ _ _ h9 => h9) rfl
          · intro vs yb wx hG hd hbp hbn K9 hK
            obtain ⟨A10, d10, r9, e10, f10, r10⟩ : ∃ (A' : Option Addr) (c' : Nat) (r : Rz), vs 10 = .slice A' (rows.length + 1) c' ∧ r.1 = (x.1.set, cells) ∧ Rg wx K (.slice A' (rows.length + 1) c') (rows ++ [r]) := hd.get (j := 10) (by simp [depsOf, Region.binds])
            have e12 : vs 12 = .pointer (some ⟨b, 0, none⟩) := hd.get (j := 12) (by simp [depsOf, Region.binds])
            replace hK : ∀ (uu : Value) (w' : World), ((fun wx => TellF w3 wx K b A2 c2 x.1.set cells rows notes (.slice D2 (notesQ q lp).length d2) nz)) w' → K9 _ w' := hK
            simp only [Act.put, e10, e12] at hK ⊢
            have HK := Lib.hid hK
            have HG := Lib.hid hG
            clear hK hd e10 e12
            have hbx := HG.out.bx
            have q0 : wx.cell? ⟨b, 0, none⟩ = some (.slice A1 rows.length c1) := hbx.cell rfl
            have qf := hbx.fr 0
            have ql := hbx.lt
            have HF := Lib.hid (HG.out.fin hKb9.out f10 r10)
            clear hG hbx
            go_simp
            exact HK.out undef _ HF.out
        case hend =>
          intro vs wx hE
          obtain ⟨A9, c9, r9, e9, ha9, hb9, hp9⟩ := hE
          have HE9 := Lib.hid e9
          have HA9 := Lib.hid ha9
          have HB9 := Lib.hid hb9
          have HPW9 := Lib.hid hp9
          clear e9 ha9 hb9 hp9
          have q1 : wx.cell? ⟨b, 1, none⟩ = some (.slice A2 notes.length c2) := HA9.out.bx.cell rfl
          have ql := HA9.out.bx.lt
          have hps := HPW9.out.ps
          have hpn : nz.length = (notesQ q lp).length := hps.2
          have HSRC := Lib.hid hps.1.sr
          have HPN := Lib.hid hpn
          have hkx : K ≤ wx.heap.size := Nat.le_trans hKW.out HB9.out.size
          clear hps hpn
          go_wp2_with (at_builtin; refine wpList_appE Tryz.underlying28 info_pt rfl (by decide) encPz_len encPz_one wx rfl (.tmp 56) (.tmp 57) rfl K (.slice A2 notes.length c2) notes rfl HA9.out.pw.so D2 (notesQ q lp).length d2 nz rfl HPN.out wx.heap.size HSRC.out (notes.length + (notesQ q lp).length) (by rw [HPN.out]) (by unfold maxLen; omega) (by omega) hkx ?_; intro A5 c5 w5 so5 hg5 hat5; have HB5 := Lib.hid (HA9.out.bx.grown hg5 (HA9.out.pw.so.nebox2 HA9.out.bx (by decide))); have hl5 := HB5.out.lt; have hf5 := HB5.out.fr 1; have p1 : w5.cell? ⟨b, 1, none⟩ = some (.slice A2 notes.length c2) := HB5.out.cell rfl)
          have HFIN := Lib.hid (HA9.out.note HPW9.out hg5 so5 (by rw [HPN.out]))
          have HBE := Lib.hid ((grown_belowE (Below.refl _ _) hg5 hkx (fun _ e => (HA9.out.pw.so.lt _ e).1)).setCell (p := ⟨b, 1, none⟩) hKb9.out (.slice A5 (notes.length + (notesQ q lp).length) c5))
          go_wp2_with fail
          go_ret
          exact ⟨A9, A5, c9, c5, [r9], nz, by rw [HT.out]; rfl, by rw [HT.out, ← HE9.out]; rfl, by rw [HT.out]; exact HNZ.out, HFIN.out, (((HB0.out.mono hKw).trans (HB3.out.mono hK0)).trans HB9.out).trans HBE.out⟩
    · have her2 : (er == (0 : Int)) = false := by simpa using her
      rw [if_pos her] at HT
      clear her
      go_wp2_with fail
      go_ret
      exact ⟨A1, A2, c1, c2, [], [], by rw [HT.out]; rfl, by rw [HT.out]; rfl, by rw [HT.out]; rfl, by rw [List.append_nil, List.append_nil]; exact HA3.out, (HB0.out.mono hKw).trans (HB3.out.mono hK0)⟩
end Go.Proofs.YtcfbcidakddhfaaGreatDoor
