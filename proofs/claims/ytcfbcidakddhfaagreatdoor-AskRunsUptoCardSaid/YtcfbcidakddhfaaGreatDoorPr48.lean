/- The document's Run: what stands in its loops. -/
import Derived.Test.YtcfbcidakddhfaaGreatDoorPr46
import Derived.Test.YtcfbcidakddhfaaGreatDoorPr39
import Derived.Test.YtcfbcidakddhfaaGreatDoorPr45
namespace Go.Proofs.YtcfbcidakddhfaaGreatDoor
open Go.RowKit Go.BigFrame

theorem So.keepL {α β : Type} {e1 : α → List Value} {e2 : β → List Value} {k1 k2 K1 K2 : Nat} {w w' : World} {T S : TypeId} {v u : Value} {l : List α} {m : List β} (h : So e1 k1 w K1 T v l) (g : So e2 k2 w K2 S u m) (hl : ∀ b, v.ownBlock = some b → b < K2) (hg : w.grownBy w' u.ownBlock) : So e1 k1 w' K1 T v l :=
  h.keep hg (by
    cases hv : v.ownBlock with
    | none => exact .inl rfl
    | some b => exact .inr (fun e => by
        have h1 := hl b hv
        have h2 := (g.lt b e.symm).1
        omega))
/-- The inner loop's cells beside the answer. -/
structure Ix9 (w W0 : World) (K K5 KP b : Nat) (A1 A3 : Option Addr) (c1 c3 : Nat) (rows : List Rz) (nts : List Pz) (A9 : Option Addr) (m c9 : Nat) (sm : List Smp) : Prop where
  h9 : So encSm 2 w K5 83 (.slice A9 m c9) sm
  ad : Ad9 w K KP b A1 A3 c1 c3 rows nts
  bl : Below K W0 w
  bk : K5 ≤ w.heap.size
  kk : K ≤ K5
  kp : KP ≤ K
  kb : K ≤ b
  rc : ∀ r ∈ rows, ∀ g, (Value.slice r.2.2.1 r.1.2.length r.2.2.2).ownBlock = some g → g < K5
section
variable {w w' W0 : World} {K K5 KP b : Nat} {A1 A3 : Option Addr} {c1 c3 : Nat} {rows : List Rz} {nts : List Pz} {A9 : Option Addr} {m c9 : Nat} {sm : List Smp}
theorem Ix9.below (h : Ix9 w W0 K K5 KP b A1 A3 c1 c3 rows nts A9 m c9 sm) (hb : Below w.heap.size w w') : Ix9 w' W0 K K5 KP b A1 A3 c1 c3 rows nts A9 m c9 sm :=
  ⟨h.h9.below hb, h.ad.below hb (Nat.le_trans h.kp (Nat.le_trans h.kk h.bk)), h.bl.trans (hb.mono (Nat.le_trans h.kk h.bk)), Nat.le_trans h.bk hb.size, h.kk, h.kp, h.kb, h.rc⟩
theorem Ix9.grow8 {u : Value} {s : List Smp} (h : Ix9 w W0 K K5 KP b A1 A3 c1 c3 rows nts A9 m c9 sm) (g : So encSm 2 w K 81 u s) (hg : w.grownBy w' u.ownBlock) : Ix9 w' W0 K K5 KP b A1 A3 c1 c3 rows nts A9 m c9 sm :=
  have hw : K ≤ w.heap.size := Nat.le_trans h.kk h.bk
  have hb : Below K w w' := grown_belowE (Below.refl _ _) hg hw (fun _ e => (g.lt _ e).1)
  ⟨h.h9.keepO g (by decide) hg, h.ad.keepO g (by decide) (by decide) (by decide) (by decide) hg h.kp hw, h.bl.trans hb, Nat.le_trans h.bk hb.size, h.kk, h.kp, h.kb, h.rc⟩
theorem Ix9.grow9 (h : Ix9 w W0 K K5 KP b A1 A3 c1 c3 rows nts A9 m c9 sm) (hg : w.grownBy w' (Value.slice A9 m c9).ownBlock) {B9 : Option Addr} {m2 d9 : Nat} {s2 : List Smp} (hn : So encSm 2 w' K5 83 (.slice B9 m2 d9) s2) : Ix9 w' W0 K K5 KP b A1 A3 c1 c3 rows nts B9 m2 d9 s2 :=
  have hb : Below K5 w w' := grown_belowE (Below.refl _ _) hg h.bk (fun _ e => (h.h9.lt _ e).1)
  ⟨hn, ⟨h.ad.bx.grown hg (h.h9.nebox2 h.ad.bx (by decide)), ⟨h.ad.rg.so.keepO h.h9 (by decide) hg, fun p hp => (h.ad.rg.st p hp).below (hb.mono (Nat.le_trans h.kp h.kk)), fun p hp => (h.ad.rg.ce p hp).keepL h.h9 (h.rc p hp) hg⟩,
    ⟨h.ad.pw.so.keepO h.h9 (by decide) hg, fun p hp => (h.ad.pw.st p hp).below (hb.mono (Nat.le_trans h.kp h.kk))⟩⟩, h.bl.trans (hb.mono h.kk), Nat.le_trans h.bk hb.size, h.kk, h.kp, h.kb, h.rc⟩
theorem Ix9.note (h : Ix9 w W0 K K5 KP b A1 A3 c1 c3 rows nts A9 m c9 sm) {p : Pz} (hs : Lr w KP p.2.1 p.2.2 p.1.set) {A0 : Option Addr} {c0 : Nat} (hg : w.grownBy w' (Value.slice A3 nts.length c3).ownBlock) (hn : So encPz 8 w' K 65 (.slice A0 (nts.length + 1) c0) (nts ++ [p])) :
    Ix9 (w'.setCell ⟨b, 1, none⟩ (.slice A0 (nts.length + 1) c0)) W0 K K5 KP b A1 A0 c1 c0 rows (nts ++ [p]) A9 m c9 sm :=
  have hw : K ≤ w.heap.size := Nat.le_trans h.kk h.bk
  have hb : Below K w w' := grown_belowE (Below.refl _ _) hg hw (fun _ e => (h.ad.pw.so.lt _ e).1)
  have hb2 : Below K w (w'.setCell ⟨b, 1, none⟩ (.slice A0 (nts.length + 1) c0)) := hb.setCell (p := ⟨b, 1, none⟩) h.kb _
  have hx := h.ad.bx.grown hg (h.ad.pw.so.nebox2 h.ad.bx (by decide))
  have h9 := h.h9.keepO h.ad.pw.so (by decide) hg
  ⟨h9.keep (grown_set _ _ _ _) (h9.nebox hx (by decide)), h.ad.note hs hg hn h.kp hw (Nat.le_trans h.kp h.kb), h.bl.trans hb2, Nat.le_trans h.bk hb2.size, h.kk, h.kp, h.kb, h.rc⟩
theorem Ix9.note8 {u : Value} {s : List Smp} (h : Ix9 w W0 K K5 KP b A1 A3 c1 c3 rows nts A9 m c9 sm) (g : So encSm 2 w K 81 u s) (hg : w.grownBy w' (Value.slice A3 nts.length c3).ownBlock) (x : Value) : So encSm 2 (w'.setCell ⟨b, 1, none⟩ x) K 81 u s :=
  have hx := h.ad.bx.grown hg (h.ad.pw.so.nebox2 h.ad.bx (by decide))
  have h8 := g.keepO h.ad.pw.so (by decide) hg
  h8.keep (grown_set _ _ _ _) (h8.nebox hx (by decide))
end
/-- The inner loop. -/
structure In9 (q : Qr) (G : List Pt) (w W0 : World) (K K5 KP b : Nat) (A1 : Option Addr) (c1 : Nat) (rows : List Rz) (notes : List Pz) (i j y m : Nat) (sm : List Smp) (ns : List Pz) (A8 A9 A3 : Option Addr) (c8 c9 c3 : Nat) : Prop where
  hy : y = i + j
  hj : j ≤ firstN G
  s1 : sm = smpsQ q (G.take j)
  hm : sm.length = m
  lm : m ≤ j
  n1 : ns.map Prod.fst = notesQ q (G.take j)
  nl : ns.length ≤ j
  h8 : So encSm 2 w K 81 (.slice A8 m c8) sm
  ix : Ix9 w W0 K K5 KP b A1 A3 c1 c3 rows (notes ++ ns) A9 m c9 sm
section
variable {q : Qr} {G : List Pt} {w w' W0 : World} {K K5 KP b : Nat} {A1 : Option Addr} {c1 : Nat} {rows : List Rz} {notes : List Pz} {i j y m : Nat} {sm : List Smp} {ns : List Pz} {A8 A9 A3 : Option Addr} {c8 c9 c3 : Nat}
theorem In9.below (h : In9 q G w W0 K K5 KP b A1 c1 rows notes i j y m sm ns A8 A9 A3 c8 c9 c3) (hb : Below w.heap.size w w') : In9 q G w' W0 K K5 KP b A1 c1 rows notes i j y m sm ns A8 A9 A3 c8 c9 c3 :=
  ⟨h.hy, h.hj, h.s1, h.hm, h.lm, h.n1, h.nl, h.h8.below hb, h.ix.below hb⟩
theorem In9.skip (h : In9 q G w W0 K K5 KP b A1 c1 rows notes i j y m sm ns A8 A9 A3 c8 c9 c3) (hN : j < firstN G) (hG : j < G.length) {z : Pt} (hz : G[j] = z) (h1 : (inQ q z && (z.k == 1)) = false) (h2 : (inQ q z && ((z.k == 2) && q.nt)) = false) :
    In9 q G w W0 K K5 KP b A1 c1 rows notes i (j + 1) (y + 1) m sm ns A8 A9 A3 c8 c9 c3 :=
  ⟨by have := h.hy; omega, hN, by rw [smpsQ_next q hG, hz, h1, h.s1]; simp, h.hm, Nat.le_succ_of_le h.lm, by rw [notesQ_next q hG, hz, h2, h.n1]; simp, Nat.le_succ_of_le h.nl, h.h8, h.ix⟩
theorem In9.smp (h : In9 q G w W0 K K5 KP b A1 c1 rows notes i j y m sm ns A8 A9 A3 c8 c9 c3) (hN : j < firstN G) (hG : j < G.length) {z : Pt} (hz : G[j] = z) (h1 : inQ q z = true) (h2 : z.k = 1) {B8 B9 : Option Addr} {d8 d9 : Nat}
    (h8 : So encSm 2 w' K 81 (.slice B8 (m + 1) d8) (sm ++ [(z.t, z.n)])) (hx : Ix9 w' W0 K K5 KP b A1 A3 c1 c3 rows (notes ++ ns) B9 (m + 1) d9 (sm ++ [(z.t, z.n)])) :
    In9 q G w' W0 K K5 KP b A1 c1 rows notes i (j + 1) (y + 1) (m + 1) (sm ++ [(z.t, z.n)]) ns B8 B9 A3 d8 d9 c3 :=
  ⟨by have := h.hy; omega, hN, by rw [smpsQ_next q hG, hz, h1, h2, ← h.s1]; rfl, by rw [List.length_append, h.hm]; rfl, by have := h.lm; omega, by rw [notesQ_next q hG, hz, h1, h2, h.n1]; simp, Nat.le_succ_of_le h.nl, h8, hx⟩
theorem In9.note (h : In9 q G w W0 K K5 KP b A1 c1 rows notes i j y m sm ns A8 A9 A3 c8 c9 c3) (hN : j < firstN G) (hG : j < G.length) {z : Pz} (hz : G[j] = z.1) (h1 : inQ q z.1 = true) (h2 : z.1.k = 2) (h3 : q.nt = true) {A0 : Option Addr} {c0 : Nat}
    (h8 : So encSm 2 w' K 81 (.slice A8 m c8) sm) (hx : Ix9 w' W0 K K5 KP b A1 A0 c1 c0 rows (notes ++ ns ++ [z]) A9 m c9 sm) :
    In9 q G w' W0 K K5 KP b A1 c1 rows notes i (j + 1) (y + 1) m sm (ns ++ [z]) A8 A9 A0 c8 c9 c0 :=
  ⟨by have := h.hy; omega, hN, by rw [smpsQ_next q hG, hz, h1, h2, h.s1]; simp, h.hm, Nat.le_succ_of_le h.lm, by rw [notesQ_next q hG, hz, h1, h2, h3, List.map_append, h.n1]; rfl, by rw [List.length_append]; have := h.nl; simp; omega, h8, by rw [← List.append_assoc]; exact hx⟩
end
theorem setAt_take {G : List Pt} (h : 0 < G.length) : setAt (G.take (firstN G)) = setAt G := by
  have hp := firstN_pos (l := G) (by intro e; subst e; simp at h)
  cases G with
  | nil => simp at h
  | cons x r =>
    obtain ⟨n, hn⟩ : ∃ n, firstN (x :: r) = n + 1 := ⟨firstN (x :: r) - 1, by omega⟩
    rw [hn]
    rfl
theorem tg_next {q : Qr} {lp : List Pt} {f i : Nat} {rows : List Rowq} {notes : List Pt} {T : Int × List Rowq × List Pt} {X : List Rowq} {nsp : List Pt} {res : Int × List Rowq × List Pt} (h : (if T.1 ≠ 0 then (T.1, [], []) else qdocGo q lp f i (rows ++ T.2.1) (notes ++ T.2.2)) = res)
    (hT : T = (0, X, nsp)) : qdocGo q lp f i (rows ++ X) (notes ++ nsp) = res := by
  subst hT
  rw [if_neg (by simp)] at h
  exact h
theorem tg_err {q : Qr} {lp : List Pt} {f i : Nat} {rows : List Rowq} {notes : List Pt} {T : Int × List Rowq × List Pt} {er : Int} {res : Int × List Rowq × List Pt} (h : (if T.1 ≠ 0 then (T.1, [], []) else qdocGo q lp f i (rows ++ T.2.1) (notes ++ T.2.2)) = res)
    (hT : T = (er, [], [])) (he : er ≠ 0) : res = (er, [], []) := by
  subst hT
  rw [if_pos he] at h
  exact h.symm

/-- The statement that lays a row: what is known of each operation's value. -/
def HD (s : List Pp) (cells : List Smp) (SA : Option Addr) (sc : Nat) (CA : Option Addr) (cc K KP : Nat) (rows : List Rz) (B : Nat) : Vr → Value → World → Prop
  | .v x, u, _ => u = x
  | .cl, _, _ => True
  | .ag, _, _ => True
  | .li, u, w => ∃ g, u = .slice (some ⟨g, 0, none⟩) 1 1 ∧ B ≤ g ∧ w.heap[g]? = some (.cells #[.slice SA s.length sc, .slice CA cells.length cc] 87)
  | .ap, u, w => ∃ A c, u = .slice A (rows.length + 1) c ∧ KP ≤ w.heap.size ∧ Rd9 w K KP (.slice A (rows.length + 1) c) (rows ++ [((s, cells), (SA, sc), (CA, cc))])
section
variable {s : List Pp} {cells : List Smp} {SA CA : Option Addr} {sc cc K KP : Nat} {rows : List Rz} {B : Nat} {y : Vr} {u : Value} {w w' : World}
theorem HD.mono (h : HD s cells SA sc CA cc K KP rows B y u w) (hb : Below w.heap.size w w') : HD s cells SA sc CA cc K KP rows B y u w' := by
  cases y with
  | v x => exact h
  | cl => trivial
  | ag => trivial
  | li =>
    obtain ⟨g, e, hg, hc⟩ := h
    exact ⟨g, e, hg, (hb.block g (Array.getElem?_eq_some_iff.1 hc).1).trans hc⟩
  | ap => obtain ⟨A, c, e, hk, h⟩ := h; exact ⟨A, c, e, Nat.le_trans hk hb.size, h.below hb hk⟩
theorem HD.grown (hy : y.isAp = false) (h : HD s cells SA sc CA cc K KP rows B y u w) {v : Value} (hg : w.grownBy w' v.ownBlock) (hB : ∀ g, v.ownBlock = some g → g < B) : HD s cells SA sc CA cc K KP rows B y u w' := by
  cases y with
  | v x => exact h
  | cl => trivial
  | ag => trivial
  | li =>
    obtain ⟨g, e, hgB, hc⟩ := h
    refine ⟨g, e, hgB, (hg.block g (Array.getElem?_eq_some_iff.1 hc).1 fun e => ?_).trans hc⟩
    have := hB g e.symm
    omega
  | ap => cases hy
end
structure Gd (W0 : World) (fl : Bool) (wx : World) (K KP b : Nat) (A1 A2 : Option Addr) (c1 c2 : Nat) (pa : Addr) (SA : Option Addr) (sc : Nat) (CA : Option Addr) (cc : Nat) (s : List Pp) (cells : List Smp) (rows : List Rz) (notes : List Pz) : Prop where
  ls : Lr wx KP SA sc s
  pc : wx.cell? pa = some (.slice SA s.length sc)
  pb : pa.block < KP
  sz : W0.heap.size ≤ wx.heap.size
  bl : Below K W0 wx
  bx : Rwo wx b (ceA A1 A2 rows.length notes.length c1 c2) 42
  pw : Pd9 wx K KP (.slice A2 notes.length c2) notes
  ce : So encSm 2 wx K 83 (.slice CA cells.length cc) cells
  lt : ∀ g, (Value.slice A1 rows.length c1).ownBlock = some g → g < W0.heap.size
  hk : K ≤ W0.heap.size
  hp : KP ≤ K
  rg : fl = false → Rd9 wx K KP (.slice A1 rows.length c1) rows
def TellD (W0 wx : World) (K KP b : Nat) (A2 : Option Addr) (c2 : Nat) (SA : Option Addr) (sc : Nat) (CA : Option Addr) (cc : Nat) (s : List Pp) (cells : List Smp) (rows : List Rz) (notes : List Pz) : Prop :=
  ∃ A c, Ad9 wx K KP b A A2 c c2 (rows ++ [((s, cells), (SA, sc), (CA, cc))]) notes ∧ Below K W0 wx
section
variable {W0 wx wy : World} {fl : Bool} {K KP b c1 c2 sc cc : Nat} {A1 A2 SA CA : Option Addr} {pa : Addr} {s : List Pp} {cells : List Smp} {rows : List Rz} {notes : List Pz}
theorem Gd.hw (h : Gd W0 fl wx K KP b A1 A2 c1 c2 pa SA sc CA cc s cells rows notes) : KP ≤ wx.heap.size := Nat.le_trans h.hp (Nat.le_trans h.hk h.sz)
theorem Gd.below (h : Gd W0 fl wx K KP b A1 A2 c1 c2 pa SA sc CA cc s cells rows notes) (hb : Below wx.heap.size wx wy) : Gd W0 fl wy K KP b A1 A2 c1 c2 pa SA sc CA cc s cells rows notes :=
  ⟨h.ls.below (hb.mono h.hw), (hb.cell (Nat.lt_of_lt_of_le h.pb h.hw)).trans h.pc, h.pb, Nat.le_trans h.sz hb.size, h.bl.trans (hb.mono (Nat.le_trans h.hk h.sz)), h.bx.below hb, h.pw.below hb h.hw, h.ce.below hb, h.lt, h.hk, h.hp, fun e => (h.rg e).below hb h.hw⟩
theorem Gd.app (h : Gd W0 fl wx K KP b A1 A2 c1 c2 pa SA sc CA cc s cells rows notes) (hr : So encRz 2 wx K 87 (.slice A1 rows.length c1) rows) (hg : wx.grownBy wy (Value.slice A1 rows.length c1).ownBlock) : Gd W0 true wy K KP b A1 A2 c1 c2 pa SA sc CA cc s cells rows notes := by
  have hb : Below K wx wy := grown_belowE (Below.refl _ _) hg (Nat.le_trans h.hk h.sz) (fun _ e => (hr.lt _ e).1)
  exact ⟨h.ls.below (hb.mono h.hp), (hb.cell (Nat.lt_of_lt_of_le h.pb h.hp)).trans h.pc, h.pb, Nat.le_trans h.sz hb.size, h.bl.trans hb, h.bx.grown hg (hr.nebox2 h.bx (by decide)), h.pw.keepO hr (by decide) hg h.hp (Nat.le_trans h.hk h.sz), h.ce.keepO hr (by decide) hg, h.lt, h.hk, h.hp, fun e => by cases e⟩
theorem Gd.fin (h : Gd W0 fl wx K KP b A1 A2 c1 c2 pa SA sc CA cc s cells rows notes) (hKb : K ≤ b) {A : Option Addr} {c : Nat} (hr : Rd9 wx K KP (.slice A (rows.length + 1) c) (rows ++ [((s, cells), (SA, sc), (CA, cc))])) :
    TellD W0 (wx.setCell ⟨b, 0, none⟩ (.slice A (rows.length + 1) c)) K KP b A2 c2 SA sc CA cc s cells rows notes := by
  have hKP : KP ≤ b := Nat.le_trans h.hp hKb
  refine ⟨A, c, ⟨?_, ?_, h.pw.set h.bx hKP 0 _⟩, h.bl.setCell (p := ⟨b, 0, none⟩) hKb _⟩
  · have := h.bx.set 0 (.slice A (rows.length + 1) c)
    rw [List.length_append]
    exact this
  · have h3 := hr.set h.bx hKP 0 (.slice A (rows.length + 1) c)
    have hl : (rows ++ [((s, cells), (SA, sc), (CA, cc))]).length = rows.length + 1 := by rw [List.length_append]; rfl
    rw [hl]
    exact h3
end
end Go.Proofs.YtcfbcidakddhfaaGreatDoor
