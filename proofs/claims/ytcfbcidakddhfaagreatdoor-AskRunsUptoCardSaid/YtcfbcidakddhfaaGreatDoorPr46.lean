/- What AskSplits' statements know of their values; Run of points in own memory. -/
import Derived.Test.YtcfbcidakddhfaaGreatDoorPr45
import Derived.Test.YtcfbcidakddhfaaGreatDoorPr44
import Derived.Test.YtcfbcidakddhfaaGreatDoorPr8
import Derived.Test.YtcfbcidakddhfaaGreatDoorPr31
import Derived.Test.YtcfbcidakddhfaaGreatDoorPr9
namespace Go.Proofs.YtcfbcidakddhfaaGreatDoor
open Go.RowKit Go.BigFrame

/-- v is a row of the call's own of the document's rows: cells in own memory, sets below KP. -/
structure Rd9 (w : World) (K KP : Nat) (v : Value) (l : List Rz) : Prop where
  so : So encRz 2 w K 87 v l
  st : ∀ r ∈ l, Lr w KP r.2.1.1 r.2.1.2 r.1.1
  ce : ∀ r ∈ l, So encSm 2 w K 83 (.slice r.2.2.1 r.1.2.length r.2.2.2) r.1.2
/-- v is a row of the call's own of points, their sets below KP. -/
structure Pd9 (w : World) (K KP : Nat) (v : Value) (l : List Pz) : Prop where
  so : So encPz 8 w K 65 v l
  st : ∀ p ∈ l, Lr w KP p.2.1 p.2.2 p.1.set
section
variable {w w' : World} {K KP : Nat} {v v' : Value} {l : List Rz} {m : List Pz}
theorem Rd9.empty (w : World) (K KP : Nat) : Rd9 w K KP (.slice none 0 0) [] := ⟨So.empty _ _ _ _ _, (fun p hp => by cases hp), fun p hp => by cases hp⟩
theorem Pd9.empty (w : World) (K KP : Nat) : Pd9 w K KP (.slice none 0 0) [] := ⟨So.empty _ _ _ _ _, fun p hp => by cases hp⟩
theorem Rd9.below (h : Rd9 w K KP v l) (hb : Below w.heap.size w w') (hK : KP ≤ w.heap.size) : Rd9 w' K KP v l := ⟨h.so.below hb, fun p hp => (h.st p hp).below (hb.mono hK), fun p hp => (h.ce p hp).below hb⟩
theorem Pd9.below (h : Pd9 w K KP v m) (hb : Below w.heap.size w w') (hK : KP ≤ w.heap.size) : Pd9 w' K KP v m := ⟨h.so.below hb, fun p hp => (h.st p hp).below (hb.mono hK)⟩
/-- Another row of the call's own, of another type, has grown. -/
theorem Rd9.keepO {β : Type} {e2 : β → List Value} {k2 : Nat} {R : TypeId} {u : Value} {q : List β} (h : Rd9 w K KP v l) (g : So e2 k2 w K R u q) (h1 : 87 ≠ R) (h3 : 83 ≠ R) (hg : w.grownBy w' u.ownBlock) (hK : KP ≤ K) (hw : K ≤ w.heap.size) : Rd9 w' K KP v l :=
  have hb : Below K w w' := grown_belowE (Below.refl _ _) hg hw (fun _ e => (g.lt _ e).1)
  ⟨h.so.keepO g h1 hg, fun p hp => (h.st p hp).below (hb.mono hK), fun p hp => (h.ce p hp).keepO g h3 hg⟩
theorem Pd9.keepO {β : Type} {e2 : β → List Value} {k2 : Nat} {R : TypeId} {u : Value} {q : List β} (h : Pd9 w K KP v m) (g : So e2 k2 w K R u q) (h1 : 65 ≠ R) (hg : w.grownBy w' u.ownBlock) (hK : KP ≤ K) (hw : K ≤ w.heap.size) : Pd9 w' K KP v m :=
  have hb : Below K w w' := grown_belowE (Below.refl _ _) hg hw (fun _ e => (g.lt _ e).1)
  ⟨h.so.keepO g h1 hg, fun p hp => (h.st p hp).below (hb.mono hK)⟩
theorem Rd9.push (h : Rd9 w K KP v l) {r : Rz} (hs : Lr w KP r.2.1.1 r.2.1.2 r.1.1) (hc : So encSm 2 w K 83 (.slice r.2.2.1 r.1.2.length r.2.2.2) r.1.2) (hg : w.grownBy w' v.ownBlock) (hn : So encRz 2 w' K 87 v' (l ++ [r])) (hK : KP ≤ K) (hw : K ≤ w.heap.size) : Rd9 w' K KP v' (l ++ [r]) :=
  have hb : Below K w w' := grown_belowE (Below.refl _ _) hg hw (fun _ e => (h.so.lt _ e).1)
  ⟨hn, fun q hq => by
    rcases List.mem_append.1 hq with h1 | h1
    · exact (h.st q h1).below (hb.mono hK)
    · obtain rfl := List.mem_singleton.1 h1
      exact hs.below (hb.mono hK), fun q hq => by
    rcases List.mem_append.1 hq with h1 | h1
    · exact (h.ce q h1).keepO h.so (by decide) hg
    · obtain rfl := List.mem_singleton.1 h1
      exact hc.keepO h.so (by decide) hg⟩
theorem Pd9.push (h : Pd9 w K KP v m) {p : Pz} (hs : Lr w KP p.2.1 p.2.2 p.1.set) (hg : w.grownBy w' v.ownBlock) (hn : So encPz 8 w' K 65 v' (m ++ [p])) (hK : KP ≤ K) (hw : K ≤ w.heap.size) : Pd9 w' K KP v' (m ++ [p]) :=
  have hb : Below K w w' := grown_belowE (Below.refl _ _) hg hw (fun _ e => (h.so.lt _ e).1)
  ⟨hn, fun q hq => by
    rcases List.mem_append.1 hq with h1 | h1
    · exact (h.st q h1).below (hb.mono hK)
    · obtain rfl := List.mem_singleton.1 h1
      exact hs.below (hb.mono hK)⟩
theorem Rd9.set (h : Rd9 w K KP v l) {b : Nat} {cs : Array Value} (g : Rwo w b cs 42) (hKb : KP ≤ b) (i : Nat) (u : Value) : Rd9 (w.setCell ⟨b, i, none⟩ u) K KP v l :=
  ⟨h.so.keep (grown_set _ _ _ _) (h.so.nebox g (by decide)), fun p hp => (h.st p hp).below ((Below.refl _ _).setCell hKb _), fun p hp => (h.ce p hp).keep (grown_set _ _ _ _) ((h.ce p hp).nebox g (by decide))⟩
theorem Pd9.set (h : Pd9 w K KP v m) {b : Nat} {cs : Array Value} (g : Rwo w b cs 42) (hKb : KP ≤ b) (i : Nat) (u : Value) : Pd9 (w.setCell ⟨b, i, none⟩ u) K KP v m :=
  ⟨h.so.keep (grown_set _ _ _ _) (h.so.nebox g (by decide)), fun p hp => (h.st p hp).below ((Below.refl _ _).setCell hKb _)⟩
theorem Rd9.more (h : Rd9 w K KP v l) {K' : Nat} (hK : K' ≤ K) : Rd9 w K' KP v l := ⟨h.so.more hK, h.st, fun p hp => (h.ce p hp).more hK⟩
theorem Pd9.more (h : Pd9 w K KP v m) {K' : Nat} (hK : K' ≤ K) : Pd9 w K' KP v m := ⟨h.so.more hK, h.st⟩
theorem Rd9.rs {n cap : Nat} {A : Option Addr} (h : Rd9 w K KP (.slice A n cap) l) (hK : KP ≤ w.heap.size) : Rs9 w w.heap.size A cap l ∧ l.length = n :=
  ⟨⟨(So.sr encRz_len h.so).1, fun p hp => (h.st p hp).more hK, fun p hp => (So.sr encSm_len (h.ce p hp)).1⟩, (So.sr encRz_len h.so).2⟩
theorem Pd9.ps {n cap : Nat} {A : Option Addr} (h : Pd9 w K KP (.slice A n cap) m) (hK : KP ≤ w.heap.size) : Ps w w.heap.size A cap m ∧ m.length = n :=
  ⟨⟨(So.sr encPz_len h.so).1, fun p hp => (h.st p hp).more hK⟩, (So.sr encPz_len h.so).2⟩
end
/-- The document's answer in box b. -/
structure Ad9 (w : World) (K KP b : Nat) (A1 A2 : Option Addr) (c1 c2 : Nat) (rows : List Rz) (notes : List Pz) : Prop where
  bx : Rwo w b (ceA A1 A2 rows.length notes.length c1 c2) 42
  rg : Rd9 w K KP (.slice A1 rows.length c1) rows
  pw : Pd9 w K KP (.slice A2 notes.length c2) notes
section
variable {w w' : World} {K KP b c1 c2 : Nat} {A1 A2 : Option Addr} {rows : List Rz} {notes : List Pz}
theorem Ad9.below (h : Ad9 w K KP b A1 A2 c1 c2 rows notes) (hb : Below w.heap.size w w') (hK : KP ≤ w.heap.size) : Ad9 w' K KP b A1 A2 c1 c2 rows notes := ⟨h.bx.below hb, h.rg.below hb hK, h.pw.below hb hK⟩
theorem Ad9.keepO {β : Type} {e2 : β → List Value} {k2 : Nat} {R : TypeId} {u : Value} {q : List β} (h : Ad9 w K KP b A1 A2 c1 c2 rows notes) (g : So e2 k2 w K R u q) (h1 : 87 ≠ R) (h2 : 65 ≠ R) (h3 : 83 ≠ R) (h4 : R ≠ 42) (hg : w.grownBy w' u.ownBlock) (hK : KP ≤ K) (hw : K ≤ w.heap.size) : Ad9 w' K KP b A1 A2 c1 c2 rows notes :=
  ⟨h.bx.grown hg (g.nebox2 h.bx h4), h.rg.keepO g h1 h3 hg hK hw, h.pw.keepO g h2 hg hK hw⟩
/-- A note more: appended, and laid into the box. -/
theorem Ad9.note (h : Ad9 w K KP b A1 A2 c1 c2 rows notes) {p : Pz} (hs : Lr w KP p.2.1 p.2.2 p.1.set) {A9 : Option Addr} {c9 : Nat} (hg : w.grownBy w' (Value.slice A2 notes.length c2).ownBlock) (hn : So encPz 8 w' K 65 (.slice A9 (notes.length + 1) c9) (notes ++ [p])) (hK : KP ≤ K) (hw : K ≤ w.heap.size) (hKb : KP ≤ b) :
    Ad9 (w'.setCell ⟨b, 1, none⟩ (.slice A9 (notes.length + 1) c9)) K KP b A1 A9 c1 c9 rows (notes ++ [p]) := by
  have hb := h.bx.grown hg (h.pw.so.nebox2 h.bx (by decide))
  have hr := h.rg.keepO h.pw.so (by decide) (by decide) hg hK hw
  have hp := h.pw.push hs hg hn hK hw
  have hl : (notes ++ [p]).length = notes.length + 1 := by rw [List.length_append]; rfl
  refine ⟨?_, hr.set hb hKb 1 _, ?_⟩
  · rw [hl]; exact hb.set 1 _
  · rw [hl]; exact hp.set hb hKb 1 _
end
end Go.Proofs.YtcfbcidakddhfaaGreatDoor
namespace Go.Proofs.YtcfbcidakddhfaaGreatDoor
open Go.RowKit Go.BigFrame

/-- A point that is small enough. -/
def PtOk (p : Pt) : Prop := p.set.length ≤ 1048576 ∧ Sm p.set ∧ Pok p
theorem undDP : Tryz.prog.underlying 25 = some (.slice (Tryz.prog.elem 25)) := by kernel_rfl
theorem szDP (w : World) : (sizeOf (Tryz.prog.elem 25)).run Tryz.prog w = .ok 8 w := by kernel_rfl
/-- An answer's rows and notes. -/
structure An0 (q : Qr) (lq : List Pt) (w : World) (B : Nat) (A1 A2 : Option Addr) (c1 c2 : Nat) (rs : List Rz) (ns : List Pz) : Prop where
  r : rs.map Prod.fst = (runQ q lq).2.1
  n : ns.map Prod.fst = (runQ q lq).2.2
  rg : Rg w B (.slice A1 rs.length c1) rs
  pw : Pw w B 52 54 (.slice A2 ns.length c2) ns
section
variable {q : Qr} {lq : List Pt} {w w' : World} {B c1 c2 : Nat} {A1 A2 : Option Addr} {rs : List Rz} {ns : List Pz}
theorem An0.below (h : An0 q lq w B A1 A2 c1 c2 rs ns) (hb : Below w.heap.size w w') : An0 q lq w' B A1 A2 c1 c2 rs ns := ⟨h.r, h.n, h.rg.below hb, h.pw.below hb⟩
theorem An0.set (h : An0 q lq w B A1 A2 c1 c2 rs ns) {b : Nat} {cs : Array Value} (g : Rwo w b cs 30) (i : Nat) (u : Value) : An0 q lq (w.setCell ⟨b, i, none⟩ u) B A1 A2 c1 c2 rs ns := ⟨h.r, h.n, h.rg.set g i u, h.pw.setA g i u⟩
theorem An0.more (h : An0 q lq w B A1 A2 c1 c2 rs ns) {B' : Nat} (hB : B' ≤ B) : An0 q lq w B' A1 A2 c1 c2 rs ns := ⟨h.r, h.n, h.rg.more hB, h.pw.more hB⟩
end
inductive Vl where
  | v (x : Value)
  | q
  | pz
  | rn
  | an
/-- What is known of a value. -/
def HL (q : Qr) (lq : List Pt) (B : Nat) : Vl → Value → World → Prop
  | .v x, u, _ => u = x
  | .q, u, w => ∃ A c, u = qv q A c ∧ Ra w B (.slice A q.rs.length c) q.rs
  | .pz, u, w => ∃ A c lz, u = .slice A lq.length c ∧ lz.map Prod.fst = lq ∧ Pw w B 52 54 (.slice A lq.length c) lz
  | .rn, u, w => ∃ A1 A2 c1 c2 rs ns, u = .tuple #[.agg #[.slice A1 rs.length c1, .slice A2 ns.length c2], .int .i64 (runQ q lq).1] ∧ An0 q lq w B A1 A2 c1 c2 rs ns
  | .an, u, w => ∃ A1 A2 c1 c2 rs ns, u = .agg #[.slice A1 rs.length c1, .slice A2 ns.length c2] ∧ An0 q lq w B A1 A2 c1 c2 rs ns
def Zx (B g : Nat) (w : World) : Prop := B ≤ g ∧ Rwo w g (ceA none none 0 0 0 0) 30
/-- Box g holds an answer that is the value u. -/
def Bx9 (q : Qr) (lq : List Pt) (B : Nat) (u : Value) (g : Nat) (w : World) : Prop :=
  ∃ A1 A2 c1 c2 rs ns, u = .agg #[.slice A1 rs.length c1, .slice A2 ns.length c2] ∧ B ≤ g ∧ Rwo w g (ceA A1 A2 rs.length ns.length c1 c2) 30 ∧ An0 q lq w B A1 A2 c1 c2 rs ns
/-- Box g holds an answer. -/
def Bo9 (q : Qr) (lq : List Pt) (B g : Nat) (w : World) : Prop :=
  ∃ A1 A2 c1 c2 rs ns, B ≤ g ∧ Rwo w g (ceA A1 A2 rs.length ns.length c1 c2) 30 ∧ An0 q lq w B A1 A2 c1 c2 rs ns
section
variable {q : Qr} {lq : List Pt} {w w' : World} {B g : Nat} {u : Value} {y : Vl}
theorem HL.mono (h : HL q lq B y u w) (hb : Below w.heap.size w w') : HL q lq B y u w' := by
  cases y with
  | v x => exact h
  | q => obtain ⟨A, c, e, r⟩ := h; exact ⟨A, c, e, So.below r hb⟩
  | pz => obtain ⟨A, c, lz, e, f, r⟩ := h; exact ⟨A, c, lz, e, f, r.below hb⟩
  | rn => obtain ⟨A1, A2, c1, c2, rs, ns, e, r⟩ := h; exact ⟨A1, A2, c1, c2, rs, ns, e, r.below hb⟩
  | an => obtain ⟨A1, A2, c1, c2, rs, ns, e, r⟩ := h; exact ⟨A1, A2, c1, c2, rs, ns, e, r.below hb⟩
theorem HL.set (h : HL q lq B y u w) {b : Nat} {cs : Array Value} (g : Rwo w b cs 30) (i : Nat) (x : Value) : HL q lq B y u (w.setCell ⟨b, i, none⟩ x) := by
  cases y with
  | v x => exact h
  | q => obtain ⟨A, c, e, r⟩ := h; exact ⟨A, c, e, So.keep r (grown_set _ _ _ _) (So.nebox r g (by decide))⟩
  | pz => obtain ⟨A, c, lz, e, f, r⟩ := h; exact ⟨A, c, lz, e, f, r.setA g i x⟩
  | rn => obtain ⟨A1, A2, c1, c2, rs, ns, e, r⟩ := h; exact ⟨A1, A2, c1, c2, rs, ns, e, r.set g i x⟩
  | an => obtain ⟨A1, A2, c1, c2, rs, ns, e, r⟩ := h; exact ⟨A1, A2, c1, c2, rs, ns, e, r.set g i x⟩
theorem Zx.mono (h : Zx B g w) (hb : Below w.heap.size w w') : Zx B g w' := ⟨h.1, h.2.below hb⟩
theorem Bx9.mono (h : Bx9 q lq B u g w) (hb : Below w.heap.size w w') : Bx9 q lq B u g w' := by
  obtain ⟨A1, A2, c1, c2, rs, ns, e, hg, hr, ha⟩ := h
  exact ⟨A1, A2, c1, c2, rs, ns, e, hg, hr.below hb, ha.below hb⟩
theorem Bx9.o (h : Bx9 q lq B u g w) : Bo9 q lq B g w := by
  obtain ⟨A1, A2, c1, c2, rs, ns, _, hg, hr, ha⟩ := h
  exact ⟨A1, A2, c1, c2, rs, ns, hg, hr, ha⟩
theorem Bo9.below (h : Bo9 q lq B g w) (hb : Below w.heap.size w w') : Bo9 q lq B g w' := by
  obtain ⟨A1, A2, c1, c2, rs, ns, hg, hr, ha⟩ := h
  exact ⟨A1, A2, c1, c2, rs, ns, hg, hr.below hb, ha.below hb⟩
end
/-- The program's Run of points in own memory. -/
theorem runZ_any {q : Qr} {A A2 : Option Addr} {c c2 B : Nat} {lq : List Pt} {lz : List Pz} (w : World) (hz : lz.map Prod.fst = lq) (hp : Pw w B 52 54 (.slice A2 lq.length c2) lz) (hr : Ra w B (.slice A q.rs.length c) q.rs)
    (hS : SmR q.rs) (hm : Mx w) (h2 : q.st ≤ 9223372036854775807) (hl : lq.length ≤ 1048576) (hok : ∀ p ∈ lq, PtOk p) :
    Calls Tryz.prog 5 #[qv q A c, .slice A2 lq.length c2] w (RunP q w lq) := by
  subst hz
  have hml : (lz.map Prod.fst).length = lz.length := List.length_map _
  have h1 : ∀ x ∈ lz, PtOk x.1 := fun x hx => hok _ (List.mem_map.2 ⟨x, hx, rfl⟩)
  rw [hml] at hl
  exact run_any w.heap.size w.heap.size A2 _ c2 lz w hml.symm hp.ps.1 (Nat.le_refl _) (So.sr encR_len hr).1 (Nat.le_refl _) hS hm h2 hl (fun x hx => ⟨(h1 x hx).1, (h1 x hx).2.1⟩) (fun x hx => (h1 x hx).2.2)
/-- What Run gives, of a value. -/
theorem RunP.h {q : Qr} {w w' : World} {lq : List Pt} {e : Ending} {B : Nat} (h : RunP q w lq e w') (hB : B ≤ w.heap.size) : ∃ v, e = .returned v ∧ HL q lq B .rn v w' ∧ Below w.heap.size w w' := by
  obtain ⟨A1, A2, c1, c2, rs, ns, e, h1, h2, h3, h4, h5⟩ := h
  exact ⟨_, e, ⟨A1, A2, c1, c2, rs, ns, rfl, h1, h2, h3.more hB, h4.more hB⟩, h5⟩
/-- Is there nothing to be asked? -/
def skipB (lp : List Pt) (a : Int) : Bool := decide (200 < lp.length) || !orderB lp || decide (a < 0) || decide ((lp.length : Int) < a) || (decide (0 < a) && decide (a < lp.length) && (cmpL (lp.getD (a.toNat - 1) default).set (lp.getD a.toNat default).set == 0))
end Go.Proofs.YtcfbcidakddhfaaGreatDoor
