/- What AskSplits' statements know of their values; Run of points in own memory. -/
import Derived.Test.YtjhjcmjkmkllhaaGreatDoorPq47
import Derived.Test.YtjhjcmjkmkllhaaGreatDoorPq46
import Derived.Test.YtjhjcmjkmkllhaaGreatDoorPq33
import Derived.Test.YtjhjcmjkmkllhaaGreatDoorPq9
namespace Go.Proofs.YtjhjcmjkmkllhaaGreatDoor
open Go.RowKit Go.BigFrame

/-- A point that is small enough. -/
def PtOk (p : Pt) : Prop := p.set.length ≤ 1048576 ∧ Sm p.set ∧ Pok p
theorem undDP : Tryz.prog.underlying 25 = some (.slice (Tryz.prog.elem 25)) := by kernel_rfl
theorem szDP (w : World) : (sizeOf (Tryz.prog.elem 25)).run Tryz.prog w = .ok 8 w := by kernel_rfl
/-- An answer's rows and notes. -/
structure An0 (q : Qr) (lq : List Pt) (w : World) (B : Nat) (A1 A2 : Option Addr) (c1 c2 : Nat) (rs : List Rz) (ns : List Pz) : Prop where
  r : rs.map Prod.fst = (runQ q lq).2.1
  n : ns.map Prod.fst = (runQ q lq).2.2
  rg : Rg w B (.slice A1 rs.length c1) rs
  pw : Pw w B 52 54 (.slice A2 ns.length c2) ns
section
variable {q : Qr} {lq : List Pt} {w w' : World} {B c1 c2 : Nat} {A1 A2 : Option Addr} {rs : List Rz} {ns : List Pz}
theorem An0.below (h : An0 q lq w B A1 A2 c1 c2 rs ns) (hb : Below w.heap.size w w') : An0 q lq w' B A1 A2 c1 c2 rs ns := ⟨h.r, h.n, h.rg.below hb, h.pw.below hb⟩
theorem An0.set (h : An0 q lq w B A1 A2 c1 c2 rs ns) {b : Nat} {cs : Array Value} (g : Rwo w b cs 30) (i : Nat) (u : Value) : An0 q lq (w.setCell ⟨b, i, none⟩ u) B A1 A2 c1 c2 rs ns := ⟨h.r, h.n, h.rg.set g i u, h.pw.setA g i u⟩
theorem An0.more (h : An0 q lq w B A1 A2 c1 c2 rs ns) {B' : Nat} (hB : B' ≤ B) : An0 q lq w B' A1 A2 c1 c2 rs ns := ⟨h.r, h.n, h.rg.more hB, h.pw.more hB⟩
end
inductive Vl where
  | v (x : Value)
  | q
  | pz
  | rn
  | an
/-- What is known of a value. -/
def HL (q : Qr) (lq : List Pt) (B : Nat) : Vl → Value → World → Prop
  | .v x, u, _ => u = x
  | .q, u, w => ∃ A c, u = qv q A c ∧ Ra w B (.slice A q.rs.length c) q.rs
  | .pz, u, w => ∃ A c lz, u = .slice A lq.length c ∧ lz.map Prod.fst = lq ∧ Pw w B 52 54 (.slice A lq.length c) lz
  | .rn, u, w => ∃ A1 A2 c1 c2 rs ns, u = .tuple #[.agg #[.slice A1 rs.length c1, .slice A2 ns.length c2], .int .i64 (runQ q lq).1] ∧ An0 q lq w B A1 A2 c1 c2 rs ns
  | .an, u, w => ∃ A1 A2 c1 c2 rs ns, u = .agg #[.slice A1 rs.length c1, .slice A2 ns.length c2] ∧ An0 q lq w B A1 A2 c1 c2 rs ns
def Zx (B g : Nat) (w : World) : Prop := B ≤ g ∧ Rwo w g (ceA none none 0 0 0 0) 30
/-- Box g holds an answer that is the value u. -/
def Bx9 (q : Qr) (lq : List Pt) (B : Nat) (u : Value) (g : Nat) (w : World) : Prop :=
  ∃ A1 A2 c1 c2 rs ns, u = .agg #[.slice A1 rs.length c1, .slice A2 ns.length c2] ∧ B ≤ g ∧ Rwo w g (ceA A1 A2 rs.length ns.length c1 c2) 30 ∧ An0 q lq w B A1 A2 c1 c2 rs ns
/-- Box g holds an answer. -/
def Bo9 (q : Qr) (lq : List Pt) (B g : Nat) (w : World) : Prop :=
  ∃ A1 A2 c1 c2 rs ns, B ≤ g ∧ Rwo w g (ceA A1 A2 rs.length ns.length c1 c2) 30 ∧ An0 q lq w B A1 A2 c1 c2 rs ns
section
variable {q : Qr} {lq : List Pt} {w w' : World} {B g : Nat} {u : Value} {y : Vl}
theorem HL.mono (h : HL q lq B y u w) (hb : Below w.heap.size w w') : HL q lq B y u w' := by
  cases y with
  | v x => exact h
  | q => obtain ⟨A, c, e, r⟩ := h; exact ⟨A, c, e, So.below r hb⟩
  | pz => obtain ⟨A, c, lz, e, f, r⟩ := h; exact ⟨A, c, lz, e, f, r.below hb⟩
  | rn => obtain ⟨A1, A2, c1, c2, rs, ns, e, r⟩ := h; exact ⟨A1, A2, c1, c2, rs, ns, e, r.below hb⟩
  | an => obtain ⟨A1, A2, c1, c2, rs, ns, e, r⟩ := h; exact ⟨A1, A2, c1, c2, rs, ns, e, r.below hb⟩
theorem HL.set (h : HL q lq B y u w) {b : Nat} {cs : Array Value} (g : Rwo w b cs 30) (i : Nat) (x : Value) : HL q lq B y u (w.setCell ⟨b, i, none⟩ x) := by
  cases y with
  | v x => exact h
  | q => obtain ⟨A, c, e, r⟩ := h; exact ⟨A, c, e, So.keep r (grown_set _ _ _ _) (So.nebox r g (by decide))⟩
  | pz => obtain ⟨A, c, lz, e, f, r⟩ := h; exact ⟨A, c, lz, e, f, r.setA g i x⟩
  | rn => obtain ⟨A1, A2, c1, c2, rs, ns, e, r⟩ := h; exact ⟨A1, A2, c1, c2, rs, ns, e, r.set g i x⟩
  | an => obtain ⟨A1, A2, c1, c2, rs, ns, e, r⟩ := h; exact ⟨A1, A2, c1, c2, rs, ns, e, r.set g i x⟩
theorem Zx.mono (h : Zx B g w) (hb : Below w.heap.size w w') : Zx B g w' := ⟨h.1, h.2.below hb⟩
theorem Bx9.mono (h : Bx9 q lq B u g w) (hb : Below w.heap.size w w') : Bx9 q lq B u g w' := by
  obtain ⟨A1, A2, c1, c2, rs, ns, e, hg, hr, ha⟩ := h
  exact ⟨A1, A2, c1, c2, rs, ns, e, hg, hr.below hb, ha.below hb⟩
theorem Bx9.o (h : Bx9 q lq B u g w) : Bo9 q lq B g w := by
  obtain ⟨A1, A2, c1, c2, rs, ns, _, hg, hr, ha⟩ := h
  exact ⟨A1, A2, c1, c2, rs, ns, hg, hr, ha⟩
theorem Bo9.below (h : Bo9 q lq B g w) (hb : Below w.heap.size w w') : Bo9 q lq B g w' := by
  obtain ⟨A1, A2, c1, c2, rs, ns, hg, hr, ha⟩ := h
  exact ⟨A1, A2, c1, c2, rs, ns, hg, hr.below hb, ha.below hb⟩
end
/-- The program's Run of points in own memory. -/
theorem runZ_any {q : Qr} {A A2 : Option Addr} {c c2 B : Nat} {lq : List Pt} {lz : List Pz} (w : World) (hz : lz.map Prod.fst = lq) (hp : Pw w B 52 54 (.slice A2 lq.length c2) lz) (hr : Ra w B (.slice A q.rs.length c) q.rs)
    (hS : SmR q.rs) (hm : Mx w) (h2 : q.st ≤ 9223372036854775807) (hl : lq.length ≤ 1048576) (hok : ∀ p ∈ lq, PtOk p) :
    Calls Tryz.prog 6 #[qv q A c, .slice A2 lq.length c2] w (RunP q w lq) := by
  subst hz
  have hml : (lz.map Prod.fst).length = lz.length := List.length_map _
  have h1 : ∀ x ∈ lz, PtOk x.1 := fun x hx => hok _ (List.mem_map.2 ⟨x, hx, rfl⟩)
  rw [hml] at hl
  exact run_any w.heap.size w.heap.size A2 _ c2 lz w hml.symm hp.ps.1 (Nat.le_refl _) (So.sr encR_len hr).1 (Nat.le_refl _) hS hm h2 hl (fun x hx => ⟨(h1 x hx).1, (h1 x hx).2.1⟩) (fun x hx => (h1 x hx).2.2)
/-- What Run gives, of a value. -/
theorem RunP.h {q : Qr} {w w' : World} {lq : List Pt} {e : Ending} {B : Nat} (h : RunP q w lq e w') (hB : B ≤ w.heap.size) : ∃ v, e = .returned v ∧ HL q lq B .rn v w' ∧ Below w.heap.size w w' := by
  obtain ⟨A1, A2, c1, c2, rs, ns, e, h1, h2, h3, h4, h5⟩ := h
  exact ⟨_, e, ⟨A1, A2, c1, c2, rs, ns, rfl, h1, h2, h3.more hB, h4.more hB⟩, h5⟩
/-- Is there nothing to be asked? -/
def skipB (lp : List Pt) (a : Int) : Bool := decide (200 < lp.length) || !orderB lp || decide (a < 0) || decide ((lp.length : Int) < a) || (decide (0 < a) && decide (a < lp.length) && (cmpL (lp.getD (a.toNat - 1) default).set (lp.getD a.toNat default).set == 0))
end Go.Proofs.YtjhjcmjkmkllhaaGreatDoor
