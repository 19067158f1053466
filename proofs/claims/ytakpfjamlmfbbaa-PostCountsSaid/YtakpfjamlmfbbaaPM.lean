/- A post in memory: its messages, its channel of places. -/
import Derived.Test.YtakpfjamlmfbbaaPEnt
import Derived.Test.YtakpfjamlmfbbaaEl2
import Derived.Test.YtakpfjamlmfbbaaTn
import Derived.Test.YtakpfjamlmfbbaaSCl
import Derived.Laws.Alloc2
namespace Go.Proofs.Ytakpfjamlmfbbaa
open Go.RowKit Go.Conc

structure Mg where
  f : Int
  t : Int
  A : Option Addr
  n : Nat
  c : Nat
def encM (x : Mg) : List Value := [.int .i64 x.f, .int .i64 x.t, .slice x.A x.n x.c]
abbrev aggM (x : Mg) : Value := .agg #[.int .i64 x.f, .int .i64 x.t, .slice x.A x.n x.c]
theorem encM_length (x : Mg) : (encM x).length = 3 := rfl
theorem encM_one (x : Mg) : ∀ u ∈ encM x, u.oneCell' = true := by
  intro u hu
  simp [encM] at hu
  rcases hu with rfl | rfl | rfl <;> rfl
theorem info_msg : (Try.prog.info? 36).map (fun i => (i.zero, i.size, i.bytes)) = some (some (.agg #[.int .i64 0, .int .i64 0, .slice none 0 0]), 3, 40) := by kernel_rfl

/-- A slice that was appended to is where it was, or new. -/
def OwnOr (w : World) (v v' : Value) : Prop := v'.ownBlock = v.ownBlock ∨ ∃ j, v'.ownBlock = some j ∧ w.heap.size ≤ j
theorem OwnOr.refl (w : World) (v : Value) : OwnOr w v v := .inl rfl
theorem OwnOr.trans {w w1 : World} {v v1 v2 : Value} (h : OwnOr w v v1) (h2 : OwnOr w1 v1 v2) (hz : w.heap.size ≤ w1.heap.size) : OwnOr w v v2 := by
  rcases h2 with e | ⟨j, e, hj⟩
  · rcases h with e' | ⟨i, e', hi⟩
    · exact .inl (e.trans e')
    · exact .inr ⟨i, e.trans e', hi⟩
  · exact .inr ⟨j, e, Nat.le_trans hz hj⟩
/-- A message's body reads as the bytes b, in a block that is none of the bad ones. -/
structure Bdy (w : World) (bad : Nat → Prop) (m : Mg) (b : List UInt8) : Prop where
  n : m.n = b.length
  bs : Bs w w.heap.size m.A m.c b
  ok : 0 < b.length → ∀ ad : Addr, m.A = some ad → ¬ bad ad.block
/-- What a post's methods turn: the post's block, its channel's, its slice's. -/
def TP (p ch : Nat) (v : Value) : Nat → Prop := fun k => k = p ∨ k = ch ∨ v.ownBlock = some k
structure Po (w : World) (K p ch room : Nat) (v : Value) (l : List Mg) (B : List (List UInt8)) : Prop where
  c0 : w.cell? ⟨p, 0, none⟩ = some (.chan (some ch))
  c1 : w.cell? ⟨p, 1, none⟩ = some v
  f1 : w.frozen? ⟨p, 1, none⟩ = false
  chan : ∃ buf s r, w.heap[ch]? = some (.chan room buf false s r false) ∧ buf.size = l.length
  le : l.length ≤ room
  so : So encM 3 w K 36 v l
  np : v.ownBlock ≠ some p
  nc : v.ownBlock ≠ some ch
  pc : p ≠ ch
  kp : K ≤ p
  kc : K ≤ ch
  len : B.length = l.length
  bd : ∀ (i : Nat) (m : Mg) (b : List UInt8), l[i]? = some m → B[i]? = some b → Bdy w (TP p ch v) m b

section
variable {P Q : Nat → Prop} {w w' : World} {K p ch room : Nat} {v v' : Value} {l : List Mg} {B : List (List UInt8)}
theorem Po.lt (h : Po w K p ch room v l B) : p < w.heap.size := World.block_lt_of_cell? w _ h.c0
theorem Po.ltc (h : Po w K p ch room v l B) : ch < w.heap.size := by
  obtain ⟨buf, s, r, hc, _⟩ := h.chan
  rcases Nat.lt_or_ge ch w.heap.size with h1 | h1
  · exact h1
  · rw [Array.getElem?_eq_none h1] at hc; cases hc
theorem Tn.so {α : Type} {enc : α → List Value} {k : Nat} {T : TypeId} {l : List α} (h : Tn P w w') (ho : So enc k w K T v l) (hn : ∀ g, v.ownBlock = some g → ¬ P g) : So enc k w' K T v l := by
  have hlt := ho.lt
  rcases ho.2 with ⟨he, h0⟩ | ⟨g, cap', cur, he, hb, hg, hrest⟩
  · exact ⟨ho.1, .inl ⟨he, h0⟩⟩
  · subst he
    exact ⟨ho.1, .inr ⟨g, cap', cur, rfl, hb, (h.block g (hlt g rfl).2 (hn g rfl)).trans hg, hrest⟩⟩
theorem Bdy.tn {bad : Nat → Prop} {m : Mg} {b : List UInt8} (hb : Bdy w bad m b) (h : Tn P w w') (hn : 0 < b.length → ∀ ad : Addr, m.A = some ad → ¬ P ad.block) : Bdy w' bad m b :=
  ⟨hb.n, (h.bs hb.bs hn).more h.size, hb.ok⟩
theorem Bdy.bad {bad bad' : Nat → Prop} {m : Mg} {b : List UInt8} (hb : Bdy w bad m b) (hn : 0 < b.length → ∀ ad : Addr, m.A = some ad → ¬ bad' ad.block) : Bdy w bad' m b := ⟨hb.n, hb.bs, hn⟩
/-- What turned other blocks leaves the post as it was. -/
theorem Po.tn (h : Po w K p ch room v l B) (t : Tn P w w') (hn : ∀ k, TP p ch v k → ¬ P k) (hb : ∀ (i : Nat) (m : Mg) (b : List UInt8), l[i]? = some m → B[i]? = some b → 0 < b.length → ∀ ad : Addr, m.A = some ad → ¬ P ad.block) : Po w' K p ch room v l B where
  c0 := t.cell h.c0 (hn p (.inl rfl))
  c1 := t.cell h.c1 (hn p (.inl rfl))
  f1 := (t.frozen (p := ⟨p, 1, none⟩) h.lt (hn p (.inl rfl))).trans h.f1
  chan := by
    obtain ⟨buf, s, r, hc, hs⟩ := h.chan
    exact ⟨buf, s, r, (t.block ch h.ltc (hn ch (.inr (.inl rfl)))).trans hc, hs⟩
  le := h.le
  so := t.so h.so fun g hg => hn g (.inr (.inr hg))
  np := h.np
  nc := h.nc
  pc := h.pc
  kp := h.kp
  kc := h.kc
  len := h.len
  bd := fun i m b hm hB => (h.bd i m b hm hB).tn t (hb i m b hm hB)
theorem Po.below (h : Po w K p ch room v l B) (hb : Below w.heap.size w w') : Po w' K p ch room v l B :=
  h.tn (Tn.ofNew (P := fun _ => False) hb) (fun _ _ h => h) (fun _ _ _ _ _ _ _ _ h => h)
theorem Po.alloc (h : Po w K p ch room v l B) (o : Obj) : Po (w.alloc o) K p ch room v l B := h.below ((Below.refl _ _).alloc (Nat.le_refl _) _)
theorem Tn.setChan (w : World) (c cap : Nat) (buf : Array Value) (cl : Bool) (s r : Nat) (tm : Bool) : Tn (· = c) w (w.setChan c cap buf cl s r tm) :=
  ⟨rfl, rfl, rfl, by simp [World.setChan], fun k _ hn => by simp only [World.setChan]; rw [Array.getElem?_setIfInBounds_ne (fun e => hn e.symm)]⟩
theorem Bdy.lt {bad : Nat → Prop} {m : Mg} {b : List UInt8} (h : Bdy w bad m b) (hl : 0 < b.length) {ad : Addr} (e : m.A = some ad) : ad.block < w.heap.size := by
  obtain ⟨ad', e', hlt, _⟩ := h.bs.at_ hl
  rw [e] at e'; cases e'; exact hlt

/-- What the sending of a message leaves. -/
theorem Po.sent {w1 w2 w3 : World} {v3 : Value} {x : Mg} {b : List UInt8} {buf : Array Value} {s r : Nat} (h : Po w K p ch room v l B) (hroom : l.length < room)
    (t1 : Tn (· = ch) w w1) (hc : w1.heap[ch]? = some (.chan room buf false s r false)) (hbuf : buf.size = l.length + 1)
    (t2 : Below w1.heap.size w1 w2) (hn : x.n = b.length) (hob : Bs w2 w2.heap.size x.A x.c b) (hnew : 0 < b.length → ∀ ad : Addr, x.A = some ad → w.heap.size ≤ ad.block)
    (so3 : So encM 3 w3 K 36 v3 (l ++ [x])) (g3 : w2.grownBy w3 v.ownBlock) (o3 : OwnOr w2 v v3) :
    Po (w3.setCell ⟨p, 1, none⟩ v3) K p ch room v3 (l ++ [x]) (B ++ [b]) ∧ Tn (TP p ch v) w (w3.setCell ⟨p, 1, none⟩ v3) ∧ OwnOr w v v3 := by
  have T12 : Tn (TP p ch v) w w2 := (t1.mono (Q := TP p ch v) fun k _ e => .inr (.inl e)).thenQ (Tn.ofNew (P := fun _ => False) t2) (fun _ _ h => h.elim)
  have T13 : Tn (TP p ch v) w w3 := T12.thenQ (Tn.ofGrown g3) (fun k _ e => .inr (.inr e.symm))
  have z1 := t1.size
  have z2 := t2.size
  have z3 := g3.size
  have hp := h.lt
  have hch := h.ltc
  have oo : OwnOr w v v3 := o3.imp id fun ⟨j, e, hj⟩ => ⟨j, e, by omega⟩
  have np3 : v3.ownBlock ≠ some p := by
    rcases o3 with e | ⟨j, e, hj⟩
    · rw [e]; exact h.np
    · rw [e]; intro e2; injection e2 with e2; omega
  have nc3 : v3.ownBlock ≠ some ch := by
    rcases o3 with e | ⟨j, e, hj⟩
    · rw [e]; exact h.nc
    · rw [e]; intro e2; injection e2 with e2; omega
  have tS := Tn.setCell w3 p 1 v3
  have T : Tn (TP p ch v) w (w3.setCell ⟨p, 1, none⟩ v3) := T13.thenQ tS fun k _ e => .inl e
  have npc : ∀ k, ¬ k = p → ¬ k = ch → ¬ v.ownBlock = some k → ¬ TP p ch v k := fun k h1 h2 h3 h4 => h4.elim h1 fun h4 => h4.elim h2 h3
  have cellp : ∀ o u, w.cell? ⟨p, o, none⟩ = some u → w3.cell? ⟨p, o, none⟩ = some u := fun o u hu => by
    have c1 := t1.cell hu (fun e => h.pc e)
    have c2 := kept t2 c1
    exact (Tn.ofGrown g3).cell c2 (fun e => h.np e.symm)
  have frop : w3.frozen? ⟨p, 1, none⟩ = false := by
    have f1 := (t1.frozen (p := ⟨p, 1, none⟩) hp (fun e => h.pc e)).trans h.f1
    have f2 := (t2.frozen (p := ⟨p, 1, none⟩) (by show p < _; omega)).trans f1
    exact ((Tn.ofGrown g3).frozen (p := ⟨p, 1, none⟩) (by show p < _; omega) (fun e => h.np e.symm)).trans f2
  refine ⟨?_, T, oo⟩
  refine { c0 := ?_, c1 := ?_, f1 := ?_, chan := ⟨buf, s, r, ?_, by simp [hbuf]⟩, le := by simp; omega, so := ?_, np := np3, nc := nc3, pc := h.pc, kp := h.kp, kc := h.kc, len := by simp [h.len], bd := ?_ }
  · rw [World.cell?_setCell_other]
    · exact cellp 0 _ h.c0
    · intro e; cases e
  · exact World.cell?_setCell_same' _ _ _ (by rw [cellp 1 _ h.c1]; rfl)
  · rw [World.frozen?_setCell]; exact frop
  · have e2 : w2.heap[ch]? = w1.heap[ch]? := t2.block ch (by omega)
    have e3 : w3.heap[ch]? = w2.heap[ch]? := g3.block ch (by omega) fun e => h.nc e.symm
    exact (tS.block ch (by omega) fun e => h.pc e.symm).trans (e3.trans (e2.trans hc))
  · exact tS.so so3 fun g hg e => np3 (by rw [hg, e])
  · intro i m b' hm hB
    by_cases hi : i < l.length
    · rw [List.getElem?_append_left hi] at hm
      rw [List.getElem?_append_left (by rw [h.len]; exact hi)] at hB
      have hb := h.bd i m b' hm hB
      refine (hb.tn T hb.ok).bad fun hl ad e hbad => ?_
      have hlt := hb.lt hl e
      rcases hbad with e1 | e1 | e1
      · exact hb.ok hl ad e (.inl e1)
      · exact hb.ok hl ad e (.inr (.inl e1))
      · rcases o3 with e2 | ⟨j, e2, hj⟩
        · exact hb.ok hl ad e (.inr (.inr (e2.symm.trans e1)))
        · rw [e2] at e1; injection e1 with e1; omega
    · rw [List.getElem?_append_right (by omega)] at hm
      rw [List.getElem?_append_right (by rw [h.len]; omega), h.len] at hB
      have hi0 : i - l.length = 0 := by
        rcases Nat.eq_zero_or_pos (i - l.length) with h0 | h0
        · exact h0
        · rw [List.getElem?_eq_none (by simp; omega)] at hm; cases hm
      rw [hi0] at hm hB
      simp at hm hB
      subst hm hB
      have far : 0 < b.length → ∀ ad : Addr, x.A = some ad → w.heap.size ≤ ad.block ∧ ad.block < w2.heap.size := fun hl ad e => by
        obtain ⟨ad', e', hlt, _⟩ := hob.at_ hl
        rw [e] at e'; cases e'
        exact ⟨hnew hl ad e, hlt⟩
      have hb3 := (Tn.ofGrown g3).bs hob fun hl ad e e2 => by
        have := far hl ad e
        have h5 := (h.so.lt ad.block e2.symm).2
        omega
      have hb4 := tS.bs hb3 fun hl ad e e2 => by have := far hl ad e; omega
      refine ⟨hn, hb4.more (by simp; omega), fun hl ad e hbad => ?_⟩
      have := far hl ad e
      rcases hbad with e1 | e1 | e1
      · omega
      · omega
      · rcases o3 with e2 | ⟨j, e2, hj⟩
        · rw [e2] at e1
          have h5 := (h.so.lt ad.block e1).2
          omega
        · rw [e2] at e1; injection e1 with e1; omega
end
end Go.Proofs.Ytakpfjamlmfbbaa
