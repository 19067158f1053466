/- What a call turned: of the blocks that were there, those of a kind. -/
import Derived.Test.YtcgkbpjfbahleaaByW
namespace Go.Proofs.Ytcgkbpjfbahleaa
open Go.RowKit

structure Tn (P : Nat → Prop) (w w' : World) : Prop where
  os : w'.os = w.os
  tape : w'.tape = w.tape
  output : w'.output = w.output
  size : w.heap.size ≤ w'.heap.size
  block : ∀ k, k < w.heap.size → ¬ P k → w'.heap[k]? = w.heap[k]?

section
variable {P Q R : Nat → Prop} {w w1 w2 w' : World}
theorem Tn.refl (P : Nat → Prop) (w : World) : Tn P w w := ⟨rfl, rfl, rfl, Nat.le_refl _, fun _ _ _ => rfl⟩
theorem Tn.thenQ (h : Tn P w w1) (h2 : Tn Q w1 w2) (hQ : ∀ k, k < w.heap.size → Q k → P k) : Tn P w w2 :=
  ⟨h2.os.trans h.os, h2.tape.trans h.tape, h2.output.trans h.output, Nat.le_trans h.size h2.size, fun k hk hn =>
    (h2.block k (Nat.lt_of_lt_of_le hk h.size) (fun q => hn (hQ k hk q))).trans (h.block k hk hn)⟩
theorem Tn.then (h : Tn P w w1) (h2 : Tn P w1 w2) : Tn P w w2 := h.thenQ h2 fun _ _ h => h
theorem Tn.mono (h : Tn P w w') (hP : ∀ k, k < w.heap.size → P k → Q k) : Tn Q w w' :=
  ⟨h.os, h.tape, h.output, h.size, fun k hk hn => h.block k hk fun p => hn (hP k hk p)⟩
theorem Tn.ofBelow {B : Nat} (h : Below B w w') : Tn (B ≤ ·) w w' := ⟨h.os, h.tape, h.output, h.size, fun k _ hn => h.block k (by omega)⟩
theorem Tn.ofNew (h : Below w.heap.size w w') : Tn P w w' := ⟨h.os, h.tape, h.output, h.size, fun k hk _ => h.block k hk⟩
theorem Tn.below {B : Nat} (h : Tn P w w') (hB : B ≤ w.heap.size) (hP : ∀ k, k < w.heap.size → P k → B ≤ k) : Below B w w' :=
  ⟨h.os, h.tape, h.output, h.size, fun k hk => h.block k (by omega) fun p => by have := hP k (by omega) p; omega⟩
theorem Tn.ofGrown {row : Option Nat} (h : w.grownBy w' row) : Tn (fun k => some k = row) w w' := ⟨h.os, h.tape, h.output, h.size, fun k hk hn => h.block k hk hn⟩
theorem Tn.setCell (w : World) (b o : Nat) (v : Value) : Tn (· = b) w (w.setCell ⟨b, o, none⟩ v) :=
  ⟨rfl, rfl, rfl, by simp [World.setCell], fun k _ hn => by
    simp only [World.setCell]; rw [Array.getElem?_modify, if_neg (fun e => hn e.symm)]⟩
theorem Tn.alloc (w : World) (o : Obj) : Tn P w (w.alloc o) := ⟨rfl, rfl, rfl, by simp, fun k hk _ => Below.heap_alloc w o k hk⟩
theorem Tn.drew (w : World) : Tn P w w.drew := ⟨rfl, rfl, rfl, Nat.le_refl _, fun _ _ _ => rfl⟩
theorem Tn.cell (h : Tn P w w') {p : Addr} {v : Value} (hc : w.cell? p = some v) (hn : ¬ P p.block) : w'.cell? p = some v :=
  (World.cell?_of_block (h.block _ (World.block_lt_of_cell? w _ hc) hn)).trans hc
theorem Tn.frozen (h : Tn P w w') {p : Addr} (hp : p.block < w.heap.size) (hn : ¬ P p.block) : w'.frozen? p = w.frozen? p :=
  World.frozen?_of_block (h.block _ hp hn)
theorem Tn.ob (h : Tn P w w') {K : Nat} {v : Value} {l : List UInt8} (ho : Ob w K v l) (hn : ∀ k, v.ownBlock = some k → ¬ P k) : Ob w' K v l := by
  have hlt := ho.lt
  rcases ho.2 with ⟨he, h0⟩ | ⟨g, cap', cur, he, hb, hg, hrest⟩
  · exact ⟨ho.1, .inl ⟨he, h0⟩⟩
  · subst he
    exact ⟨ho.1, .inr ⟨g, cap', cur, rfl, hb, (h.block g (hlt g rfl).2 (hn g rfl)).trans hg, hrest⟩⟩
theorem Tn.bs (h : Tn P w w') {K : Nat} {A : Option Addr} {cap : Nat} {l : List UInt8} (hb : Bs w K A cap l) (hn : 0 < l.length → ∀ ad : Addr, A = some ad → ¬ P ad.block) : Bs w' K A cap l :=
  ⟨hb.le, hb.max, hb.nil, fun hl => by
    obtain ⟨ad, e, hk, hc⟩ := hb.at_ hl
    refine ⟨ad, e, hk, fun k c hkc => ?_⟩
    have := hc k c hkc
    have hbl : (ad.add k).block = ad.block := block_of_add ad k
    have hlt := World.block_lt_of_cell? w _ this
    generalize ad.add k = q at *
    obtain ⟨qb, qo, qx⟩ := q
    exact h.cell this (by rw [hbl]; exact hn hl ad e)⟩
end
end Go.Proofs.Ytcgkbpjfbahleaa
