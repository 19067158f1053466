/- Slices of slices of bytes in memory, read as lists. -/
import Derived.Test.YtpckbbjlihhpdaaTn
import Derived.Deep.AppendLies
namespace Go.Proofs.Ytpckbbjlihhpdaa
open Go.RowKit

/-- The slice at A with capacity cap reads as the pieces ps, in memory below block K. -/
structure Rr (w : World) (K : Nat) (A : Option Addr) (cap : Nat) (ps : List (List UInt8)) : Prop where
  le : ps.length ≤ cap
  max : cap ≤ maxLen
  nil : A = none → cap = 0
  at_ : 0 < ps.length → ∃ ad : Addr, A = some ad ∧ ad.block < K ∧ ∀ (i : Nat) p, ps[i]? = some p → ∃ A' cap', w.cell? (ad.add i) = some (.slice A' p.length cap') ∧ Bs w K A' cap' p

/-- v is a slice of the call's own (blocks from K on, elements of type T) that holds the pieces ps. -/
def Rw (w : World) (K : Nat) (T : TypeId) (v : Value) (ps : List (List UInt8)) : Prop :=
  ∃ xs : List Value, w.ownsRow K T 1 v ps.length xs ∧ ∀ (i : Nat) p, ps[i]? = some p → ∃ A cap, xs[i]? = some (.slice A p.length cap) ∧ Bs w w.heap.size A cap p ∧ ∀ ad : Addr, A = some ad → 0 < p.length → K ≤ ad.block ∧ v.ownBlock ≠ some ad.block

section
variable {w w' : World} {K K' cap : Nat} {A : Option Addr} {ps : List (List UInt8)}
theorem Rr.keep (h : Rr w K A cap ps) (hk : ∀ p : Addr, p.block < K → w'.cell? p = w.cell? p) : Rr w' K A cap ps :=
  ⟨h.le, h.max, h.nil, fun hn => by
    obtain ⟨ad, e, hb, hc⟩ := h.at_ hn
    refine ⟨ad, e, hb, fun i p hi => ?_⟩
    obtain ⟨A', c', h2, h3⟩ := hc i p hi
    exact ⟨A', c', (hk _ (by rw [block_of_add]; exact hb)).trans h2, h3.keep hk⟩⟩
theorem Rr.below (h : Rr w K A cap ps) (hb : Below K w w') : Rr w' K A cap ps := h.keep fun _ hp => hb.cell hp
theorem Rr.more (h : Rr w K A cap ps) (hK : K ≤ K') : Rr w K' A cap ps :=
  ⟨h.le, h.max, h.nil, fun hn => by
    obtain ⟨ad, e, hb, hc⟩ := h.at_ hn
    refine ⟨ad, e, by omega, fun i p hi => ?_⟩
    obtain ⟨A', c', h2, h3⟩ := hc i p hi
    exact ⟨A', c', h2, h3.more hK⟩⟩
theorem Rr.drewN (h : Rr w K A cap ps) (n : Nat) : Rr (w.drewN n) K A cap ps := h.keep fun _ _ => rfl
theorem Rr.get (h : Rr w K A cap ps) {i : Nat} (hi : i < ps.length) : ∃ ad : Addr, A = some ad ∧ ad.block < K ∧ ∃ A' cap', w.cell? (ad.add i) = some (.slice A' ps[i].length cap') ∧ Bs w K A' cap' ps[i] := by
  obtain ⟨ad, e, hb, hc⟩ := h.at_ (by omega)
  exact ⟨ad, e, hb, hc i ps[i] (List.getElem?_eq_getElem hi)⟩
theorem Rr.to (h : Rr w K A cap ps) {j : Nat} (hj : j ≤ ps.length) : Rr w K A cap (ps.take j) := by
  have hle := h.le
  have hlen : (ps.take j).length = j := by simp; omega
  refine ⟨by omega, h.max, h.nil, fun hn => ?_⟩
  obtain ⟨ad, e, hb, hc⟩ := h.at_ (by omega)
  refine ⟨ad, e, hb, fun i p hi => hc i p ?_⟩
  rw [List.getElem?_take] at hi
  split at hi
  · exact hi
  · cases hi
theorem Rr.alloc (h : Rr w K A cap ps) (hK : K ≤ w.heap.size) (o : Obj) : Rr (w.alloc o) K A cap ps := h.keep fun _ hp => World.cell?_alloc_lt _ _ _ (by omega)

variable {T : TypeId} {v : Value}
theorem Rw.empty (w : World) (K : Nat) (T : TypeId) : Rw w K T (.slice none 0 0) [] := ⟨[], World.ownsRow_nil w K _ _, fun i p h => by simp at h⟩
theorem Rw.below (h : Rw w K T v ps) (hb : Below w.heap.size w w') : Rw w' K T v ps := by
  obtain ⟨xs, ho, hx⟩ := h
  refine ⟨xs, World.ownsRow.kept (row := none) ho ⟨hb.os, hb.tape, hb.output, hb.size, fun k hk _ => hb.block k hk⟩ (by cases h' : v.ownBlock <;> simp), fun i p hi => ?_⟩
  obtain ⟨A, c, h2, h3, h4⟩ := hx i p hi
  exact ⟨A, c, h2, (h3.below hb).more hb.size, h4⟩
theorem Rw.more (h : Rw w K T v ps) (hK : K' ≤ K) : Rw w K' T v ps := by
  obtain ⟨xs, ho, hx⟩ := h
  refine ⟨xs, ?_, fun i p hi => ?_⟩
  · rcases ho.2 with ⟨he, h0⟩ | ⟨g, cap', cur, he, hb, hg⟩
    · exact ⟨ho.1, .inl ⟨he, h0⟩⟩
    · exact ⟨ho.1, .inr ⟨g, cap', cur, he, by omega, hg⟩⟩
  · obtain ⟨A, c, h2, h3, h4⟩ := hx i p hi
    exact ⟨A, c, h2, h3, fun ad e hl => ⟨Nat.le_trans hK (h4 ad e hl).1, (h4 ad e hl).2⟩⟩
theorem Rw.lt (h : Rw w K T v ps) : ∀ k, v.ownBlock = some k → K ≤ k ∧ k < w.heap.size := by
  obtain ⟨xs, ho, _⟩ := h
  exact World.ownsRow.lt ho
theorem Rw.pr {n : Nat} (h : Rw w K T (.slice A n cap) ps) : Rr w w.heap.size A cap ps ∧ ps.length = n := by
  obtain ⟨xs, ho, hx⟩ := h
  rcases ho.2 with ⟨he, h0⟩ | ⟨g, cap', cur, he, hb, hg, hn, hc, hs, ht⟩
  · injection he with h1 h2 h3
    subst h1 h2 h3
    exact ⟨⟨by omega, Nat.zero_le _, fun _ => rfl, fun h => absurd h (by omega)⟩, h0⟩
  · injection he with h1 h2 h3
    subst h1 h3
    refine ⟨⟨hn, hc, (fun h => by cases h), fun hl => ⟨_, rfl, ?_, fun i p hi => ?_⟩⟩, h2.symm⟩
    · rcases Nat.lt_or_ge g w.heap.size with hlt | hge
      · exact hlt
      · rw [Array.getElem?_eq_none hge] at hg; cases hg
    · obtain ⟨A, c, h2, h3, _⟩ := hx i p hi
      exact ⟨A, c, ho.cells (g := g) rfl _ _ h2, h3⟩
theorem Rw.form (h : Rw w K T v ps) : ∃ A cap, v = .slice A ps.length cap := by
  obtain ⟨xs, ho, _⟩ := h
  rcases ho.2 with ⟨he, h0⟩ | ⟨g, cap', cur, he, _⟩
  · exact ⟨none, 0, by rw [he, h0]⟩
  · exact ⟨_, _, he⟩
theorem Rw.alloc (h : Rw w K T v ps) (o : Obj) : Rw (w.alloc o) K T v ps := h.below ((Below.refl _ _).alloc (Nat.le_refl _) o)
/-- All of it outlives a turn of other blocks. -/
theorem Rw.tn {P : Nat → Prop} (h : Rw w K T v ps) (t : Tn P w w') (hn : ∀ k, K ≤ k → ¬ P k) : Rw w' K T v ps := by
  obtain ⟨xs, ho, hx⟩ := h
  have hlt := World.ownsRow.lt ho
  refine ⟨xs, ?_, fun i p hi => ?_⟩
  · rcases ho.2 with ⟨he, h0⟩ | ⟨g, cap', cur, he, hb', hg, hrest⟩
    · exact ⟨ho.1, .inl ⟨he, h0⟩⟩
    · subst he
      have h9 := hlt g rfl
      exact ⟨ho.1, .inr ⟨g, cap', cur, rfl, hb', (t.block g h9.2 (hn g h9.1)).trans hg, hrest⟩⟩
  · obtain ⟨A, c, h2, h3, h4⟩ := hx i p hi
    exact ⟨A, c, h2, (t.bs h3 fun hl ad e => hn _ (h4 ad e hl).1).more t.size, h4⟩
/-- One piece more, at the law that append obeys. -/
theorem Rw.push {v' : Value} {w1 : World} {p : List UInt8} {B : Option Addr} {c : Nat} {xs : List Value} (h : w.ownsRow K T 1 v ps.length xs)
    (hx : ∀ (i : Nat) p, ps[i]? = some p → ∃ A cap, xs[i]? = some (.slice A p.length cap) ∧ Bs w w.heap.size A cap p ∧ ∀ ad : Addr, A = some ad → 0 < p.length → K ≤ ad.block ∧ v.ownBlock ≠ some ad.block)
    (hb : Bs w w.heap.size B c p) (hne : ∀ ad : Addr, B = some ad → 0 < p.length → K ≤ ad.block ∧ v.ownBlock ≠ some ad.block)
    (hown : w1.ownsRow K T 1 v' (ps.length + 1) (xs ++ [.slice B p.length c])) (hgrow : w.grownBy w1 v.ownBlock) (hat : ∀ g, v'.ownBlock = some g → v.ownBlock = some g ∨ w.heap.size ≤ g) : Rw w1 K T v' (ps ++ [p]) := by
  have hxl : xs.length = ps.length := by have := h.1; omega
  have far : ∀ {A : Option Addr} {cap : Nat} {q : List UInt8}, Bs w w.heap.size A cap q → (∀ ad : Addr, A = some ad → 0 < q.length → K ≤ ad.block ∧ v.ownBlock ≠ some ad.block) → (Bs w1 w1.heap.size A cap q ∧ ∀ ad : Addr, A = some ad → 0 < q.length → K ≤ ad.block ∧ v'.ownBlock ≠ some ad.block) := fun {A cap q} hq hn => by
    refine ⟨⟨hq.le, hq.max, hq.nil, fun hl => ?_⟩, fun ad e hl => ⟨(hn ad e hl).1, fun he => ?_⟩⟩
    · obtain ⟨ad, e, hlt, hc⟩ := hq.at_ hl
      exact ⟨ad, e, Nat.lt_of_lt_of_le hlt hgrow.size, fun j u hu => (hgrow.cell_far _ (by rw [block_of_add]; exact hlt) (by rw [block_of_add]; exact fun e' => (hn ad e hl).2 e'.symm)).trans (hc j u hu)⟩
    · obtain ⟨ad', e', hlt, _⟩ := hq.at_ hl
      rw [e] at e'
      cases e'
      rcases hat _ he with h' | h'
      · exact (hn ad e hl).2 h'
      · omega
  refine ⟨xs ++ [.slice B p.length c], by rw [List.length_append]; exact hown, fun i p' hi => ?_⟩
  rcases Nat.lt_or_ge i ps.length with hlt | hge
  · rw [List.getElem?_append_left hlt] at hi
    obtain ⟨A, cp, h2, h3, h4⟩ := hx i p' hi
    obtain ⟨f1, f2⟩ := far h3 h4
    rw [List.getElem?_append_left (by omega)]
    exact ⟨A, cp, h2, f1, f2⟩
  · have hil : i = ps.length := by
      have := (List.getElem?_eq_some_iff.1 hi).1
      simp at this; omega
    subst hil
    simp at hi
    subst hi
    obtain ⟨f1, f2⟩ := far hb hne
    rw [List.getElem?_append_right (by omega), hxl]
    exact ⟨B, c, by simp, f1, f2⟩
end

section
variable {P : Program}
theorem wpList_pushR {T ST : TypeId} (hund : P.underlying ST = some (.slice T)) {z : Value} (hinfo : (P.info? T).map (fun i => (i.zero, i.size, i.bytes)) = some (some z, 1, 24)) (hz : z.cells.size = 1)
    {ops : Array Oper} {rest : List Oper} {o : Oper} {a : Act} {Q : Exit → Act → World → Prop} (w : World) (hgd : o.guard = none) (s x : Operand)
    (ho : o.op = .call { callee := .builtin .append, args := #[s, x], argTypes := #[ST, ST] }) (K : Nat) (v : Value) (ps : List (List UInt8)) (hs : a.eval s = v) (hown : Rw w K T v ps)
    (p : List UInt8) (B : Option Addr) (c H : Nat) (hH : w.heap.size = H) (hxx : a.eval x = .slice (some ⟨H, 0, none⟩) 1 1) (hb : Bs w w.heap.size B c p) (hne : ∀ ad : Addr, B = some ad → 0 < p.length → K ≤ ad.block ∧ v.ownBlock ≠ some ad.block)
    (N : Nat) (hN : ps.length + 1 = N) (hsz : N * 24 ≤ 140737488355328) (hK : K ≤ H)
    (h : ∀ A' cap' w', Rw w' K T (.slice A' N cap') (ps ++ [p]) → w.grownBy w' v.ownBlock → (∀ g, (Value.slice A' N cap').ownBlock = some g → v.ownBlock = some g ∨ w.heap.size ≤ g) → wpList P ops Q rest (a.put o.dst (.slice A' N cap')) w') :
    wpList P ops Q (o :: rest) a (w.alloc (.cells #[.slice B p.length c] T)) := by
  subst hH hN
  obtain ⟨xs, hx1, hx2⟩ := hown
  obtain ⟨i0, hi, hz0, hz1, hz2⟩ := info_parts hinfo
  refine wpList_append_lies _ hgd s x ST ho K T i0 z 1 24 hund hi hz0 hz1 hz2 hz (by decide) v ps.length xs hs (World.ownsRow.alloc hx1 _) ⟨w.heap.size, 0, none⟩ 1 1 [.slice B p.length c] hxx rfl
    (World.news_of_block (heap_alloc_new w _)) (by intro u hu; simp at hu; subst hu; rfl) (by omega) (by unfold maxLen; omega) hsz (by simp; omega) _ rfl ?_
  intro g cap w1 hown1 hgrow1 hat1 hlt1
  have hg : w.grownBy w1 v.ownBlock := ⟨hgrow1.os, hgrow1.tape, hgrow1.output, Nat.le_trans (by simp) hgrow1.size, fun i hi hne => (hgrow1.block i (by simp; omega) hne).trans (Below.heap_alloc w _ i hi)⟩
  have hat2 : ∀ g', (Value.slice (some ⟨g, 0, none⟩) (ps.length + 1) cap).ownBlock = some g' → v.ownBlock = some g' ∨ w.heap.size ≤ g' := fun g' hg' => by
    have : g' = g := by simpa [Value.ownBlock] using hg'.symm
    subst this
    rcases hat1 with h1 | h1
    · exact .inl h1
    · right; rw [h1]; simp
  exact h _ _ w1 (Rw.push hx1 hx2 hb hne hown1 hg hat2) hg hat2
end
end Go.Proofs.Ytpckbbjlihhpdaa
