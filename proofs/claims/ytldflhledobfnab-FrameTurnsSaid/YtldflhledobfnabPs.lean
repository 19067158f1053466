/- Slices of pieces (a byte, a slice of bytes) in memory, read as lists. -/
import Derived.Test.YtldflhledobfnabByW
import Derived.Deep.AppendLies
namespace Go.Proofs.Ytldflhledobfnab
open Go.RowKit

abbrev Pc := UInt8 × List UInt8
/-- The slice at A with capacity cap reads as the pieces ps, in memory below block K. -/
structure Pr (w : World) (K : Nat) (A : Option Addr) (cap : Nat) (ps : List Pc) : Prop where
  le : ps.length ≤ cap
  max : cap ≤ maxLen
  nil : A = none → cap = 0
  at_ : 0 < ps.length → ∃ ad : Addr, A = some ad ∧ ad.block < K ∧ ∀ i k p, ps[i]? = some (k, p) → w.cell? (ad.add (i * 2)) = some (bv k) ∧ ∃ A' cap', w.cell? (ad.add (i * 2 + 1)) = some (.slice A' p.length cap') ∧ Bs w K A' cap' p

/-- v is a slice of the call's own (blocks from K on, elements of type T) that holds the pieces ps. -/
def Ps (w : World) (K : Nat) (T : TypeId) (v : Value) (ps : List Pc) : Prop :=
  ∃ xs : List Value, w.ownsRow K T 2 v ps.length xs ∧ ∀ i k p, ps[i]? = some (k, p) → xs[i * 2]? = some (bv k) ∧ ∃ A cap, xs[i * 2 + 1]? = some (.slice A p.length cap) ∧ Bs w w.heap.size A cap p ∧ ∀ ad : Addr, A = some ad → 0 < p.length → v.ownBlock ≠ some ad.block

section
variable {w w' : World} {K K' cap : Nat} {A : Option Addr} {ps : List Pc}
theorem Pr.keep (h : Pr w K A cap ps) (hk : ∀ p : Addr, p.block < K → w'.cell? p = w.cell? p) : Pr w' K A cap ps :=
  ⟨h.le, h.max, h.nil, fun hn => by
    obtain ⟨ad, e, hb, hc⟩ := h.at_ hn
    refine ⟨ad, e, hb, fun i k p hi => ?_⟩
    obtain ⟨h1, A', c', h2, h3⟩ := hc i k p hi
    exact ⟨(hk _ (by rw [block_of_add]; exact hb)).trans h1, A', c', (hk _ (by rw [block_of_add]; exact hb)).trans h2, h3.keep hk⟩⟩
theorem Pr.below (h : Pr w K A cap ps) (hb : Below K w w') : Pr w' K A cap ps := h.keep fun _ hp => hb.cell hp
theorem Pr.more (h : Pr w K A cap ps) (hK : K ≤ K') : Pr w K' A cap ps :=
  ⟨h.le, h.max, h.nil, fun hn => by
    obtain ⟨ad, e, hb, hc⟩ := h.at_ hn
    refine ⟨ad, e, by omega, fun i k p hi => ?_⟩
    obtain ⟨h1, A', c', h2, h3⟩ := hc i k p hi
    exact ⟨h1, A', c', h2, h3.more hK⟩⟩
theorem Pr.drewN (h : Pr w K A cap ps) (n : Nat) : Pr (w.drewN n) K A cap ps := h.keep fun _ _ => rfl
theorem Pr.get (h : Pr w K A cap ps) {i : Nat} (hi : i < ps.length) : ∃ ad : Addr, A = some ad ∧ ad.block < K ∧ w.cell? (ad.add (i * 2)) = some (bv ps[i].1) ∧ ∃ A' cap', w.cell? (ad.add (i * 2 + 1)) = some (.slice A' ps[i].2.length cap') ∧ Bs w K A' cap' ps[i].2 := by
  obtain ⟨ad, e, hb, hc⟩ := h.at_ (by omega)
  exact ⟨ad, e, hb, hc i ps[i].1 ps[i].2 (List.getElem?_eq_getElem hi)⟩
theorem add_one (q : Addr) : q.add 1 = ⟨q.block, q.off + 1, none⟩ := by unfold Addr.add; rw [if_neg (by decide)]
theorem Pr.get2 (h : Pr w K A cap ps) {i : Nat} (hi : i < ps.length) : ∃ ad : Addr, A = some ad ∧ ad.block < K ∧ w.cell? (ad.add (i * 2)) = some (bv ps[i].1) ∧ ∃ A' cap', w.cell? ⟨(ad.add (i * 2)).block, (ad.add (i * 2)).off + 1, none⟩ = some (.slice A' ps[i].2.length cap') ∧ Bs w K A' cap' ps[i].2 := by
  obtain ⟨ad, e, hb, h1, A', c', h2, h3⟩ := h.get hi
  refine ⟨ad, e, hb, h1, A', c', ?_, h3⟩
  rw [← add_one, add_of_add]
  exact h2
theorem Pr.cut (h : Pr w K A cap ps) {i j : Nat} (hij : i ≤ j) (hj : j ≤ ps.length) : Pr w K (if cap = i then A else A.map (·.add (i * 2))) (cap - i) ((ps.drop i).take (j - i)) := by
  have hle := h.le
  have hmax := h.max
  have hlen : ((ps.drop i).take (j - i)).length = j - i := by simp; omega
  refine ⟨by rw [hlen]; omega, by omega, fun hn => ?_, fun hn => ?_⟩
  · by_cases e : cap = i
    · omega
    · rw [if_neg e] at hn
      have : A = none := by cases A <;> simp_all
      have := h.nil this
      omega
  · rw [hlen] at hn
    obtain ⟨ad, rfl, hb, hc⟩ := h.at_ (by omega)
    rw [if_neg (by omega)]
    refine ⟨_, rfl, by rw [block_of_add]; exact hb, fun q k p hk => ?_⟩
    rw [add_of_add, add_of_add, show i * 2 + q * 2 = (i + q) * 2 by omega, show i * 2 + (q * 2 + 1) = (i + q) * 2 + 1 by omega]
    refine hc (i + q) k p ?_
    rw [List.getElem?_take] at hk
    split at hk
    · rwa [List.getElem?_drop] at hk
    · cases hk

theorem Pr.to (h : Pr w K A cap ps) {j : Nat} (hj : j ≤ ps.length) : Pr w K A cap (ps.take j) := by
  have hle := h.le
  have hlen : (ps.take j).length = j := by simp; omega
  refine ⟨by omega, h.max, h.nil, fun hn => ?_⟩
  obtain ⟨ad, e, hb, hc⟩ := h.at_ (by omega)
  refine ⟨ad, e, hb, fun i k p hi => hc i k p ?_⟩
  rw [List.getElem?_take] at hi
  split at hi
  · exact hi
  · cases hi
theorem Pr.alloc (h : Pr w K A cap ps) (hK : K ≤ w.heap.size) (o : Obj) : Pr (w.alloc o) K A cap ps := h.keep fun _ hp => World.cell?_alloc_lt _ _ _ (by omega)

variable {T : TypeId} {v : Value}
theorem Ps.empty (w : World) (K : Nat) (T : TypeId) : Ps w K T (.slice none 0 0) [] := ⟨[], World.ownsRow_nil w K _ _, fun i k p h => by simp at h⟩
theorem Ps.below (h : Ps w K T v ps) (hb : Below w.heap.size w w') : Ps w' K T v ps := by
  obtain ⟨xs, ho, hx⟩ := h
  refine ⟨xs, World.ownsRow.kept (row := none) ho ⟨hb.os, hb.tape, hb.output, hb.size, fun k hk _ => hb.block k hk⟩ (by cases h' : v.ownBlock <;> simp), fun i k p hi => ?_⟩
  obtain ⟨h1, A, c, h2, h3, h4⟩ := hx i k p hi
  exact ⟨h1, A, c, h2, (h3.below hb).more hb.size, h4⟩
theorem Ps.more (h : Ps w K T v ps) (hK : K' ≤ K) : Ps w K' T v ps := by
  obtain ⟨xs, ho, hx⟩ := h
  refine ⟨xs, ?_, hx⟩
  rcases ho.2 with ⟨he, h0⟩ | ⟨g, cap', cur, he, hb, hg⟩
  · exact ⟨ho.1, .inl ⟨he, h0⟩⟩
  · exact ⟨ho.1, .inr ⟨g, cap', cur, he, by omega, hg⟩⟩
theorem Ps.lt (h : Ps w K T v ps) : ∀ k, v.ownBlock = some k → K ≤ k ∧ k < w.heap.size := by
  obtain ⟨xs, ho, _⟩ := h
  exact World.ownsRow.lt ho
theorem Ps.pr {n : Nat} (h : Ps w K T (.slice A n cap) ps) : Pr w w.heap.size A cap ps ∧ ps.length = n := by
  obtain ⟨xs, ho, hx⟩ := h
  rcases ho.2 with ⟨he, h0⟩ | ⟨g, cap', cur, he, hb, hg, hn, hc, hs, ht⟩
  · injection he with h1 h2 h3
    subst h1 h2 h3
    exact ⟨⟨by omega, Nat.zero_le _, fun _ => rfl, fun h => absurd h (by omega)⟩, h0⟩
  · injection he with h1 h2 h3
    subst h1 h3
    refine ⟨⟨hn, hc, (fun h => by cases h), fun hl => ⟨_, rfl, ?_, fun i k p hi => ?_⟩⟩, h2.symm⟩
    · rcases Nat.lt_or_ge g w.heap.size with hlt | hge
      · exact hlt
      · rw [Array.getElem?_eq_none hge] at hg; cases hg
    · obtain ⟨h1, A, c, h2, h3, _⟩ := hx i k p hi
      exact ⟨ho.cells (g := g) rfl _ _ h1, A, c, ho.cells (g := g) rfl _ _ h2, h3⟩

/-- One piece more, at the law that append obeys. -/
theorem Ps.push {v' : Value} {w1 : World} {k : UInt8} {p : List UInt8} {B : Option Addr} {c : Nat} {xs : List Value} (h : w.ownsRow K T 2 v ps.length xs)
    (hx : ∀ i k p, ps[i]? = some (k, p) → xs[i * 2]? = some (bv k) ∧ ∃ A cap, xs[i * 2 + 1]? = some (.slice A p.length cap) ∧ Bs w w.heap.size A cap p ∧ ∀ ad : Addr, A = some ad → 0 < p.length → v.ownBlock ≠ some ad.block)
    (hb : Bs w w.heap.size B c p) (hne : ∀ ad : Addr, B = some ad → 0 < p.length → v.ownBlock ≠ some ad.block)
    (hown : w1.ownsRow K T 2 v' (ps.length + 1) (xs ++ [bv k, .slice B p.length c])) (hgrow : w.grownBy w1 v.ownBlock) (hat : ∀ g, v'.ownBlock = some g → v.ownBlock = some g ∨ w.heap.size ≤ g) : Ps w1 K T v' (ps ++ [(k, p)]) := by
  have hxl : xs.length = ps.length * 2 := h.1
  have far : ∀ {A : Option Addr} {cap : Nat} {q : List UInt8}, Bs w w.heap.size A cap q → (∀ ad : Addr, A = some ad → 0 < q.length → v.ownBlock ≠ some ad.block) → (Bs w1 w1.heap.size A cap q ∧ ∀ ad : Addr, A = some ad → 0 < q.length → v'.ownBlock ≠ some ad.block) := fun {A cap q} hq hn => by
    refine ⟨⟨hq.le, hq.max, hq.nil, fun hl => ?_⟩, fun ad e hl he => ?_⟩
    · obtain ⟨ad, e, hlt, hc⟩ := hq.at_ hl
      exact ⟨ad, e, Nat.lt_of_lt_of_le hlt hgrow.size, fun j u hu => (hgrow.cell_far _ (by rw [block_of_add]; exact hlt) (by rw [block_of_add]; exact fun e' => hn ad e hl e'.symm)).trans (hc j u hu)⟩
    · obtain ⟨ad', e', hlt, _⟩ := hq.at_ hl
      rw [e] at e'
      cases e'
      rcases hat _ he with h' | h'
      · exact hn ad e hl h'
      · omega
  refine ⟨xs ++ [bv k, .slice B p.length c], by rw [List.length_append]; exact hown, fun i k' p' hi => ?_⟩
  rcases Nat.lt_or_ge i ps.length with hlt | hge
  · rw [List.getElem?_append_left hlt] at hi
    obtain ⟨h1, A, cp, h2, h3, h4⟩ := hx i k' p' hi
    obtain ⟨f1, f2⟩ := far h3 h4
    rw [List.getElem?_append_left (by omega), List.getElem?_append_left (by omega)]
    exact ⟨h1, A, cp, h2, f1, f2⟩
  · have hil : i = ps.length := by
      have := (List.getElem?_eq_some_iff.1 hi).1
      simp at this; omega
    subst hil
    simp at hi
    obtain ⟨rfl, rfl⟩ := hi
    obtain ⟨f1, f2⟩ := far hb hne
    rw [List.getElem?_append_right (by omega), List.getElem?_append_right (by omega), hxl]
    refine ⟨by simp, B, c, ?_, f1, f2⟩
    rw [show ps.length * 2 + 1 - ps.length * 2 = 1 by omega]
    rfl
end

section
variable {P : Program}
theorem wpList_push {T ST : TypeId} (hund : P.underlying ST = some (.slice T)) {z : Value} (hinfo : (P.info? T).map (fun i => (i.zero, i.size, i.bytes)) = some (some z, 2, 32)) (hz : z.cells.size = 2)
    {ops : Array Oper} {rest : List Oper} {o : Oper} {a : Act} {Q : Exit → Act → World → Prop} (w : World) (hgd : o.guard = none) (s x : Operand)
    (ho : o.op = .call { callee := .builtin .append, args := #[s, x], argTypes := #[ST, ST] }) (K : Nat) (v : Value) (ps : List Pc) (hs : a.eval s = v) (hown : Ps w K T v ps)
    (k : UInt8) (p : List UInt8) (B : Option Addr) (c H : Nat) (hH : w.heap.size = H) (hxx : a.eval x = .slice (some ⟨H, 0, none⟩) 1 1) (hb : Bs w w.heap.size B c p) (hne : ∀ ad : Addr, B = some ad → 0 < p.length → v.ownBlock ≠ some ad.block)
    (N : Nat) (hN : ps.length + 1 = N) (hsz : N * 32 ≤ 140737488355328) (hK : K ≤ H)
    (h : ∀ A' cap' w', Ps w' K T (.slice A' N cap') (ps ++ [(k, p)]) → w.grownBy w' v.ownBlock → wpList P ops Q rest (a.put o.dst (.slice A' N cap')) w') :
    wpList P ops Q (o :: rest) a (w.alloc (.cells #[bv k, .slice B p.length c] T)) := by
  subst hH hN
  obtain ⟨xs, hx1, hx2⟩ := hown
  obtain ⟨i0, hi, hz0, hz1, hz2⟩ := info_parts hinfo
  refine wpList_append_lies _ hgd s x ST ho K T i0 z 2 32 hund hi hz0 hz1 hz2 hz (by decide) v ps.length xs hs (World.ownsRow.alloc hx1 _) ⟨w.heap.size, 0, none⟩ 1 1 [bv k, .slice B p.length c] hxx rfl
    (World.news_of_block (heap_alloc_new w _)) (by intro u hu; simp at hu; rcases hu with rfl | rfl <;> rfl) (by omega) (by unfold maxLen; omega) hsz (by simp; omega) _ rfl ?_
  intro g cap w1 hown1 hgrow1 hat1 hlt1
  have hg : w.grownBy w1 v.ownBlock := ⟨hgrow1.os, hgrow1.tape, hgrow1.output, Nat.le_trans (by simp) hgrow1.size, fun i hi hne => (hgrow1.block i (by simp; omega) hne).trans (Below.heap_alloc w _ i hi)⟩
  refine h _ _ w1 (Ps.push hx1 hx2 hb hne hown1 hg (fun g' hg' => ?_)) hg
  have : g' = g := by simpa [Value.ownBlock] using hg'.symm
  subst this
  rcases hat1 with h1 | h1
  · exact .inl h1
  · right; rw [h1]; simp
end
end Go.Proofs.Ytldflhledobfnab
