/- The document's disk in memory. -/
import Derived.Test.YtpckbbjlihhpdaaDkZ
import Derived.Test.YtpckbbjlihhpdaaRdJ
import Derived.Test.YtpckbbjlihhpdaaTn
namespace Go.Proofs.Ytpckbbjlihhpdaa
open Go.RowKit

theorem So.tn {α : Type} {enc : α → List Value} {k : Nat} {P : Nat → Prop} {w w' : World} {K : Nat} {T : TypeId} {v : Value} {l : List α} (h : So enc k w K T v l) (t : Tn P w w') (hn : ∀ g, v.ownBlock = some g → ¬ P g) : So enc k w' K T v l := by
  have hlt := h.lt
  rcases h.2 with ⟨he, h0⟩ | ⟨g, cap', cur, he, hb, hg, hrest⟩
  · exact ⟨h.1, .inl ⟨he, h0⟩⟩
  · subst he
    exact ⟨h.1, .inr ⟨g, cap', cur, rfl, hb, (t.block g (hlt g rfl).2 (hn g rfl)).trans hg, hrest⟩⟩
theorem flat_set1 {α : Type} {enc : α → List Value} {k : Nat} (henc : ∀ x, (enc x).length = k) {j : Nat} (hj : j < k) {u : Value} : ∀ (l : List α) (i : Nat) (x y : α), l[i]? = some x → enc y = (enc x).set j u → (l.flatMap enc).set (i * k + j) u = (l.set i y).flatMap enc
  | [], i, x, y, h, _ => by simp at h
  | z :: l, 0, x, y, h, he => by
    simp at h
    subst h
    rw [List.flatMap_cons, Nat.zero_mul, Nat.zero_add, List.set_append_left _ _ (by rw [henc]; exact hj), List.set_cons_zero, List.flatMap_cons, he]
  | z :: l, i + 1, x, y, h, he => by
    have ih := flat_set1 henc hj l i x y (by simpa using h) he
    have e : (i + 1) * k + j - (enc z).length = i * k + j := by rw [henc, Nat.add_mul]; omega
    rw [List.flatMap_cons, List.set_append_right _ _ (by rw [henc, Nat.add_mul]; omega), e, ih, List.set_cons_succ, List.flatMap_cons]
theorem So.set1 {α : Type} {enc : α → List Value} {k : Nat} (henc : ∀ x, (enc x).length = k) {w : World} {K : Nat} {T : TypeId} {g n cap : Nat} {l : List α} (h : So enc k w K T (.slice (some ⟨g, 0, none⟩) n cap) l) {i j : Nat} (hj : j < k) {u : Value} {x y : α} (hx : l[i]? = some x) (he : enc y = (enc x).set j u) :
    So enc k (w.setCell ⟨g, i * k + j, none⟩ u) K T (.slice (some ⟨g, 0, none⟩) n cap) (l.set i y) := by
  obtain ⟨A', c', e⟩ := h.form
  injection e with _ e _
  subst e
  have h1 := (World.ownsRow.stored h (i * k + j) u).1
  unfold So
  rw [List.length_set, ← flat_set1 henc hj l i x y hx he]
  exact h1

/-- A segment of the document's, and where its two rows of bytes lie. -/
structure Rq where
  x : As
  A : Option Addr
  c : Nat
  B : Option Addr
  d : Nat
def encQ (q : Rq) : List Value := [.int .i64 q.x.n, .slice q.A q.x.l q.c, .slice q.B (q.x.b.length - q.x.l) q.d, .bool q.x.k]
theorem encQ_len (q : Rq) : (encQ q).length = 4 := rfl
theorem encQ_one (q : Rq) : ∀ u ∈ encQ q, u.oneCell' = true := by
  intro u hu
  simp [encQ] at hu
  rcases hu with rfl | rfl | rfl | rfl <;> rfl
structure GQ (w : World) (q : Rq) : Prop where
  le : q.x.l ≤ q.x.b.length
  b1 : Bs w w.heap.size q.A q.c (q.x.b.take q.x.l)
  b2 : Bs w w.heap.size q.B q.d (q.x.b.drop q.x.l)
/-- The blocks of a segment's bytes. -/
def fq (q : Rq) (k : Nat) : Prop := (0 < (q.x.b.take q.x.l).length ∧ ∃ ad : Addr, q.A = some ad ∧ ad.block = k) ∨ (0 < (q.x.b.drop q.x.l).length ∧ ∃ ad : Addr, q.B = some ad ∧ ad.block = k)
theorem GQ.lt {w : World} {q : Rq} (h : GQ w q) {k : Nat} (hk : fq q k) : k < w.heap.size := by
  rcases hk with ⟨hl, ad, e, rfl⟩ | ⟨hl, ad, e, rfl⟩
  · obtain ⟨ad', e', hb, _⟩ := h.b1.at_ hl
    rw [e] at e'
    cases e'
    exact hb
  · obtain ⟨ad', e', hb, _⟩ := h.b2.at_ hl
    rw [e] at e'
    cases e'
    exact hb
theorem GQ.tn {P : Nat → Prop} {w w' : World} {q : Rq} (h : GQ w q) (t : Tn P w w') (hn : ∀ k, fq q k → ¬ P k) : GQ w' q :=
  ⟨h.le, (t.bs h.b1 fun hl ad e => hn _ (.inl ⟨hl, ad, e, rfl⟩)).more t.size, (t.bs h.b2 fun hl ad e => hn _ (.inr ⟨hl, ad, e, rfl⟩)).more t.size⟩
abbrev SG : TypeId := 75
/-- The document's disk at block m: its numbers, its row of segments. -/
structure RK (w : World) (m : Nat) (room fuse : Int) (down : Bool) (A : Option Addr) (cap : Nat) (qs : List Rq) : Prop where
  c0 : w.cell? ⟨m, 0, none⟩ = some (.int .i64 room)
  c1 : w.cell? ⟨m, 1, none⟩ = some (.slice A qs.length cap)
  c2 : w.cell? ⟨m, 2, none⟩ = some (.int .i64 fuse)
  c3 : w.cell? ⟨m, 3, none⟩ = some (.bool down)
  fr : ∀ j, w.frozen? ⟨m, j, none⟩ = false
  so : So encQ 4 w 0 SG (.slice A qs.length cap) qs
  nm : (Value.slice A qs.length cap).ownBlock ≠ some m
  gq : ∀ q ∈ qs, GQ w q
  sep : ∀ q ∈ qs, ∀ k, fq q k → k ≠ m ∧ (Value.slice A qs.length cap).ownBlock ≠ some k
/-- The disk's blocks. -/
def fK (m : Nat) (A : Option Addr) (cap : Nat) (qs : List Rq) (k : Nat) : Prop := k = m ∨ (Value.slice A qs.length cap).ownBlock = some k ∨ ∃ q ∈ qs, fq q k
section
variable {P : Nat → Prop} {w w' : World} {m cap : Nat} {room fuse : Int} {down : Bool} {A : Option Addr} {qs : List Rq}
theorem RK.lt (h : RK w m room fuse down A cap qs) {k : Nat} (hk : fK m A cap qs k) : k < w.heap.size := by
  rcases hk with rfl | hk | ⟨q, hq, hk⟩
  · exact World.block_lt_of_cell? w _ h.c0
  · exact (h.so.lt _ hk).2
  · exact (h.gq q hq).lt hk
theorem RK.tn (h : RK w m room fuse down A cap qs) (t : Tn P w w') (hn : ∀ k, fK m A cap qs k → ¬ P k) : RK w' m room fuse down A cap qs := by
  have hm := hn m (.inl rfl)
  have hml : m < w.heap.size := World.block_lt_of_cell? w _ h.c0
  exact ⟨t.cell h.c0 hm, t.cell h.c1 hm, t.cell h.c2 hm, t.cell h.c3 hm, fun j => (t.frozen (p := ⟨m, j, none⟩) hml hm).trans (h.fr j), h.so.tn t fun g hg => hn g (.inr (.inl hg)), h.nm, fun q hq => (h.gq q hq).tn t fun k hk => hn k (.inr (.inr ⟨q, hq, hk⟩)), h.sep⟩
theorem RK.below (h : RK w m room fuse down A cap qs) (hb : Below w.heap.size w w') : RK w' m room fuse down A cap qs := h.tn (Tn.ofNew (P := fun _ => False) hb) fun _ _ h => h
/-- Only m's cells have turned. -/
theorem RK.turnM (h : RK w m room fuse down A cap qs) (t : Tn (· = m) w w') {fuse' : Int} {down' : Bool} (c0 : w'.cell? ⟨m, 0, none⟩ = some (.int .i64 room)) (c1 : w'.cell? ⟨m, 1, none⟩ = some (.slice A qs.length cap)) (c2 : w'.cell? ⟨m, 2, none⟩ = some (.int .i64 fuse')) (c3 : w'.cell? ⟨m, 3, none⟩ = some (.bool down')) (fr : ∀ j, w'.frozen? ⟨m, j, none⟩ = false) : RK w' m room fuse' down' A cap qs :=
  ⟨c0, c1, c2, c3, fr, h.so.tn t fun _ hg e => h.nm (e ▸ hg), h.nm, fun q hq => (h.gq q hq).tn t fun k hk e => (h.sep q hq k hk).1 e, h.sep⟩
theorem RK.setF (h : RK w m room fuse down A cap qs) (x : Int) : RK (w.setCell ⟨m, 2, none⟩ (.int .i64 x)) m room x down A cap qs :=
  h.turnM (Tn.setCell w m 2 _) (by simp [go_sem, h.c0]) (by simp [go_sem, h.c1]) (by simp [go_sem, h.c2]) (by simp [go_sem, h.c3]) (fun j => by simp [go_sem, h.fr])
theorem RK.setG (h : RK w m room fuse down A cap qs) (x : Bool) : RK (w.setCell ⟨m, 3, none⟩ (.bool x)) m room fuse x A cap qs :=
  h.turnM (Tn.setCell w m 3 _) (by simp [go_sem, h.c0]) (by simp [go_sem, h.c1]) (by simp [go_sem, h.c2]) (by simp [go_sem, h.c3]) (fun j => by simp [go_sem, h.fr])
/-- A new row of segments, in a block of its own, takes the place of the old one. -/
theorem RK.newL {B : Option Addr} {c2 : Nat} {rs : List Rq} (h : RK w m room fuse down A cap qs) (so : So encQ 4 w 0 SG (.slice B rs.length c2) rs) (nm : (Value.slice B rs.length c2).ownBlock ≠ some m) (gq : ∀ q ∈ rs, GQ w q) (sep : ∀ q ∈ rs, ∀ k, fq q k → k ≠ m ∧ (Value.slice B rs.length c2).ownBlock ≠ some k) :
    RK (w.setCell ⟨m, 1, none⟩ (.slice B rs.length c2)) m room fuse down B c2 rs := by
  have t := Tn.setCell w m 1 (.slice B rs.length c2)
  exact ⟨by simp [go_sem, h.c0], by simp [go_sem, h.c1], by simp [go_sem, h.c2], by simp [go_sem, h.c3], fun j => by simp [go_sem, h.fr], so.tn t fun _ hg e => nm (e ▸ hg), nm, fun q hq => (gq q hq).tn t fun k hk e => (sep q hq k hk).1 e, sep⟩
theorem RK.addr (h : RK w m room fuse down A cap qs) (hl : 0 < qs.length) : ∃ g, A = some ⟨g, 0, none⟩ := by
  rcases h.so.2 with ⟨_, h0⟩ | ⟨g, cap', cur, he, _⟩
  · omega
  · injection he with h1 _ _
    exact ⟨g, h1⟩
theorem RK.slot {g : Nat} (h : RK w m room fuse down (some ⟨g, 0, none⟩) cap qs) {i : Nat} {q : Rq} (hi : qs[i]? = some q) : (∀ j u, (encQ q)[j]? = some u → w.cell? ⟨g, i * 4 + j, none⟩ = some u) ∧ ∀ j, w.frozen? ⟨g, j, none⟩ = false := by
  refine ⟨fun j u hu => ?_, fun j => World.ownsRow.frozenAt h.so _⟩
  have h1 := World.ownsRow.cells (g := g) h.so rfl _ _ (flatMap_get encQ_len qs i q hi j u hu)
  have e : (⟨g, 0, none⟩ : Addr).add (i * 4 + j) = ⟨g, i * 4 + j, none⟩ := by unfold Addr.add; split <;> simp_all
  rwa [e] at h1
end
abbrev rP (m : Nat) : Value := .pointer (some ⟨m, 0, none⟩)
def fiA (L : List As) (n : Int) : Nat := (L.takeWhile fun x => !decide (x.n = n)).length
def findI (L : List As) (n : Int) : Int := if fiA L n < L.length then (fiA L n : Int) else -1
theorem fi_at {L : List As} {n : Int} {k : Nat} (hk : k < L.length) (h : ∀ j (hj : j < k), L[j].n ≠ n) (hx : L[k].n = n) : fiA L n = k := by
  induction L generalizing k with
  | nil => simp at hk
  | cons x L ih =>
    cases k with
    | zero =>
      simp only [List.getElem_cons_zero] at hx
      unfold fiA
      rw [List.takeWhile_cons, if_neg (by simp [hx])]
      rfl
    | succ k =>
      have h0 := h 0 (by omega)
      simp only [List.getElem_cons_zero] at h0
      have := ih (k := k) (by simpa using hk) (fun j hj => by have := h (j + 1) (by omega); simpa using this) (by simpa using hx)
      unfold fiA at this ⊢
      rw [List.takeWhile_cons, if_pos (by simpa using h0), List.length_cons, this]
theorem fi_all {L : List As} {n : Int} (h : ∀ j (hj : j < L.length), L[j].n ≠ n) : fiA L n = L.length := by
  induction L with
  | nil => rfl
  | cons x L ih =>
    have h0 := h 0 (by simp)
    simp only [List.getElem_cons_zero] at h0
    have := ih fun j hj => by have := h (j + 1) (by simp; omega); simpa using this
    unfold fiA at this ⊢
    rw [List.takeWhile_cons, if_pos (by simpa using h0), List.length_cons, this, List.length_cons]
end Go.Proofs.Ytpckbbjlihhpdaa
