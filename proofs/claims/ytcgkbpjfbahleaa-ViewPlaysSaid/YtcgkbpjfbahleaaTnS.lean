/- Slices of flat elements behind what a call turned; a cell of a slice of the own is turned. -/
import Derived.Test.YtcgkbpjfbahleaaTn
import Derived.Test.YtcgkbpjfbahleaaEl2
namespace Go.Proofs.Ytcgkbpjfbahleaa
open Go.RowKit

theorem Sr.tn {α : Type} {enc : α → List Value} {k K cap : Nat} {A : Option Addr} {l : List α} {P : Nat → Prop} {w w' : World} (hb : Sr enc k w K A cap l) (h : Tn P w w') (hn : 0 < l.length → ∀ ad : Addr, A = some ad → ¬ P ad.block) : Sr enc k w' K A cap l :=
  ⟨hb.le, hb.max, hb.nil, fun hl => by
    obtain ⟨ad, e, hk, hc⟩ := hb.at_ hl
    refine ⟨ad, e, hk, fun i x hi j u hu => ?_⟩
    have := hc i x hi j u hu
    have hbl : (ad.add (i * k + j)).block = ad.block := el_block_of_add ad _
    generalize ad.add (i * k + j) = q at *
    exact h.cell this (by rw [hbl]; exact hn hl ad e)⟩
theorem So.tn {α : Type} {enc : α → List Value} {k : Nat} {P : Nat → Prop} {w w' : World} {K : Nat} {T : TypeId} {v : Value} {l : List α} (h : So enc k w K T v l) (t : Tn P w w') (hn : ∀ g, v.ownBlock = some g → ¬ P g) : So enc k w' K T v l := by
  have hlt := h.lt
  rcases h.2 with ⟨he, h0⟩ | ⟨g, cap', cur, he, hb, hg, hrest⟩
  · exact ⟨h.1, .inl ⟨he, h0⟩⟩
  · subst he
    exact ⟨h.1, .inr ⟨g, cap', cur, rfl, hb, (t.block g (hlt g rfl).2 (hn g rfl)).trans hg, hrest⟩⟩
theorem flat_set1 {α : Type} {enc : α → List Value} {k : Nat} (henc : ∀ x, (enc x).length = k) {j : Nat} (hj : j < k) {u : Value} : ∀ (l : List α) (i : Nat) (x y : α), l[i]? = some x → enc y = (enc x).set j u → (l.flatMap enc).set (i * k + j) u = (l.set i y).flatMap enc
  | [], i, x, y, h, _ => by simp at h
  | z :: l, 0, x, y, h, he => by
    simp at h
    subst h
    rw [List.flatMap_cons, Nat.zero_mul, Nat.zero_add, List.set_append_left _ _ (by rw [henc]; exact hj), List.set_cons_zero, List.flatMap_cons, he]
  | z :: l, i + 1, x, y, h, he => by
    have ih := flat_set1 henc hj l i x y (by simpa using h) he
    have e : (i + 1) * k + j - (enc z).length = i * k + j := by rw [henc, Nat.add_mul]; omega
    rw [List.flatMap_cons, List.set_append_right _ _ (by rw [henc, Nat.add_mul]; omega), e, ih, List.set_cons_succ, List.flatMap_cons]
theorem So.set1 {α : Type} {enc : α → List Value} {k : Nat} (henc : ∀ x, (enc x).length = k) {w : World} {K : Nat} {T : TypeId} {g n cap : Nat} {l : List α} (h : So enc k w K T (.slice (some ⟨g, 0, none⟩) n cap) l) {i j : Nat} (hj : j < k) {u : Value} {x y : α} (hx : l[i]? = some x) (he : enc y = (enc x).set j u) :
    So enc k (w.setCell ⟨g, i * k + j, none⟩ u) K T (.slice (some ⟨g, 0, none⟩) n cap) (l.set i y) := by
  obtain ⟨A', c', e⟩ := h.form
  injection e with _ e _
  subst e
  have h1 := (World.ownsRow.stored h (i * k + j) u).1
  unfold So
  rw [List.length_set, ← flat_set1 henc hj l i x y hx he]
  exact h1
end Go.Proofs.Ytcgkbpjfbahleaa
