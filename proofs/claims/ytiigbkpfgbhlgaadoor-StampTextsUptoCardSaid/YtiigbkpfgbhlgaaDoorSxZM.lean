/- A text cut at its points: the mathematics. -/
import Derived.Test.YtiigbkpfgbhlgaaDoorSxN
namespace Go.Proofs.YtiigbkpfgbhlgaaDoor
open Go.RowKit

def catB (at_ : Nat) (u : Nat → List UInt8) : List UInt8 := if at_ = 0 then u 0 else if at_ = 1 then u 0 ++ 46 :: u 1 else u 0 ++ 46 :: (u 1 ++ 46 :: u 2)
structure CutB (l : List UInt8) (k at_ : Nat) (u : Nat → List UInt8) : Prop where
  le : at_ ≤ 2
  eq : catB at_ u = l.take k
  nd : ∀ j, j < 3 → ∀ x ∈ u j, x ≠ 46
  em : ∀ j, at_ < j → u j = []
theorem CutB.start (l : List UInt8) : CutB l 0 0 (fun _ => []) := ⟨by omega, by simp [catB], fun _ _ x hx => by simp at hx, fun _ _ => rfl⟩
def upd1 (u : Nat → List UInt8) (i : Nat) (c : UInt8) : Nat → List UInt8 := fun j => if j = i then u i ++ [c] else u j
theorem take_more {l : List UInt8} {k : Nat} {c : UInt8} (h : l[k]? = some c) : l.take (k + 1) = l.take k ++ [c] := by rw [List.take_add_one, h]; rfl
theorem CutB.ch {l : List UInt8} {k at_ : Nat} {u : Nat → List UInt8} {c : UInt8} (h : CutB l k at_ u) (hk : l[k]? = some c) (hc : c ≠ 46) : CutB l (k + 1) at_ (upd1 u at_ c) := by
  refine ⟨h.le, ?_, fun j hj x hx => ?_, fun j hj => ?_⟩
  · rw [take_more hk, ← h.eq]
    have := h.le
    rcases (show at_ = 0 ∨ at_ = 1 ∨ at_ = 2 by omega) with rfl | rfl | rfl <;> simp [catB, upd1]
  · unfold upd1 at hx
    split at hx
    · rename_i e
      rcases List.mem_append.1 hx with hx | hx
      · exact h.nd at_ (e ▸ hj) x hx
      · rw [List.mem_singleton] at hx; subst hx; exact hc
    · exact h.nd j hj x hx
  · unfold upd1; rw [if_neg (by omega)]; exact h.em j hj
theorem CutB.dot {l : List UInt8} {k at_ : Nat} {u : Nat → List UInt8} (h : CutB l k at_ u) (hk : l[k]? = some 46) (ha : at_ < 2) : CutB l (k + 1) (at_ + 1) u := by
  refine ⟨by omega, ?_, h.nd, fun j hj => h.em j (by omega)⟩
  rw [take_more hk, ← h.eq]
  rcases (show at_ = 0 ∨ at_ = 1 by omega) with rfl | rfl
  · simp [catB, h.em 1 (by omega)]
  · simp [catB, h.em 2 (by omega)]
theorem CutB.over {l : List UInt8} {k : Nat} {u : Nat → List UInt8} (h : CutB l k 2 u) (hk : l[k]? = some 46) : ∀ a b c, ¬ Reads l a b c := fun a b c hr => by
  have hkl : k < l.length := by
    rcases Nat.lt_or_ge k l.length with h' | h'
    · exact h'
    · rw [List.getElem?_eq_none h'] at hk; cases hk
  have e : l = u 0 ++ 46 :: (u 1 ++ 46 :: (u 2 ++ 46 :: l.drop (k + 1))) := by
    have h1 : catB 2 u ++ [46] ++ l.drop (k + 1) = l := by
      rw [h.eq, ← take_more hk]
      exact List.take_append_drop _ _
    exact h1.symm.trans (by simp [catB])
  have hs := hr.split
  rw [e, splitK_at 2 _ _ (h.nd 0 (by omega)), splitK_at 1 _ _ (h.nd 1 (by omega)), splitK_at 0 _ _ (h.nd 2 (by omega))] at hs
  have := congrArg List.length hs
  simp [Lib.splitK] at this
theorem CutB.done {l : List UInt8} {at_ : Nat} {u : Nat → List UInt8} (h : CutB l l.length at_ u) {a b c : Nat} (hr : Reads l a b c) : at_ = 2 ∧ u 0 = dec a ∧ u 1 = dec b ∧ u 2 = dec c := by
  have hs := hr.split
  have e := h.eq
  rw [List.take_length] at e
  have := h.le
  rcases (show at_ = 0 ∨ at_ = 1 ∨ at_ = 2 by omega) with rfl | rfl | rfl
  · rw [← e] at hs
    simp only [catB] at hs
    rw [if_pos trivial, splitK_end 3 _ (h.nd 0 (by omega))] at hs
    have := congrArg List.length hs
    simp at this
  · rw [← e] at hs
    simp only [catB] at hs
    rw [if_neg (by omega), if_pos trivial, splitK_at 2 _ _ (h.nd 0 (by omega)), splitK_end 2 _ (h.nd 1 (by omega))] at hs
    have := congrArg List.length hs
    simp at this
  · rw [← e] at hs
    simp only [catB] at hs
    rw [if_neg (by omega), if_neg (by omega), splitK_at 2 _ _ (h.nd 0 (by omega)), splitK_at 1 _ _ (h.nd 1 (by omega)), splitK_end 1 _ (h.nd 2 (by omega))] at hs
    simp only [List.cons.injEq, and_true] at hs
    exact ⟨rfl, hs.1, hs.2.1, hs.2.2⟩
theorem CutB.good {l : List UInt8} {u : Nat → List UInt8} (h : CutB l l.length 2 u) {a b c : Nat} (h0 : a ≤ 4611686018427387904 ∧ u 0 = dec a) (h1 : b ≤ 4294967295 ∧ u 1 = dec b) (h2 : c ≤ 4294967295 ∧ u 2 = dec c) : Reads l a b c := by
  refine ⟨⟨h0.1, h1.1, h2.1⟩, ?_⟩
  have e := h.eq
  rw [List.take_length] at e
  rw [← e, ← h0.2, ← h1.2, ← h2.2]
  simp [catB]
end Go.Proofs.YtiigbkpfgbhlgaaDoor
