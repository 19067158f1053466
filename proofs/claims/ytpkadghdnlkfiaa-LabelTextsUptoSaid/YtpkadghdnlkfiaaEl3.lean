/- A slice of the call's own that slices.SortFunc has sorted: it holds the sorted list; nothing else has turned. -/
import Derived.Test.YtpkadghdnlkfiaaEl2
import Derived.Shelf.SlSortCmp.WholeK
namespace Go.Proofs.Ytpkadghdnlkfiaa
open Go.RowKit
open Go.Sort (flatK get_flatK size_flatK HoldsK putRowK)

section
variable {α : Type} [Inhabited α] {enc : α → List Value} {k : Nat}

theorem flatK_list (henc : ∀ x, (enc x).length = k) (hk : 0 < k) (d : Array α) : (flatK enc k d).toList = d.toList.flatMap enc := by
  apply List.ext_getElem?
  intro t
  rcases Nat.lt_or_ge t (d.size * k) with ht | ht
  · have hq : t / k < d.size := Nat.div_lt_of_lt_mul (by rwa [Nat.mul_comm] at ht)
    have hr : t % k < k := Nat.mod_lt _ hk
    have e1 : (flatK enc k d)[t]! = (enc d[t / k]!)[t % k]! := get_flatK enc k d t ht
    have hs : t < (flatK enc k d).size := by rw [size_flatK]; exact ht
    have e2 : (flatK enc k d).toList[t]? = some (flatK enc k d)[t]! := by
      rw [Array.getElem?_toList, Array.getElem?_eq_getElem hs, getElem!_pos _ t hs]
    have hx : d[t / k]! = d[t / k] := getElem!_pos d (t / k) hq
    have hu : (enc d[t / k])[t % k]? = some (enc d[t / k])[t % k]! := by
      have hl : t % k < (enc d[t / k]).length := by rw [henc]; exact hr
      rw [List.getElem?_eq_getElem hl, getElem!_pos (enc d[t / k]) (t % k) hl]
    have e3 := flatMap_get henc d.toList (t / k) d[t / k] (by rw [Array.getElem?_toList, Array.getElem?_eq_getElem hq]) (t % k) _ hu
    rw [Nat.mul_comm, Nat.div_add_mod] at e3
    rw [e2, e3, e1, hx]
  · rw [List.getElem?_eq_none (by rw [Array.length_toList, size_flatK]; exact ht), List.getElem?_eq_none (by rw [flatMap_len henc, Array.length_toList]; exact ht)]

variable {w : World} {K g n cap : Nat} {T : TypeId} {l : List α}
omit [Inhabited α] in
theorem So.len (h : So enc k w K T (.slice (some ⟨g, 0, none⟩) n cap) l) : n = l.length := by
  rcases h.2 with ⟨he, _⟩ | ⟨g', cap', cur, he, _⟩
  · cases he
  · injection he
theorem So.holdsK (henc : ∀ x, (enc x).length = k) (hk : 0 < k) (h : So enc k w K T (.slice (some ⟨g, 0, none⟩) n cap) l) : HoldsK enc k w g 0 l.toArray := by
  have hn := h.len
  subst hn
  intro j hj
  rw [size_flatK] at hj
  have hj' : j < (l.flatMap enc).length := by rw [flatMap_len henc]; simpa using hj
  have hs : j < (flatK enc k l.toArray).size := by rw [size_flatK]; exact hj
  have e : (flatK enc k l.toArray).toList[j]? = (l.flatMap enc)[j]? := by rw [flatK_list henc hk]
  refine ⟨?_, by rw [Nat.zero_add]; exact h.frozenAt j⟩
  have hc := h.cellAt j (by simpa using hj)
  rw [Nat.zero_add, hc, getElem!_pos _ j hs]
  rw [Array.getElem?_toList, Array.getElem?_eq_getElem hs] at e
  exact e.symm

theorem So.sorted (henc : ∀ x, (enc x).length = k) (hk : 0 < k) (h : So enc k w K T (.slice (some ⟨g, 0, none⟩) n cap) l) (d' : Array α) (hd : d'.size = l.length) (m : Nat) (os : Array Obj) :
    So enc k (sortWorldK enc k w g 0 m d' os) K T (.slice (some ⟨g, 0, none⟩) n cap) d'.toList ∧ ∀ B, B ≤ g → Below B w (sortWorldK enc k w g 0 m d' os) := by
  have hn := h.len
  subst hn
  rcases h.2 with ⟨he, _⟩ | ⟨g', cap', cur, he, hb, hg, hn, hc, hs, ht⟩
  · cases he
  injection he with h1 h2 h3
  injection h1 with h1
  injection h1 with h1
  subst h1 h3
  have hlt : g < w.heap.size := by
    rcases Nat.lt_or_ge g w.heap.size with h | h
    · exact h
    · rw [Array.getElem?_eq_none h] at hg; cases hg
  have hF : (flatK enc k d').size = l.length * k := by rw [size_flatK, hd]
  have hput : (sortWorldK enc k w g 0 m d' os).heap[g]? = some (.cells (Sort.putCells id 0 (flatK enc k d') cur) T (0, 0)) := by
    unfold sortWorldK
    rw [Sort.heap_grow_old _ _ (by unfold putRowK; rw [Sort.size_putRow]; exact hlt)]
    unfold putRowK Sort.putRow Sort.mapBlock
    rw [Array.getElem?_modify, if_pos rfl]
    show (w.heap[g]?).map _ = _
    rw [hg]
    rfl
  have hother : ∀ i, i < w.heap.size → i ≠ g → (sortWorldK enc k w g 0 m d' os).heap[i]? = w.heap[i]? := by
    intro i hi hne
    unfold sortWorldK
    rw [Sort.heap_grow_old _ _ (by unfold putRowK; rw [Sort.size_putRow]; exact hi)]
    unfold putRowK Sort.putRow Sort.mapBlock
    rw [Array.getElem?_modify, if_neg (fun e => hne e.symm)]
    rfl
  have hsz : w.heap.size ≤ (sortWorldK enc k w g 0 m d' os).heap.size := by
    unfold sortWorldK
    rw [Sort.size_grow]
    unfold putRowK
    rw [Sort.size_putRow]
    exact Nat.le_add_right _ _
  refine ⟨⟨by rw [flatMap_len henc], .inr ⟨g, cap, _, ?_, hb, hput, by rw [Array.length_toList, hd]; exact hn, hc, by simp [Sort.putCells, hs], ?_⟩⟩, fun B hB => ⟨rfl, rfl, rfl, hsz, fun i hi => hother i (by omega) (by omega)⟩⟩
  · rw [show d'.toList.length = l.length by simp [hd]]
  · have hcs : l.length * k ≤ cur.size := by rw [hs]; exact Nat.mul_le_mul_right _ hn
    rw [Array.length_toList, hd, ← flatK_list henc hk]
    apply List.ext_getElem?
    intro t
    rw [List.getElem?_take]
    split
    · rename_i hlt
      have h1 : t < (flatK enc k d').size := by rw [hF]; exact hlt
      rw [Array.getElem?_toList, Array.getElem?_toList, Array.getElem?_eq_getElem h1]
      unfold Sort.putCells
      rw [Array.getElem?_mapIdx, Array.getElem?_eq_getElem (by omega)]
      simp only [Option.map_some]
      rw [if_pos ⟨Nat.zero_le _, by rw [Nat.zero_add]; exact h1⟩, Nat.sub_zero, getElem!_pos _ t h1]
      rfl
    · rw [List.getElem?_eq_none]
      rw [Array.length_toList, hF]; omega
end
end Go.Proofs.Ytpkadghdnlkfiaa
