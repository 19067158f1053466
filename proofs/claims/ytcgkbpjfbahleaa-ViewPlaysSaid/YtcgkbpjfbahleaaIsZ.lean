/- Slices of ints among a law's arguments, and how long they may be. -/
import Derived.Test.YtcgkbpjfbahleaaIsR
namespace Go.Proofs.Ytcgkbpjfbahleaa
open Go.ChangeShapes Go.WideShapes Go.ChangeAt Go.RowKit Go.Deep Go.Joins

/-- Each slice of a datum takes at most what memory holds. -/
def Sz {H : Type} (t : TypeId) (d : DataW H) : Prop := (DataW.weights Try.prog t d).all (· ≤ reachBytes) = true
theorem bytes_int : Try.prog.bytesOf 3 = 8 := by kernel_rfl
theorem sz_all {H : Type} {P : Program} {e : TypeId} {p : Nat → Bool} : ∀ {l : List (DataW H)}, (DataW.weightsAll P e l).all p = true → ∀ x ∈ l, (DataW.weights P e x).all p = true
  | [], _, _, hx => by cases hx
  | y :: r, h, x, hx => by
    rw [DataW.weightsAll, List.all_append, Bool.and_eq_true] at h
    rcases List.mem_cons.1 hx with rfl | hx
    · exact h.1
    · exact sz_all h.2 x hx
theorem sz_ints {H : Type} {zs : List Int} {n : Nat} (h : Sz (H := H) 22 (.slice (lits .i64 (zs.take n)) (lits .i64 (zs.drop n)))) : zs.length * 8 ≤ 140737488351232 := by
  unfold Sz at h
  simp only [DataW.weights, Try.underlying22, bytes_int, List.all_cons, Bool.and_eq_true, decide_eq_true_eq] at h
  have h1 := h.1
  unfold reachBytes at h1
  simp only [lits, List.length_map, List.length_take, List.length_drop] at h1
  omega
theorem open_isr0z {H : Type} {enc : TypeId × Value → H} {W : World} {base fuel : Nat} {sp : Nat → Bool} {held : Bool} {cs : List Value} {x : DataW H × List MemPlace} (hf : DataW.trod enc Try.prog W base sp held fuel 22 cs = some x) :
    ∃ A cap l, cs = [.slice A l.length cap] ∧ Sr encI 1 W W.heap.size A cap l ∧ (Sz 22 x.1 → l.length * 8 ≤ 140737488351232) := by
  rcases open_ints Try.underlying22 Try.underlying3 cells_int hf with ⟨hcs, hx⟩ | ⟨a, len, cap, zs, hcs, _, hl, hm, hz, hx, hcell, hwz⟩
  · subst hcs
    exact ⟨none, 0, [], rfl, Sr.none_ _ _, fun _ => by simp⟩
  · subst hcs
    have hzl : len ≤ zs.length := by rw [hz]; split <;> omega
    have hll : (zs.take len).length = len := by simp; omega
    refine ⟨some a, cap, zs.take len, by rw [hll], ⟨by rw [hll]; exact hl, hm, (fun h => by cases h), fun hn => ⟨a, rfl, ?_, fun i x hk j u hu => ?_⟩⟩, fun hs => ?_⟩
    · rw [hll] at hn
      have := World.block_lt_of_cell? W _ (hcell 0 (by omega))
      rwa [el_block_of_add] at this
    · rw [List.getElem?_take] at hk
      split at hk
      · have hkz := (List.getElem?_eq_some_iff.1 hk).1
        obtain rfl : j = 0 := by
          have := (List.getElem?_eq_some_iff.1 hu).1
          rw [encI_len] at this; omega
        have : zs.getD i 0 = x := by simp [List.getD, hk]
        rw [Nat.mul_one, Nat.add_zero, hcell i hkz, this]
        exact hu
      · cases hk
    · rw [hx] at hs
      have h1 := sz_ints hs
      omega
set_option maxRecDepth 100000 in
theorem open_isrz {H : Type} {enc : TypeId × Value → H} {W : World} {base : Nat} {v : Value} {d : DataW H} {p : List MemPlace}
    (hv : Value.okWide Try.prog W .any base 22 v) (h : DataW.Trod enc Try.prog W 0 (fun _ => true) true 22 v d p) :
    ∃ A cap l, v = .slice A l.length cap ∧ Sr encI 1 W W.heap.size A cap l ∧ (Sz 22 d → l.length * 8 ≤ 140737488351232) := by
  obtain ⟨a1, n, cap, rfl⟩ := okWide_slice Try.underlying22 hv
  obtain ⟨fuel, hf⟩ := h
  obtain ⟨A, cap', l, hcs, hb, hz⟩ := open_isr0z hf
  simp [Value.cells] at hcs
  obtain ⟨rfl, rfl, rfl⟩ := hcs
  exact ⟨_, _, l, rfl, hb, hz⟩
end Go.Proofs.Ytcgkbpjfbahleaa
