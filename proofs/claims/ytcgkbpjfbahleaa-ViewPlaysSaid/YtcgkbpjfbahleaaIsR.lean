/- Slices of ints among a law's arguments. -/
import Derived.Test.YtcgkbpjfbahleaaRow
import Derived.Test.YtcgkbpjfbahleaaEnI
import Derived.Deep.Strs
import Derived.Lib.SmallJoins
namespace Go.Proofs.Ytcgkbpjfbahleaa
open Go.ChangeShapes Go.WideShapes Go.ChangeAt Go.RowKit Go.Deep Go.Joins

theorem cells_int : Try.prog.cellsOf 3 = 1 := by kernel_rfl
theorem cells_isl : Try.prog.cellsOf 22 = 1 := by kernel_rfl
theorem open_isr0 {H : Type} {enc : TypeId × Value → H} {W : World} {base fuel : Nat} {sp : Nat → Bool} {held : Bool} {cs : List Value} {x : DataW H × List MemPlace} (hf : DataW.trod enc Try.prog W base sp held fuel 22 cs = some x) :
    ∃ A cap l, cs = [.slice A l.length cap] ∧ Sr encI 1 W W.heap.size A cap l := by
  rcases open_ints Try.underlying22 Try.underlying3 cells_int hf with ⟨hcs, hx⟩ | ⟨a, len, cap, zs, hcs, _, hl, hm, hz, hx, hcell, hwz⟩
  · subst hcs
    exact ⟨none, 0, [], rfl, Sr.none_ _ _⟩
  · subst hcs
    have hzl : len ≤ zs.length := by rw [hz]; split <;> omega
    have hll : (zs.take len).length = len := by simp; omega
    refine ⟨some a, cap, zs.take len, by rw [hll], ⟨by rw [hll]; exact hl, hm, (fun h => by cases h), fun hn => ⟨a, rfl, ?_, fun i x hk j u hu => ?_⟩⟩⟩
    · rw [hll] at hn
      have := World.block_lt_of_cell? W _ (hcell 0 (by omega))
      rwa [el_block_of_add] at this
    · rw [List.getElem?_take] at hk
      split at hk
      · have hkz := (List.getElem?_eq_some_iff.1 hk).1
        obtain rfl : j = 0 := by
          have := (List.getElem?_eq_some_iff.1 hu).1
          rw [encI_len] at this; omega
        have : zs.getD i 0 = x := by simp [List.getD, hk]
        rw [Nat.mul_one, Nat.add_zero, hcell i hkz, this]
        exact hu
      · cases hk
set_option maxRecDepth 100000 in
theorem open_isr {H : Type} {enc : TypeId × Value → H} {W : World} {base : Nat} {v : Value} {d : DataW H} {p : List MemPlace}
    (hv : Value.okWide Try.prog W .any base 22 v) (h : DataW.Trod enc Try.prog W 0 (fun _ => true) true 22 v d p) :
    ∃ A cap l, v = .slice A l.length cap ∧ Sr encI 1 W W.heap.size A cap l := by
  obtain ⟨a1, n, cap, rfl⟩ := okWide_slice Try.underlying22 hv
  obtain ⟨fuel, hf⟩ := h
  obtain ⟨A, cap', l, hcs, hb⟩ := open_isr0 hf
  simp [Value.cells] at hcs
  obtain ⟨rfl, rfl, rfl⟩ := hcs
  exact ⟨_, _, l, rfl, hb⟩
end Go.Proofs.Ytcgkbpjfbahleaa
