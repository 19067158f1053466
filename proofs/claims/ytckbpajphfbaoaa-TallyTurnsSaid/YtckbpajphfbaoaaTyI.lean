/- How a slice of ints among a law's arguments is read. -/
import Derived.Test.YtckbpajphfbaoaaTyO
import Derived.Test.YtckbpajphfbaoaaTyTu
namespace Go.Proofs.Ytckbpajphfbaoaa
open Go.ChangeShapes Go.WideShapes Go.ChangeAt Go.RowKit Go.Deep

set_option maxRecDepth 100000 in
theorem open_tis {H : Type} {enc : TypeId × Value → H} {W : World} {base : Nat} {v : Value} {d : DataW H} {p : List MemPlace}
    (hv : Value.okWide Try.prog W .any base 43 v) (h : DataW.Trod enc Try.prog W 0 (fun _ => true) true 43 v d p) :
    ∃ A cap ts, v = .slice A ts.length cap ∧ Ti W W.heap.size A cap ts := by
  obtain ⟨a1, n, cap, rfl⟩ := okWide_slice Try.underlying43 hv
  obtain ⟨fuel, hf⟩ := h
  rcases open_ints Try.underlying43 Try.underlying3 cells_int hf with ⟨hcs, hx⟩ | ⟨a, len, cap', zs, hcs, _, hl, hm, hz, hx, hcell, hwz⟩
  · simp [Value.cells] at hcs
    obtain ⟨rfl, rfl, rfl⟩ := hcs
    exact ⟨none, 0, [], rfl, Nat.le_refl _, by unfold maxLen; omega, fun k hk => by simp at hk⟩
  · simp [Value.cells] at hcs
    obtain ⟨rfl, rfl, rfl⟩ := hcs
    have hzl : n ≤ zs.length := by rw [hz]; split <;> omega
    have hll : (zs.take n).length = n := by simp; omega
    refine ⟨some a, cap, zs.take n, by rw [hll], by rw [hll]; exact hl, hm, fun k hk => ?_⟩
    rw [hll] at hk
    have hkz : k < zs.length := by omega
    have e : (zs.take n).getD k 0 = zs[k] := by
      rw [List.getD_eq_getElem?_getD, List.getElem?_take, if_pos hk, List.getElem?_eq_getElem hkz]; rfl
    have hc := hcell k hkz
    have e2 : zs.getD k 0 = zs[k] := by rw [List.getD_eq_getElem?_getD, List.getElem?_eq_getElem hkz]; rfl
    rw [e2] at hc
    have hb : -9223372036854775808 ≤ zs[k] ∧ zs[k] ≤ 9223372036854775807 := by simpa [Lit.wf, IntKind.min, IntKind.max, IntKind.signed, IntKind.bits] using hwz zs[k] (List.getElem_mem hkz)
    refine ⟨a, rfl, ?_, by rw [e]; exact hc, by rw [e]; exact hb.1, by rw [e]; exact hb.2⟩
    have := World.block_lt_of_cell? W _ hc
    rwa [el_block_of_add] at this
end Go.Proofs.Ytckbpajphfbaoaa
