/- Samples among a law's arguments. -/
import Derived.Test.YtckbpajphfbaoaaTyM
import Derived.Test.YtckbpajphfbaoaaRow0
import Derived.Deep.Strs
import Derived.Deep.Slices
import Derived.Deep.Fields
import Derived.ChangeMaps5
import Derived.Lib.SmallJoins
namespace Go.Proofs.Ytckbpajphfbaoaa
open Go.ChangeShapes Go.WideShapes Go.ChangeAt Go.RowKit Go.Deep Go.Joins

theorem cells_smp : Try.prog.cellsOf 48 = 2 := by kernel_rfl
theorem cells_i64 : Try.prog.cellsOf 2 = 1 := by kernel_rfl
theorem cells_int : Try.prog.cellsOf 3 = 1 := by kernel_rfl
theorem bytes_smp : Try.prog.bytesOf 48 = 16 := by kernel_rfl
set_option maxRecDepth 100000 in
theorem open_smp {H : Type} {enc : TypeId × Value → H} {W : World} {base fuel : Nat} {sp : Nat → Bool} {held : Bool} {u0 u1 : Value} {x : DataW H × List MemPlace} (ht : DataW.trod enc Try.prog W base sp held fuel 48 [u0, u1] = some x) :
    ∃ v : Smp, [u0, u1] = encS v ∧ Sok v := by
  obtain ⟨ys, n', _, hy, _, hyl, hf⟩ := DataW.trod_struct Try.underlying48 ht
  match ys, hyl with
  | [y0, y1], _ =>
    have h0 := hf 0 _ rfl
    have h1 := hf 1 _ rfl
    simp [cells_i64] at h0 h1
    obtain ⟨a, e0, _, wa⟩ := DataW.trod_int Try.underlying2 h0
    obtain ⟨b, e1, _, wb⟩ := DataW.trod_int Try.underlying2 h1
    simp at e0 e1
    subst e0 e1
    have ba : -9223372036854775808 ≤ a ∧ a ≤ 9223372036854775807 := by simpa [Lit.wf, IntKind.min, IntKind.max, IntKind.signed, IntKind.bits] using wa
    have bb : -9223372036854775808 ≤ b ∧ b ≤ 9223372036854775807 := by simpa [Lit.wf, IntKind.min, IntKind.max, IntKind.signed, IntKind.bits] using wb
    exact ⟨(a, b), rfl, ⟨ba.1, ba.2, bb.1, bb.2⟩⟩
set_option maxRecDepth 100000 in
theorem open_smps {H : Type} {enc : TypeId × Value → H} {W : World} {base : Nat} {v : Value} {d : DataW H} {p : List MemPlace}
    (hv : Value.okWide Try.prog W .any base 22 v) (h : DataW.Trod enc Try.prog W 0 (fun _ => true) true 22 v d p) :
    ∃ A cap l, v = .slice A l.length cap ∧ Sr encS 2 W W.heap.size A cap l ∧ (∀ i ∈ l, Sok i) ∧ l.length ≤ Rows.uptoBulk d ∧ (l = [] ∨ ∃ es sp, d = .slice es sp ∧ l.length ≤ es.length) := by
  obtain ⟨a1, len, cap, rfl⟩ := okWide_slice Try.underlying22 hv
  obtain ⟨fuel, hf⟩ := h
  rcases open_slice Try.underlying22 hf with ⟨hcs, hx⟩ | ⟨a, len', cap', m, n, D, Pl, hcs, _, hl, hmx, hmm, hx, hi⟩
  · simp [Value.cells] at hcs
    obtain ⟨rfl, rfl, rfl⟩ := hcs
    exact ⟨none, 0, [], rfl, Sr.none_ _ _, by simp, by simp, .inl rfl⟩
  · simp [Value.cells] at hcs
    obtain ⟨rfl, rfl, rfl⟩ := hcs
    have hlm : len ≤ m := by rw [hmm]; split <;> omega
    have each : ∀ i, i < len → ∃ x : Smp, (∀ (j : Nat) u, (encS x)[j]? = some u → W.cell? (a.add (i * 2 + j)) = some u) ∧ Sok x := fun i hil => by
      obtain ⟨cs', hc, ht⟩ := hi i (by omega)
      rw [cells_smp] at hc
      obtain ⟨_, hcl, hat⟩ := World.cells?_some hc
      match cs', hcl with
      | [u0, u1], _ =>
        obtain ⟨x, hx, hok⟩ := open_smp ht
        refine ⟨x, fun j u hu => ?_, hok⟩
        have hj : j < 2 := by
          have := (List.getElem?_eq_some_iff.1 hu).1
          simpa [encS] using this
        have h0 := hat j hj
        rw [Go.Deep.add_add, hx] at h0
        exact h0.trans hu
    obtain ⟨f, hf'⟩ := choose_lt each
    have hll : ((List.range len).map f).length = len := by simp
    simp only [Prod.mk.injEq] at hx
    have hbulk := len_le_bulk ((List.range len).map D)
    simp only [List.length_map, List.length_range] at hbulk
    refine ⟨some a, cap, (List.range len).map f, by rw [hll], ⟨by rw [hll]; exact hl, hmx, (fun h => by cases h), fun hn => ⟨a, rfl, ?_, fun i x hk => ?_⟩⟩, ?_, ?_, ?_⟩
    · rw [hll] at hn
      have := World.block_lt_of_cell? W _ ((hf' 0 hn).1 0 _ rfl)
      rwa [el_block_of_add] at this
    · simp only [List.getElem?_map, Option.map_eq_some_iff] at hk
      obtain ⟨j, hj, he⟩ := hk
      obtain ⟨hj1, hj2⟩ := List.getElem?_eq_some_iff.1 hj
      simp at hj1 hj2
      subst hj2
      have h2 := hf' i hj1
      rw [he] at h2
      exact h2.1
    · intro x hxm
      obtain ⟨i, hi1, rfl⟩ := List.mem_map.1 hxm
      rw [List.mem_range] at hi1
      exact (hf' i hi1).2
    · rw [hll, hx.1]
      simp only [Rows.uptoBulk]
      omega
    · exact .inr ⟨_, _, hx.1, by simp⟩
theorem smp_sized {H : Type} {es sp : List (DataW H)} {ts : List TypeId} {ds : List (DataW H)} (h : (DataW.weightsEach Try.prog (22 :: ts) (.slice es sp :: ds)).all (· ≤ reachBytes) = true) : es.length * 16 ≤ 140737488351232 := by
  simp only [DataW.weightsEach, DataW.weights, Try.underlying22, bytes_smp, List.cons_append, List.all_cons, Bool.and_eq_true, decide_eq_true_eq] at h
  have h1 := h.1
  unfold reachBytes at h1
  omega
theorem smp_sized1 {H : Type} {t0 : TypeId} {d0 : DataW H} {es sp : List (DataW H)} {ts : List TypeId} {ds : List (DataW H)} (h : (DataW.weightsEach Try.prog (t0 :: 22 :: ts) (d0 :: .slice es sp :: ds)).all (· ≤ reachBytes) = true) : es.length * 16 ≤ 140737488351232 := by
  have h2 : (DataW.weights Try.prog t0 d0 ++ DataW.weightsEach Try.prog (22 :: ts) (.slice es sp :: ds)).all (· ≤ reachBytes) = true := by simpa only [DataW.weightsEach] using h
  rw [List.all_append, Bool.and_eq_true] at h2
  exact smp_sized h2.2
end Go.Proofs.Ytckbpajphfbaoaa
