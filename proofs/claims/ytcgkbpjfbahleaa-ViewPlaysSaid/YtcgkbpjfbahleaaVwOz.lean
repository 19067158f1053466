/- Steps of a control among a law's arguments, and how long their lists may be. -/
import Derived.Test.YtcgkbpjfbahleaaVwO
import Derived.Test.YtcgkbpjfbahleaaIsZ
namespace Go.Proofs.Ytcgkbpjfbahleaa
open Go.ChangeShapes Go.WideShapes Go.ChangeAt Go.RowKit Go.Deep Go.Joins

theorem sz_op15 {H : Type} {d0 d1 d2 : DataW H} (h : Sz 36 (.agg [d0, d1, d2])) : Sz 22 d2 := by
  unfold Sz at h ⊢
  simp only [DataW.weights, Try.underlying36, List.map_cons, List.map_nil, DataW.weightsEach, List.all_append, Bool.and_eq_true] at h
  exact h.2.2.1
theorem sz_mem15 {H : Type} {es sp : List (DataW H)} (h : Sz 23 (.slice es sp)) : ∀ x ∈ es, Sz 36 x := by
  unfold Sz at h
  simp only [DataW.weights, Try.underlying23, List.all_cons, List.all_append, Bool.and_eq_true] at h
  exact sz_all h.2.1
/-- One step's cells, opened. -/
theorem open_op15z {H : Type} {enc : TypeId × Value → H} {W : World} {base fuel : Nat} {sp : Nat → Bool} {held : Bool} {u0 u1 u2 : Value} {x : DataW H × List MemPlace} (ht : DataW.trod enc Try.prog W base sp held fuel 36 [u0, u1, u2] = some x) :
    ∃ (o : Op15) (A2 : Option Addr) (c2 : Nat), u0 = .int .i64 o.k ∧ u1 = .int .i64 o.n ∧ (-9223372036854775808 ≤ o.n ∧ o.n ≤ 9223372036854775807) ∧ u2 = .slice A2 o.ms.length c2 ∧ Sr encI 1 W W.heap.size A2 c2 o.ms ∧ (Sz 36 x.1 → o.ms.length * 8 ≤ 140737488351232) := by
  obtain ⟨y0, y1, y2, n, hx, _, g0, g1, g2⟩ := trod_struct3 Try.underlying36 ht
  simp only [cells_int, cells_isl, List.drop_zero, List.take_succ_cons, List.take_zero, List.drop_succ_cons] at g0 g1 g2
  obtain ⟨a, e0, _, _⟩ := DataW.trod_int Try.underlying3 g0
  obtain ⟨c, e1, _, iw⟩ := DataW.trod_int Try.underlying3 g1
  obtain ⟨A2, c2, l2, e3, hs, hz⟩ := open_isr0z g2
  simp at e0 e1 e3
  subst e0 e1 e3
  have ir : -9223372036854775808 ≤ c ∧ c ≤ 9223372036854775807 := by simpa [Lit.wf, IntKind.min, IntKind.max, IntKind.signed, IntKind.bits] using iw
  exact ⟨⟨a, c, l2⟩, A2, c2, rfl, rfl, ir, rfl, hs, fun h => hz (sz_op15 (by rw [hx] at h; exact h))⟩
set_option maxRecDepth 100000 in
theorem open_ops15z {H : Type} {enc : TypeId × Value → H} {W : World} {base : Nat} {v : Value} {d : DataW H} {p : List MemPlace}
    (hv : Value.okWide Try.prog W .any base 23 v) (h : DataW.Trod enc Try.prog W 0 (fun _ => true) true 23 v d p) :
    ∃ A cap os, v = .slice A os.length cap ∧ Os15 W W.heap.size A cap os ∧ (Sz 23 d → ∀ o ∈ os, o.ms.length * 8 ≤ 140737488351232) := by
  obtain ⟨a1, len, cap, rfl⟩ := okWide_slice Try.underlying23 hv
  obtain ⟨fuel, hf⟩ := h
  rcases open_slice Try.underlying23 hf with ⟨hcs, hx⟩ | ⟨a, len', cap', m, n, D, Pl, hcs, _, hl, hmx, hmm, hx, hi⟩
  · simp [Value.cells] at hcs
    obtain ⟨rfl, rfl, rfl⟩ := hcs
    exact ⟨none, 0, [], rfl, ⟨Nat.le_refl _, Nat.zero_le _, fun _ => rfl, fun h => absurd h (by simp)⟩, fun _ o ho => by cases ho⟩
  · simp [Value.cells] at hcs
    obtain ⟨rfl, rfl, rfl⟩ := hcs
    have hlm : len ≤ m := by rw [hmm]; split <;> omega
    have each : ∀ i, i < len → ∃ x : Op15, (W.cell? (a.add (i * 3)) = some (.int .i64 x.k) ∧ W.cell? (a.add (i * 3 + 1)) = some (.int .i64 x.n) ∧ (-9223372036854775808 ≤ x.n ∧ x.n ≤ 9223372036854775807) ∧
        ∃ A' c', W.cell? (a.add (i * 3 + 2)) = some (.slice A' x.ms.length c') ∧ Sr encI 1 W W.heap.size A' c' x.ms) ∧ (Sz 36 (D i) → x.ms.length * 8 ≤ 140737488351232) := fun i hil => by
      obtain ⟨cs', hc, ht⟩ := hi i (by omega)
      rw [cells_op15] at hc
      obtain ⟨_, hcl, hat⟩ := World.cells?_some hc
      match cs', hcl with
      | [u0, u1, u2], _ =>
        obtain ⟨x, A2, c2, rfl, rfl, hn, rfl, hs, hz⟩ := open_op15z ht
        have h0 := hat 0 (by omega)
        have h1 := hat 1 (by omega)
        have h2 := hat 2 (by omega)
        rw [Go.Deep.add_add] at h0 h1 h2
        rw [Nat.add_zero] at h0
        exact ⟨x, ⟨h0, h1, hn, A2, c2, h2, hs⟩, hz⟩
    obtain ⟨f, hf'⟩ := choose_lt each
    have hll : ((List.range len).map f).length = len := by simp
    refine ⟨some a, cap, (List.range len).map f, by rw [hll], ⟨by rw [hll]; exact hl, hmx, (fun h => by cases h), fun hn => ⟨a, rfl, ?_, fun i m hk => ?_⟩⟩, fun hs o ho => ?_⟩
    · rw [hll] at hn
      have := World.block_lt_of_cell? W _ (hf' 0 hn).1.1
      rwa [el_block_of_add] at this
    · simp only [List.getElem?_map, Option.map_eq_some_iff] at hk
      obtain ⟨j, hj, he⟩ := hk
      obtain ⟨hj1, hj2⟩ := List.getElem?_eq_some_iff.1 hj
      simp at hj1 hj2
      subst hj2
      have := (hf' i hj1).1
      rw [he] at this
      exact this
    · obtain ⟨i, hi1, rfl⟩ := List.mem_map.1 ho
      rw [List.mem_range] at hi1
      refine (hf' i hi1).2 (sz_mem15 (by have hd := congrArg Prod.fst hx; simp only at hd; rw [hd] at hs; exact hs) (D i) (List.mem_map.2 ⟨i, List.mem_range.2 hi1, rfl⟩))
end Go.Proofs.Ytcgkbpjfbahleaa
