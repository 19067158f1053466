/- Steps of a disk among a law's arguments, and how long their lists may be. -/
import Derived.Test.YtpckbbjlihhpdaaDkOp
namespace Go.Proofs.Ytpckbbjlihhpdaa
open Go.ChangeShapes Go.WideShapes Go.ChangeAt Go.RowKit Go.Deep Go.Joins

/-- Each slice of a datum takes at most what memory holds. -/
def Sz {H : Type} (t : TypeId) (d : DataW H) : Prop := (DataW.weights Try.prog t d).all (· ≤ reachBytes) = true
theorem bytes_int : Try.prog.bytesOf 3 = 8 := by kernel_rfl
theorem sz_all {H : Type} {P : Program} {e : TypeId} {p : Nat → Bool} : ∀ {l : List (DataW H)}, (DataW.weightsAll P e l).all p = true → ∀ x ∈ l, (DataW.weights P e x).all p = true
  | [], _, _, hx => by cases hx
  | y :: r, h, x, hx => by
    rw [DataW.weightsAll, List.all_append, Bool.and_eq_true] at h
    rcases List.mem_cons.1 hx with rfl | hx
    · exact h.1
    · exact sz_all h.2 x hx
theorem sz_ints {H : Type} {zs : List Int} {n : Nat} (h : Sz (H := H) 31 (.slice (lits .i64 (zs.take n)) (lits .i64 (zs.drop n)))) : zs.length * 8 ≤ 140737488351232 := by
  unfold Sz at h
  simp only [DataW.weights, Try.underlying31, bytes_int, List.all_cons, Bool.and_eq_true, decide_eq_true_eq] at h
  have h1 := h.1
  unfold reachBytes at h1
  simp only [lits, List.length_map, List.length_take, List.length_drop] at h1
  omega
theorem sz_op {H : Type} {d0 d1 d2 d3 : DataW H} (h : Sz 33 (.agg [d0, d1, d2, d3])) : Sz 31 d3 := by
  unfold Sz at h ⊢
  simp only [DataW.weights, Try.underlying33, List.map_cons, List.map_nil, DataW.weightsEach, List.all_append, Bool.and_eq_true] at h
  exact h.2.2.2.1
theorem sz_mem {H : Type} {es sp : List (DataW H)} (h : Sz 22 (.slice es sp)) : ∀ x ∈ es, Sz 33 x := by
  unfold Sz at h
  simp only [DataW.weights, Try.underlying22, List.all_cons, List.all_append, Bool.and_eq_true] at h
  exact sz_all h.2.1
theorem open_isr0z {H : Type} {enc : TypeId × Value → H} {W : World} {base fuel : Nat} {sp : Nat → Bool} {held : Bool} {cs : List Value} {x : DataW H × List MemPlace} (hf : DataW.trod enc Try.prog W base sp held fuel 31 cs = some x) :
    ∃ A cap l, cs = [.slice A l.length cap] ∧ Sr encI 1 W W.heap.size A cap l ∧ (Sz 31 x.1 → l.length * 8 ≤ 140737488351232) := by
  rcases open_ints Try.underlying31 Try.underlying3 cells_int hf with ⟨hcs, hx⟩ | ⟨a, len, cap, zs, hcs, _, hl, hm, hz, hx, hcell, hwz⟩
  · subst hcs
    exact ⟨none, 0, [], rfl, Sr.none_ _ _, fun _ => by simp⟩
  · subst hcs
    have hzl : len ≤ zs.length := by rw [hz]; split <;> omega
    have hll : (zs.take len).length = len := by simp; omega
    refine ⟨some a, cap, zs.take len, by rw [hll], ⟨by rw [hll]; exact hl, hm, (fun h => by cases h), fun hn => ⟨a, rfl, ?_, fun i x hk j u hu => ?_⟩⟩, fun hs => ?_⟩
    · rw [hll] at hn
      have := World.block_lt_of_cell? W _ (hcell 0 (by omega))
      rwa [el_block_of_add] at this
    · rw [List.getElem?_take] at hk
      split at hk
      · have hkz := (List.getElem?_eq_some_iff.1 hk).1
        obtain rfl : j = 0 := by
          have := (List.getElem?_eq_some_iff.1 hu).1
          rw [encI_len] at this; omega
        have : zs.getD i 0 = x := by simp [List.getD, hk]
        rw [Nat.mul_one, Nat.add_zero, hcell i hkz, this]
        exact hu
      · cases hk
    · rw [hx] at hs
      have h1 := sz_ints hs
      omega
/-- One step's cells, opened. -/
theorem open_op7z {H : Type} {enc : TypeId × Value → H} {W : World} {base fuel : Nat} {sp : Nat → Bool} {held : Bool} {u0 u1 u2 u3 : Value} {x : DataW H × List MemPlace} (ht : DataW.trod enc Try.prog W base sp held fuel 33 [u0, u1, u2, u3] = some x) :
    ∃ (o : Op7) (A1 : Option Addr) (c1 : Nat) (A2 : Option Addr) (c2 : Nat), u0 = .int .i64 o.k ∧ u1 = .int .i64 o.n ∧ (-9223372036854775808 ≤ o.n ∧ o.n ≤ 9223372036854775807) ∧ u2 = .slice A1 o.p.length c1 ∧ Bs W W.heap.size A1 c1 o.p ∧ u3 = .slice A2 o.ks.length c2 ∧ Sr encI 1 W W.heap.size A2 c2 o.ks ∧ (Sz 33 x.1 → o.ks.length * 8 ≤ 140737488351232) := by
  obtain ⟨y0, y1, y2, y3, n, hx, _, g0, g1, g2, g3⟩ := trod_struct4 Try.underlying33 ht
  simp only [cells_int, cells_isl, cells_bsl, List.drop_zero, List.take_succ_cons, List.take_zero, List.drop_succ_cons] at g0 g1 g2 g3
  obtain ⟨a, e0, _, _⟩ := DataW.trod_int Try.underlying3 g0
  obtain ⟨c, e1, _, iw⟩ := DataW.trod_int Try.underlying3 g1
  obtain ⟨A1, c1, l1, e2, hb, _⟩ := open_bs0 g2
  obtain ⟨A2, c2, l2, e3, hs, hz⟩ := open_isr0z g3
  simp at e0 e1 e2 e3
  subst e0 e1 e2 e3
  have ir : -9223372036854775808 ≤ c ∧ c ≤ 9223372036854775807 := by simpa [Lit.wf, IntKind.min, IntKind.max, IntKind.signed, IntKind.bits] using iw
  exact ⟨⟨a, c, l1, l2⟩, A1, c1, A2, c2, rfl, rfl, ir, rfl, hb, rfl, hs, fun h => hz (sz_op (by rw [hx] at h; exact h))⟩
set_option maxRecDepth 100000 in
theorem open_ops7z {H : Type} {enc : TypeId × Value → H} {W : World} {base : Nat} {v : Value} {d : DataW H} {p : List MemPlace}
    (hv : Value.okWide Try.prog W .any base 22 v) (h : DataW.Trod enc Try.prog W 0 (fun _ => true) true 22 v d p) :
    ∃ A cap os, v = .slice A os.length cap ∧ Os7 W W.heap.size A cap os ∧ (Sz 22 d → ∀ o ∈ os, o.ks.length * 8 ≤ 140737488351232) := by
  obtain ⟨a1, len, cap, rfl⟩ := okWide_slice Try.underlying22 hv
  obtain ⟨fuel, hf⟩ := h
  rcases open_slice Try.underlying22 hf with ⟨hcs, hx⟩ | ⟨a, len', cap', m, n, D, Pl, hcs, _, hl, hmx, hmm, hx, hi⟩
  · simp [Value.cells] at hcs
    obtain ⟨rfl, rfl, rfl⟩ := hcs
    exact ⟨none, 0, [], rfl, ⟨Nat.le_refl _, Nat.zero_le _, fun _ => rfl, fun h => absurd h (by simp)⟩, fun _ o ho => by cases ho⟩
  · simp [Value.cells] at hcs
    obtain ⟨rfl, rfl, rfl⟩ := hcs
    have hlm : len ≤ m := by rw [hmm]; split <;> omega
    have each : ∀ i, i < len → ∃ x : Op7, (W.cell? (a.add (i * 4)) = some (.int .i64 x.k) ∧ W.cell? (a.add (i * 4 + 1)) = some (.int .i64 x.n) ∧ (-9223372036854775808 ≤ x.n ∧ x.n ≤ 9223372036854775807) ∧
        (∃ A' c', W.cell? (a.add (i * 4 + 2)) = some (.slice A' x.p.length c') ∧ Bs W W.heap.size A' c' x.p) ∧ ∃ A' c', W.cell? (a.add (i * 4 + 3)) = some (.slice A' x.ks.length c') ∧ Sr encI 1 W W.heap.size A' c' x.ks) ∧ (Sz 33 (D i) → x.ks.length * 8 ≤ 140737488351232) := fun i hil => by
      obtain ⟨cs', hc, ht⟩ := hi i (by omega)
      rw [cells_op7] at hc
      obtain ⟨_, hcl, hat⟩ := World.cells?_some hc
      match cs', hcl with
      | [u0, u1, u2, u3], _ =>
        obtain ⟨x, A1, c1, A2, c2, rfl, rfl, hn, rfl, hb, rfl, hs, hz⟩ := open_op7z ht
        have h0 := hat 0 (by omega)
        have h1 := hat 1 (by omega)
        have h2 := hat 2 (by omega)
        have h3 := hat 3 (by omega)
        rw [Go.Deep.add_add] at h0 h1 h2 h3
        rw [Nat.add_zero] at h0
        exact ⟨x, ⟨h0, h1, hn, ⟨A1, c1, h2, hb⟩, A2, c2, h3, hs⟩, hz⟩
    obtain ⟨f, hf'⟩ := choose_lt each
    have hll : ((List.range len).map f).length = len := by simp
    refine ⟨some a, cap, (List.range len).map f, by rw [hll], ⟨by rw [hll]; exact hl, hmx, (fun h => by cases h), fun hn => ⟨a, rfl, ?_, fun i m hk => ?_⟩⟩, fun hs o ho => ?_⟩
    · rw [hll] at hn
      have := World.block_lt_of_cell? W _ (hf' 0 hn).1.1
      rwa [block_of_add] at this
    · simp only [List.getElem?_map, Option.map_eq_some_iff] at hk
      obtain ⟨j, hj, he⟩ := hk
      obtain ⟨hj1, hj2⟩ := List.getElem?_eq_some_iff.1 hj
      simp at hj1 hj2
      subst hj2
      have := (hf' i hj1).1
      rw [he] at this
      exact this
    · obtain ⟨i, hi1, rfl⟩ := List.mem_map.1 ho
      rw [List.mem_range] at hi1
      refine (hf' i hi1).2 (sz_mem (by have hd := congrArg Prod.fst hx; simp only at hd; rw [hd] at hs; exact hs) (D i) (List.mem_map.2 ⟨i, List.mem_range.2 hi1, rfl⟩))
end Go.Proofs.Ytpckbbjlihhpdaa
