/- Steps of a control among a law's arguments. -/
import Derived.Test.YtcgkbpjfbahleaaIsR
namespace Go.Proofs.Ytcgkbpjfbahleaa
open Go.ChangeShapes Go.WideShapes Go.ChangeAt Go.RowKit Go.Deep Go.Joins

structure Op15 where
  k : Int
  n : Int
  ms : List Int
instance : Inhabited Op15 := ⟨⟨0, 0, []⟩⟩
/-- The slice at A with capacity cap reads as the steps os, in memory below block K. -/
structure Os15 (w : World) (K : Nat) (A : Option Addr) (cap : Nat) (os : List Op15) : Prop where
  le : os.length ≤ cap
  max : cap ≤ maxLen
  nil : A = none → cap = 0
  at_ : 0 < os.length → ∃ ad : Addr, A = some ad ∧ ad.block < K ∧ ∀ (i : Nat) (o : Op15), os[i]? = some o → w.cell? (ad.add (i * 3)) = some (.int .i64 o.k) ∧ w.cell? (ad.add (i * 3 + 1)) = some (.int .i64 o.n) ∧ (-9223372036854775808 ≤ o.n ∧ o.n ≤ 9223372036854775807) ∧
    ∃ A' c', w.cell? (ad.add (i * 3 + 2)) = some (.slice A' o.ms.length c') ∧ Sr encI 1 w K A' c' o.ms
section
variable {w w' : World} {K K' cap : Nat} {A : Option Addr} {os : List Op15}
theorem Os15.keep (h : Os15 w K A cap os) (hk : ∀ p : Addr, p.block < K → w'.cell? p = w.cell? p) : Os15 w' K A cap os :=
  ⟨h.le, h.max, h.nil, fun hn => by
    obtain ⟨ad, e, hb, hc⟩ := h.at_ hn
    refine ⟨ad, e, hb, fun i o hi => ?_⟩
    obtain ⟨h1, h2, h3, A2, c2, h6, h7⟩ := hc i o hi
    have hk' := fun j => hk (ad.add j) (by rw [el_block_of_add]; exact hb)
    exact ⟨(hk' _).trans h1, (hk' _).trans h2, h3, A2, c2, (hk' _).trans h6, h7.keep hk⟩⟩
theorem Os15.below (h : Os15 w K A cap os) (hb : Below K w w') : Os15 w' K A cap os := h.keep fun _ hp => hb.cell hp
/-- The step's cells as the walk spells them. -/
structure At15 (w : World) (K : Nat) (ad : Addr) (o : Op15) (A2 : Option Addr) (c2 : Nat) : Prop where
  lt : ad.block < K
  x0 : w.cell? ad = some (.int .i64 o.k)
  x1 : w.cell? ⟨ad.block, ad.off + 1, none⟩ = some (.int .i64 o.n)
  x2 : w.cell? ⟨ad.block, ad.off + 2, none⟩ = some (.slice A2 o.ms.length c2)
  n1 : -9223372036854775808 ≤ o.n
  n2 : o.n ≤ 9223372036854775807
  sr : Sr encI 1 w K A2 c2 o.ms
theorem Os15.get (h : Os15 w K A cap os) {i : Nat} {o : Op15} (hi : os[i]? = some o) : ∃ ad A2 c2, A = some ad ∧ At15 w K (ad.add (i * 3)) o A2 c2 := by
  have hil := (List.getElem?_eq_some_iff.1 hi).1
  obtain ⟨ad, e, hb, hc⟩ := h.at_ (by omega)
  obtain ⟨h1, h2, h3, A2, c2, h6, h7⟩ := hc i o hi
  refine ⟨ad, A2, c2, e, ⟨by rw [el_block_of_add]; exact hb, h1, ?_, ?_, h3.1, h3.2, h7⟩⟩
  · rw [← el_add_pos _ _ (by decide), el_add_of_add]; exact h2
  · rw [← el_add_pos _ _ (by decide), el_add_of_add]; exact h6
end
theorem cells_op15 : Try.prog.cellsOf 36 = 3 := by kernel_rfl
/-- One step's cells, opened. -/
theorem open_op15 {H : Type} {enc : TypeId × Value → H} {W : World} {base fuel : Nat} {sp : Nat → Bool} {held : Bool} {u0 u1 u2 : Value} {x : DataW H × List MemPlace} (ht : DataW.trod enc Try.prog W base sp held fuel 36 [u0, u1, u2] = some x) :
    ∃ (o : Op15) (A2 : Option Addr) (c2 : Nat), u0 = .int .i64 o.k ∧ u1 = .int .i64 o.n ∧ (-9223372036854775808 ≤ o.n ∧ o.n ≤ 9223372036854775807) ∧ u2 = .slice A2 o.ms.length c2 ∧ Sr encI 1 W W.heap.size A2 c2 o.ms := by
  obtain ⟨y0, y1, y2, n, _, _, g0, g1, g2⟩ := trod_struct3 Try.underlying36 ht
  simp only [cells_int, cells_isl, List.drop_zero, List.take_succ_cons, List.take_zero, List.drop_succ_cons] at g0 g1 g2
  obtain ⟨a, e0, _, _⟩ := DataW.trod_int Try.underlying3 g0
  obtain ⟨c, e1, _, iw⟩ := DataW.trod_int Try.underlying3 g1
  obtain ⟨A2, c2, l2, e3, hs⟩ := open_isr0 g2
  simp at e0 e1 e3
  subst e0 e1 e3
  have ir : -9223372036854775808 ≤ c ∧ c ≤ 9223372036854775807 := by simpa [Lit.wf, IntKind.min, IntKind.max, IntKind.signed, IntKind.bits] using iw
  exact ⟨⟨a, c, l2⟩, A2, c2, rfl, rfl, ir, rfl, hs⟩
set_option maxRecDepth 100000 in
theorem open_ops15 {H : Type} {enc : TypeId × Value → H} {W : World} {base : Nat} {v : Value} {d : DataW H} {p : List MemPlace}
    (hv : Value.okWide Try.prog W .any base 23 v) (h : DataW.Trod enc Try.prog W 0 (fun _ => true) true 23 v d p) :
    ∃ A cap os, v = .slice A os.length cap ∧ Os15 W W.heap.size A cap os := by
  obtain ⟨a1, len, cap, rfl⟩ := okWide_slice Try.underlying23 hv
  obtain ⟨fuel, hf⟩ := h
  rcases open_slice Try.underlying23 hf with ⟨hcs, hx⟩ | ⟨a, len', cap', m, n, D, Pl, hcs, _, hl, hmx, hmm, hx, hi⟩
  · simp [Value.cells] at hcs
    obtain ⟨rfl, rfl, rfl⟩ := hcs
    exact ⟨none, 0, [], rfl, ⟨Nat.le_refl _, Nat.zero_le _, fun _ => rfl, fun h => absurd h (by simp)⟩⟩
  · simp [Value.cells] at hcs
    obtain ⟨rfl, rfl, rfl⟩ := hcs
    have hlm : len ≤ m := by rw [hmm]; split <;> omega
    have each : ∀ i, i < len → ∃ x : Op15, W.cell? (a.add (i * 3)) = some (.int .i64 x.k) ∧ W.cell? (a.add (i * 3 + 1)) = some (.int .i64 x.n) ∧ (-9223372036854775808 ≤ x.n ∧ x.n ≤ 9223372036854775807) ∧
        ∃ A' c', W.cell? (a.add (i * 3 + 2)) = some (.slice A' x.ms.length c') ∧ Sr encI 1 W W.heap.size A' c' x.ms := fun i hil => by
      obtain ⟨cs', hc, ht⟩ := hi i (by omega)
      rw [cells_op15] at hc
      obtain ⟨_, hcl, hat⟩ := World.cells?_some hc
      match cs', hcl with
      | [u0, u1, u2], _ =>
        obtain ⟨x, A2, c2, rfl, rfl, hn, rfl, hs⟩ := open_op15 ht
        have h0 := hat 0 (by omega)
        have h1 := hat 1 (by omega)
        have h2 := hat 2 (by omega)
        rw [Go.Deep.add_add] at h0 h1 h2
        rw [Nat.add_zero] at h0
        exact ⟨x, h0, h1, hn, A2, c2, h2, hs⟩
    obtain ⟨f, hf'⟩ := choose_lt each
    have hll : ((List.range len).map f).length = len := by simp
    refine ⟨some a, cap, (List.range len).map f, by rw [hll], ⟨by rw [hll]; exact hl, hmx, (fun h => by cases h), fun hn => ⟨a, rfl, ?_, fun i m hk => ?_⟩⟩⟩
    · rw [hll] at hn
      have := World.block_lt_of_cell? W _ (hf' 0 hn).1
      rwa [el_block_of_add] at this
    · simp only [List.getElem?_map, Option.map_eq_some_iff] at hk
      obtain ⟨j, hj, he⟩ := hk
      obtain ⟨hj1, hj2⟩ := List.getElem?_eq_some_iff.1 hj
      simp at hj1 hj2
      subst hj2
      have := hf' i hj1
      rw [he] at this
      exact this
end Go.Proofs.Ytcgkbpjfbahleaa
