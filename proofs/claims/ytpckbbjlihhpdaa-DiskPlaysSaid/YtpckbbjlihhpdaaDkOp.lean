/- Slices of ints and of steps of a disk, among a law's arguments. -/
import Derived.Test.YtpckbbjlihhpdaaByW
import Derived.Test.YtpckbbjlihhpdaaDkB
import Derived.Test.YtpckbbjlihhpdaaRow
import Derived.Deep.Strs
import Derived.Lib.SmallJoins
namespace Go.Proofs.Ytpckbbjlihhpdaa
open Go.ChangeShapes Go.WideShapes Go.ChangeAt Go.RowKit Go.Deep Go.Joins

structure Op7 where
  k : Int
  n : Int
  p : List UInt8
  ks : List Int
instance : Inhabited Op7 := ⟨⟨0, 0, [], []⟩⟩
/-- The slice at A with capacity cap reads as the steps os, in memory below block K. -/
structure Os7 (w : World) (K : Nat) (A : Option Addr) (cap : Nat) (os : List Op7) : Prop where
  le : os.length ≤ cap
  max : cap ≤ maxLen
  nil : A = none → cap = 0
  at_ : 0 < os.length → ∃ ad : Addr, A = some ad ∧ ad.block < K ∧ ∀ (i : Nat) (o : Op7), os[i]? = some o → w.cell? (ad.add (i * 4)) = some (.int .i64 o.k) ∧ w.cell? (ad.add (i * 4 + 1)) = some (.int .i64 o.n) ∧ (-9223372036854775808 ≤ o.n ∧ o.n ≤ 9223372036854775807) ∧
    (∃ A' c', w.cell? (ad.add (i * 4 + 2)) = some (.slice A' o.p.length c') ∧ Bs w K A' c' o.p) ∧ ∃ A' c', w.cell? (ad.add (i * 4 + 3)) = some (.slice A' o.ks.length c') ∧ Sr encI 1 w K A' c' o.ks

section
variable {w w' : World} {K K' cap : Nat} {A : Option Addr} {os : List Op7}
theorem Os7.keep (h : Os7 w K A cap os) (hk : ∀ p : Addr, p.block < K → w'.cell? p = w.cell? p) : Os7 w' K A cap os :=
  ⟨h.le, h.max, h.nil, fun hn => by
    obtain ⟨ad, e, hb, hc⟩ := h.at_ hn
    refine ⟨ad, e, hb, fun i o hi => ?_⟩
    obtain ⟨h1, h2, h3, ⟨A', c', h4, h5⟩, A2, c2, h6, h7⟩ := hc i o hi
    have hk' := fun j => hk (ad.add j) (by rw [block_of_add]; exact hb)
    exact ⟨(hk' _).trans h1, (hk' _).trans h2, h3, ⟨A', c', (hk' _).trans h4, h5.keep hk⟩, A2, c2, (hk' _).trans h6, h7.keep hk⟩⟩
theorem Os7.below (h : Os7 w K A cap os) (hb : Below K w w') : Os7 w' K A cap os := h.keep fun _ hp => hb.cell hp
/-- The step's cells as the walk spells them. -/
structure At7 (w : World) (K : Nat) (ad : Addr) (o : Op7) (A1 : Option Addr) (c1 : Nat) (A2 : Option Addr) (c2 : Nat) : Prop where
  lt : ad.block < K
  x0 : w.cell? ad = some (.int .i64 o.k)
  x1 : w.cell? ⟨ad.block, ad.off + 1, none⟩ = some (.int .i64 o.n)
  x2 : w.cell? ⟨ad.block, ad.off + 2, none⟩ = some (.slice A1 o.p.length c1)
  x3 : w.cell? ⟨ad.block, ad.off + 3, none⟩ = some (.slice A2 o.ks.length c2)
  n1 : -9223372036854775808 ≤ o.n
  n2 : o.n ≤ 9223372036854775807
  bs : Bs w K A1 c1 o.p
  sr : Sr encI 1 w K A2 c2 o.ks
theorem Os7.get (h : Os7 w K A cap os) {i : Nat} {o : Op7} (hi : os[i]? = some o) : ∃ ad A1 c1 A2 c2, A = some ad ∧ At7 w K (ad.add (i * 4)) o A1 c1 A2 c2 := by
  have hil := (List.getElem?_eq_some_iff.1 hi).1
  obtain ⟨ad, e, hb, hc⟩ := h.at_ (by omega)
  obtain ⟨h1, h2, h3, ⟨A1, c1, h4, h5⟩, A2, c2, h6, h7⟩ := hc i o hi
  refine ⟨ad, A1, c1, A2, c2, e, ⟨by rw [block_of_add]; exact hb, h1, ?_, ?_, ?_, h3.1, h3.2, h5, h7⟩⟩
  · rw [← el_add_pos _ _ (by decide), el_add_of_add]; exact h2
  · rw [← el_add_pos _ _ (by decide), el_add_of_add]; exact h4
  · rw [← el_add_pos _ _ (by decide), el_add_of_add]; exact h6
end

theorem cells_op7 : Try.prog.cellsOf 33 = 4 := by kernel_rfl
theorem cells_int : Try.prog.cellsOf 3 = 1 := by kernel_rfl
theorem cells_isl : Try.prog.cellsOf 31 = 1 := by kernel_rfl
theorem cells_bsl : Try.prog.cellsOf 30 = 1 := by kernel_rfl
theorem open_isr0 {H : Type} {enc : TypeId × Value → H} {W : World} {base fuel : Nat} {sp : Nat → Bool} {held : Bool} {cs : List Value} {x : DataW H × List MemPlace} (hf : DataW.trod enc Try.prog W base sp held fuel 31 cs = some x) :
    ∃ A cap l, cs = [.slice A l.length cap] ∧ Sr encI 1 W W.heap.size A cap l := by
  rcases open_ints Try.underlying31 Try.underlying3 cells_int hf with ⟨hcs, hx⟩ | ⟨a, len, cap, zs, hcs, _, hl, hm, hz, hx, hcell, hwz⟩
  · subst hcs
    exact ⟨none, 0, [], rfl, Sr.none_ _ _⟩
  · subst hcs
    have hzl : len ≤ zs.length := by rw [hz]; split <;> omega
    have hll : (zs.take len).length = len := by simp; omega
    refine ⟨some a, cap, zs.take len, by rw [hll], ⟨by rw [hll]; exact hl, hm, (fun h => by cases h), fun hn => ⟨a, rfl, ?_, fun i x hk j u hu => ?_⟩⟩⟩
    · rw [hll] at hn
      have := World.block_lt_of_cell? W _ (hcell 0 (by omega))
      rwa [el_block_of_add] at this
    · rw [List.getElem?_take] at hk
      split at hk
      · have hkz := (List.getElem?_eq_some_iff.1 hk).1
        obtain rfl : j = 0 := by
          have := (List.getElem?_eq_some_iff.1 hu).1
          rw [encI_len] at this; omega
        have : zs.getD i 0 = x := by simp [List.getD, hk]
        rw [Nat.mul_one, Nat.add_zero, hcell i hkz, this]
        exact hu
      · cases hk
set_option maxRecDepth 100000 in
theorem open_isr {H : Type} {enc : TypeId × Value → H} {W : World} {base : Nat} {v : Value} {d : DataW H} {p : List MemPlace}
    (hv : Value.okWide Try.prog W .any base 31 v) (h : DataW.Trod enc Try.prog W 0 (fun _ => true) true 31 v d p) :
    ∃ A cap l, v = .slice A l.length cap ∧ Sr encI 1 W W.heap.size A cap l := by
  obtain ⟨a1, n, cap, rfl⟩ := okWide_slice Try.underlying31 hv
  obtain ⟨fuel, hf⟩ := h
  obtain ⟨A, cap', l, hcs, hb⟩ := open_isr0 hf
  simp [Value.cells] at hcs
  obtain ⟨rfl, rfl, rfl⟩ := hcs
  exact ⟨_, _, l, rfl, hb⟩
/-- One step's cells, opened. -/
theorem open_op7 {H : Type} {enc : TypeId × Value → H} {W : World} {base fuel : Nat} {sp : Nat → Bool} {held : Bool} {u0 u1 u2 u3 : Value} {x : DataW H × List MemPlace} (ht : DataW.trod enc Try.prog W base sp held fuel 33 [u0, u1, u2, u3] = some x) :
    ∃ (o : Op7) (A1 : Option Addr) (c1 : Nat) (A2 : Option Addr) (c2 : Nat), u0 = .int .i64 o.k ∧ u1 = .int .i64 o.n ∧ (-9223372036854775808 ≤ o.n ∧ o.n ≤ 9223372036854775807) ∧ u2 = .slice A1 o.p.length c1 ∧ Bs W W.heap.size A1 c1 o.p ∧ u3 = .slice A2 o.ks.length c2 ∧ Sr encI 1 W W.heap.size A2 c2 o.ks := by
  obtain ⟨y0, y1, y2, y3, n, _, _, g0, g1, g2, g3⟩ := trod_struct4 Try.underlying33 ht
  simp only [cells_int, cells_isl, cells_bsl, List.drop_zero, List.take_succ_cons, List.take_zero, List.drop_succ_cons] at g0 g1 g2 g3
  obtain ⟨a, e0, _, _⟩ := DataW.trod_int Try.underlying3 g0
  obtain ⟨c, e1, _, iw⟩ := DataW.trod_int Try.underlying3 g1
  obtain ⟨A1, c1, l1, e2, hb, _⟩ := open_bs0 g2
  obtain ⟨A2, c2, l2, e3, hs⟩ := open_isr0 g3
  simp at e0 e1 e2 e3
  subst e0 e1 e2 e3
  have ir : -9223372036854775808 ≤ c ∧ c ≤ 9223372036854775807 := by simpa [Lit.wf, IntKind.min, IntKind.max, IntKind.signed, IntKind.bits] using iw
  exact ⟨⟨a, c, l1, l2⟩, A1, c1, A2, c2, rfl, rfl, ir, rfl, hb, rfl, hs⟩
set_option maxRecDepth 100000 in
theorem open_ops7 {H : Type} {enc : TypeId × Value → H} {W : World} {base : Nat} {v : Value} {d : DataW H} {p : List MemPlace}
    (hv : Value.okWide Try.prog W .any base 22 v) (h : DataW.Trod enc Try.prog W 0 (fun _ => true) true 22 v d p) :
    ∃ A cap os, v = .slice A os.length cap ∧ Os7 W W.heap.size A cap os := by
  obtain ⟨a1, len, cap, rfl⟩ := okWide_slice Try.underlying22 hv
  obtain ⟨fuel, hf⟩ := h
  rcases open_slice Try.underlying22 hf with ⟨hcs, hx⟩ | ⟨a, len', cap', m, n, D, Pl, hcs, _, hl, hmx, hmm, hx, hi⟩
  · simp [Value.cells] at hcs
    obtain ⟨rfl, rfl, rfl⟩ := hcs
    exact ⟨none, 0, [], rfl, ⟨Nat.le_refl _, Nat.zero_le _, fun _ => rfl, fun h => absurd h (by simp)⟩⟩
  · simp [Value.cells] at hcs
    obtain ⟨rfl, rfl, rfl⟩ := hcs
    have hlm : len ≤ m := by rw [hmm]; split <;> omega
    have each : ∀ i, i < len → ∃ x : Op7, W.cell? (a.add (i * 4)) = some (.int .i64 x.k) ∧ W.cell? (a.add (i * 4 + 1)) = some (.int .i64 x.n) ∧ (-9223372036854775808 ≤ x.n ∧ x.n ≤ 9223372036854775807) ∧
        (∃ A' c', W.cell? (a.add (i * 4 + 2)) = some (.slice A' x.p.length c') ∧ Bs W W.heap.size A' c' x.p) ∧ ∃ A' c', W.cell? (a.add (i * 4 + 3)) = some (.slice A' x.ks.length c') ∧ Sr encI 1 W W.heap.size A' c' x.ks := fun i hil => by
      obtain ⟨cs', hc, ht⟩ := hi i (by omega)
      rw [cells_op7] at hc
      obtain ⟨_, hcl, hat⟩ := World.cells?_some hc
      match cs', hcl with
      | [u0, u1, u2, u3], _ =>
        obtain ⟨x, A1, c1, A2, c2, rfl, rfl, hn, rfl, hb, rfl, hs⟩ := open_op7 ht
        have h0 := hat 0 (by omega)
        have h1 := hat 1 (by omega)
        have h2 := hat 2 (by omega)
        have h3 := hat 3 (by omega)
        rw [Go.Deep.add_add] at h0 h1 h2 h3
        rw [Nat.add_zero] at h0
        exact ⟨x, h0, h1, hn, ⟨A1, c1, h2, hb⟩, A2, c2, h3, hs⟩
    obtain ⟨f, hf'⟩ := choose_lt each
    have hll : ((List.range len).map f).length = len := by simp
    refine ⟨some a, cap, (List.range len).map f, by rw [hll], ⟨by rw [hll]; exact hl, hmx, (fun h => by cases h), fun hn => ⟨a, rfl, ?_, fun i m hk => ?_⟩⟩⟩
    · rw [hll] at hn
      have := World.block_lt_of_cell? W _ (hf' 0 hn).1
      rwa [block_of_add] at this
    · simp only [List.getElem?_map, Option.map_eq_some_iff] at hk
      obtain ⟨j, hj, he⟩ := hk
      obtain ⟨hj1, hj2⟩ := List.getElem?_eq_some_iff.1 hj
      simp at hj1 hj2
      subst hj2
      have := hf' i hj1
      rw [he] at this
      exact this
end Go.Proofs.Ytpckbbjlihhpdaa
