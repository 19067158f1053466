/- A slice of steps of a post, among a law's arguments, with what an int's range says. -/
import Derived.Test.YtakpfjamlmfbbaaKm
import Derived.Test.YtakpfjamlmfbbaaRow
import Derived.Test.YtakpfjamlmfbbaaEl
import Derived.ChangeMaps5
import Derived.Deep.Slices
import Derived.Deep.Fields
import Derived.Deep.Strs
namespace Go.Proofs.Ytakpfjamlmfbbaa
open Go.ChangeShapes Go.WideShapes Go.ChangeAt Go.RowKit Go.Deep

structure Rm where
  f : Int
  t : Int
  b : List UInt8
instance : Inhabited Rm := ⟨⟨0, 0, []⟩⟩
structure Op8 where
  k : Int
  m : Rm
  i : Int
instance : Inhabited Op8 := ⟨⟨0, default, 0⟩⟩
/-- The slice at A with capacity cap reads as the steps os, in memory below block K. -/
structure Os8 (w : World) (K : Nat) (A : Option Addr) (cap : Nat) (os : List Op8) : Prop where
  le : os.length ≤ cap
  max : cap ≤ maxLen
  nil : A = none → cap = 0
  at_ : 0 < os.length → ∃ ad : Addr, A = some ad ∧ ad.block < K ∧ ∀ (i : Nat) (o : Op8), os[i]? = some o → w.cell? (ad.add (i * 5)) = some (.int .i64 o.k) ∧ w.cell? (ad.add (i * 5 + 1)) = some (.int .i64 o.m.f) ∧ w.cell? (ad.add (i * 5 + 2)) = some (.int .i64 o.m.t) ∧
    ∃ A' c', w.cell? (ad.add (i * 5 + 3)) = some (.slice A' o.m.b.length c') ∧ Bs w K A' c' o.m.b ∧ w.cell? (ad.add (i * 5 + 4)) = some (.int .i64 o.i) ∧ I64 o.m.t

section
variable {w w' : World} {K K' cap : Nat} {A : Option Addr} {os : List Op8}
theorem Os8.keep (h : Os8 w K A cap os) (hk : ∀ p : Addr, p.block < K → w'.cell? p = w.cell? p) : Os8 w' K A cap os :=
  ⟨h.le, h.max, h.nil, fun hn => by
    obtain ⟨ad, e, hb, hc⟩ := h.at_ hn
    refine ⟨ad, e, hb, fun i o hi => ?_⟩
    obtain ⟨h1, h2, h3, A', c', h4, h5, h6, h7⟩ := hc i o hi
    have hk' := fun j => hk (ad.add j) (by rw [block_of_add]; exact hb)
    exact ⟨(hk' _).trans h1, (hk' _).trans h2, (hk' _).trans h3, A', c', (hk' _).trans h4, h5.keep hk, (hk' _).trans h6, h7⟩⟩
theorem Os8.below (h : Os8 w K A cap os) (hb : Below K w w') : Os8 w' K A cap os := h.keep fun _ hp => hb.cell hp
theorem Os8.get (h : Os8 w K A cap os) {i : Nat} {o : Op8} (hi : os[i]? = some o) : ∃ ad : Addr, A = some ad ∧ ad.block < K ∧ w.cell? (ad.add (i * 5)) = some (.int .i64 o.k) ∧ w.cell? ⟨(ad.add (i * 5)).block, (ad.add (i * 5)).off + 1, none⟩ = some (.int .i64 o.m.f) ∧
    w.cell? ⟨(ad.add (i * 5)).block, (ad.add (i * 5)).off + 2, none⟩ = some (.int .i64 o.m.t) ∧ ∃ A' c', w.cell? ⟨(ad.add (i * 5)).block, (ad.add (i * 5)).off + 3, none⟩ = some (.slice A' o.m.b.length c') ∧ Bs w K A' c' o.m.b ∧
    w.cell? ⟨(ad.add (i * 5)).block, (ad.add (i * 5)).off + 4, none⟩ = some (.int .i64 o.i) ∧ I64 o.m.t := by
  have hil := (List.getElem?_eq_some_iff.1 hi).1
  obtain ⟨ad, e, hb, hc⟩ := h.at_ (by omega)
  obtain ⟨h1, h2, h3, A', c', h4, h5, h6, h7⟩ := hc i o hi
  refine ⟨ad, e, hb, h1, ?_, ?_, A', c', ?_, h5, ?_, h7⟩
  · rw [← el_add_pos _ _ (by decide), el_add_of_add]; exact h2
  · rw [← el_add_pos _ _ (by decide), el_add_of_add]; exact h3
  · rw [← el_add_pos _ _ (by decide), el_add_of_add]; exact h4
  · rw [← el_add_pos _ _ (by decide), el_add_of_add]; exact h6
end

theorem cells_rm : Try.prog.cellsOf 32 = 3 := by kernel_rfl
theorem one_rm : ∀ {fs : Array Field}, Try.prog.underlying 32 = some (.struct fs) → oneCellFields Try.prog fs = true := by
  intro fs h
  rw [Try.underlying32] at h
  injection h with h
  injection h with h
  subst h
  kernel_rfl
/-- One message's cells, opened. -/
theorem open_rm {H : Type} {enc : TypeId × Value → H} {W : World} {base fuel : Nat} {sp : Nat → Bool} {held : Bool} {u0 u1 u2 : Value} {x : DataW H × List MemPlace} (ht : DataW.trod enc Try.prog W base sp held fuel 32 [u0, u1, u2] = some x) :
    ∃ (m : Rm) (A' : Option Addr) (c' : Nat), u0 = .int .i64 m.f ∧ u1 = .int .i64 m.t ∧ u2 = .slice A' m.b.length c' ∧ Bs W W.heap.size A' c' m.b ∧ I64 m.t := by
  obtain ⟨ys, n', _, hy, _, hlen, hg⟩ := DataW.trod_struct Try.underlying32 ht
  have hone := one_rm Try.underlying32
  have g0 := hg 0 _ rfl
  have g1 := hg 1 _ rfl
  have g2 := hg 2 _ rfl
  obtain ⟨o0, k0⟩ := hone_of hone 0 _ rfl
  obtain ⟨o1, k1⟩ := hone_of hone 1 _ rfl
  obtain ⟨o2, k2⟩ := hone_of hone 2 _ rfl
  rw [o0, k0] at g0
  rw [o1, k1] at g1
  rw [o2, k2] at g2
  simp only [List.drop_zero, List.take_succ_cons, List.take_zero, List.drop_succ_cons] at g0 g1 g2
  match ys, hlen with
  | [y0, y1, y2], _ =>
    obtain ⟨a, e0, _, _⟩ := DataW.trod_int Try.underlying3 g0
    obtain ⟨c, e1, _, w1⟩ := DataW.trod_int Try.underlying3 g1
    obtain ⟨A', c', q, e2, hb, hk, _⟩ := open_bs0 g2
    simp at e0 e1 e2
    subst e0 e1 e2
    exact ⟨⟨a, c, q⟩, A', c', rfl, rfl, rfl, hb, by simpa [I64, Lit.wf, IntKind.min, IntKind.max, IntKind.signed, IntKind.bits] using w1⟩

theorem cells_op8 : Try.prog.cellsOf 34 = 5 := by kernel_rfl
theorem cells_int : Try.prog.cellsOf 3 = 1 := by kernel_rfl
/-- One step's cells, opened. -/
theorem open_op8 {H : Type} {enc : TypeId × Value → H} {W : World} {base fuel : Nat} {sp : Nat → Bool} {held : Bool} {u0 u1 u2 u3 u4 : Value} {x : DataW H × List MemPlace} (ht : DataW.trod enc Try.prog W base sp held fuel 34 [u0, u1, u2, u3, u4] = some x) :
    ∃ (o : Op8) (A' : Option Addr) (c' : Nat), u0 = .int .i64 o.k ∧ u1 = .int .i64 o.m.f ∧ u2 = .int .i64 o.m.t ∧ u3 = .slice A' o.m.b.length c' ∧ Bs W W.heap.size A' c' o.m.b ∧ u4 = .int .i64 o.i ∧ I64 o.m.t := by
  obtain ⟨y0, y1, y2, n, _, _, g0, g1, g2⟩ := trod_struct3 Try.underlying34 ht
  simp only [cells_int, cells_rm, List.drop_zero, List.take_succ_cons, List.take_zero, List.drop_succ_cons] at g0 g1 g2
  obtain ⟨a, e0, _, _⟩ := DataW.trod_int Try.underlying3 g0
  obtain ⟨c, e4, _, _⟩ := DataW.trod_int Try.underlying3 g2
  obtain ⟨m, A', c', rfl, rfl, rfl, hb, ht8⟩ := open_rm g1
  simp at e0 e4
  subst e0 e4
  exact ⟨⟨a, m, c⟩, A', c', rfl, rfl, rfl, rfl, hb, rfl, ht8⟩

set_option maxRecDepth 100000 in
theorem open_ops8 {H : Type} {enc : TypeId × Value → H} {W : World} {base : Nat} {v : Value} {d : DataW H} {p : List MemPlace}
    (hv : Value.okWide Try.prog W .any base 22 v) (h : DataW.Trod enc Try.prog W 0 (fun _ => true) true 22 v d p) :
    ∃ A cap os, v = .slice A os.length cap ∧ Os8 W W.heap.size A cap os := by
  obtain ⟨a1, len, cap, rfl⟩ := okWide_slice Try.underlying22 hv
  obtain ⟨fuel, hf⟩ := h
  rcases open_slice Try.underlying22 hf with ⟨hcs, hx⟩ | ⟨a, len', cap', m, n, D, Pl, hcs, _, hl, hmx, hmm, hx, hi⟩
  · simp [Value.cells] at hcs
    obtain ⟨rfl, rfl, rfl⟩ := hcs
    exact ⟨none, 0, [], rfl, ⟨Nat.le_refl _, Nat.zero_le _, fun _ => rfl, fun h => absurd h (by simp)⟩⟩
  · simp [Value.cells] at hcs
    obtain ⟨rfl, rfl, rfl⟩ := hcs
    have hlm : len ≤ m := by rw [hmm]; split <;> omega
    have each : ∀ i, i < len → ∃ x : Op8, W.cell? (a.add (i * 5)) = some (.int .i64 x.k) ∧ W.cell? (a.add (i * 5 + 1)) = some (.int .i64 x.m.f) ∧ W.cell? (a.add (i * 5 + 2)) = some (.int .i64 x.m.t) ∧ ∃ A' c', W.cell? (a.add (i * 5 + 3)) = some (.slice A' x.m.b.length c') ∧ Bs W W.heap.size A' c' x.m.b ∧ W.cell? (a.add (i * 5 + 4)) = some (.int .i64 x.i) ∧ I64 x.m.t := fun i hil => by
      obtain ⟨cs', hc, ht⟩ := hi i (by omega)
      rw [cells_op8] at hc
      obtain ⟨_, hcl, hat⟩ := World.cells?_some hc
      match cs', hcl with
      | [u0, u1, u2, u3, u4], _ =>
        obtain ⟨x, A', c', rfl, rfl, rfl, rfl, hb, rfl, h9⟩ := open_op8 ht
        have h0 := hat 0 (by omega)
        have h1 := hat 1 (by omega)
        have h2 := hat 2 (by omega)
        have h3 := hat 3 (by omega)
        have h4 := hat 4 (by omega)
        rw [Go.Deep.add_add] at h0 h1 h2 h3 h4
        rw [Nat.add_zero] at h0
        exact ⟨x, h0, h1, h2, A', c', h3, hb, h4, h9⟩
    obtain ⟨f, hf'⟩ := choose_lt each
    have hll : ((List.range len).map f).length = len := by simp
    refine ⟨some a, cap, (List.range len).map f, by rw [hll], ⟨by rw [hll]; exact hl, hmx, (fun h => by cases h), fun hn => ⟨a, rfl, ?_, fun i m hk => ?_⟩⟩⟩
    · rw [hll] at hn
      have := World.block_lt_of_cell? W _ (hf' 0 hn).1
      rwa [block_of_add] at this
    · simp only [List.getElem?_map, Option.map_eq_some_iff] at hk
      obtain ⟨j, hj, he⟩ := hk
      obtain ⟨hj1, hj2⟩ := List.getElem?_eq_some_iff.1 hj
      simp at hj1 hj2
      subst hj2
      have := hf' i hj1
      rw [he] at this
      exact this
end Go.Proofs.Ytakpfjamlmfbbaa
