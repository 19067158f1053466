/- A slice of the document's messages in memory, and among a law's arguments. -/
import Derived.Test.YtejbjnjnabcleaaPSame
namespace Go.Proofs.Ytejbjnjnabcleaa
open Go.ChangeShapes Go.WideShapes Go.ChangeAt Go.RowKit Go.Deep

structure Rm where
  f : Int
  t : Int
  b : List UInt8
instance : Inhabited Rm := ⟨⟨0, 0, []⟩⟩
/-- The slice at A with capacity cap reads as the messages ms, in memory below block K. -/
structure Mr (w : World) (K : Nat) (A : Option Addr) (cap : Nat) (ms : List Rm) : Prop where
  le : ms.length ≤ cap
  max : cap ≤ maxLen
  nil : A = none → cap = 0
  at_ : 0 < ms.length → ∃ ad : Addr, A = some ad ∧ ad.block < K ∧ ∀ (i : Nat) (m : Rm), ms[i]? = some m → w.cell? (ad.add (i * 3)) = some (.int .i64 m.f) ∧ w.cell? (ad.add (i * 3 + 1)) = some (.int .i64 m.t) ∧ ∃ A' c', w.cell? (ad.add (i * 3 + 2)) = some (.slice A' m.b.length c') ∧ Bs w K A' c' m.b

section
variable {w w' : World} {K K' cap : Nat} {A : Option Addr} {ms : List Rm}
theorem Mr.keep (h : Mr w K A cap ms) (hk : ∀ p : Addr, p.block < K → w'.cell? p = w.cell? p) : Mr w' K A cap ms :=
  ⟨h.le, h.max, h.nil, fun hn => by
    obtain ⟨ad, e, hb, hc⟩ := h.at_ hn
    refine ⟨ad, e, hb, fun i m hi => ?_⟩
    obtain ⟨h1, h2, A', c', h3, h4⟩ := hc i m hi
    exact ⟨(hk _ (by rw [block_of_add]; exact hb)).trans h1, (hk _ (by rw [block_of_add]; exact hb)).trans h2, A', c', (hk _ (by rw [block_of_add]; exact hb)).trans h3, h4.keep hk⟩⟩
theorem Mr.below (h : Mr w K A cap ms) (hb : Below K w w') : Mr w' K A cap ms := h.keep fun _ hp => hb.cell hp
theorem Mr.get (h : Mr w K A cap ms) {i : Nat} (hi : i < ms.length) : ∃ ad : Addr, A = some ad ∧ ad.block < K ∧ w.cell? (ad.add (i * 3)) = some (.int .i64 ms[i].f) ∧ w.cell? ⟨(ad.add (i * 3)).block, (ad.add (i * 3)).off + 1, none⟩ = some (.int .i64 ms[i].t) ∧ ∃ A' c', w.cell? ⟨(ad.add (i * 3)).block, (ad.add (i * 3)).off + 2, none⟩ = some (.slice A' ms[i].b.length c') ∧ Bs w K A' c' ms[i].b := by
  obtain ⟨ad, e, hb, hc⟩ := h.at_ (by omega)
  obtain ⟨h1, h2, A', c', h3, h4⟩ := hc i ms[i] (List.getElem?_eq_getElem hi)
  refine ⟨ad, e, hb, h1, ?_, A', c', ?_, h4⟩
  · rw [← el_add_pos _ _ (by decide), el_add_of_add]; exact h2
  · rw [← el_add_pos _ _ (by decide), el_add_of_add]; exact h3
end

theorem cells_rm : Try.prog.cellsOf 33 = 3 := by kernel_rfl
theorem one_rm : ∀ {fs : Array Field}, Try.prog.underlying 33 = some (.struct fs) → oneCellFields Try.prog fs = true := by
  intro fs h
  rw [Try.underlying33] at h
  injection h with h
  injection h with h
  subst h
  kernel_rfl
/-- One message's cells, opened. -/
theorem open_rm {H : Type} {enc : TypeId × Value → H} {W : World} {base fuel : Nat} {sp : Nat → Bool} {held : Bool} {u0 u1 u2 : Value} {x : DataW H × List MemPlace} (ht : DataW.trod enc Try.prog W base sp held fuel 33 [u0, u1, u2] = some x) :
    ∃ (m : Rm) (A' : Option Addr) (c' : Nat), u0 = .int .i64 m.f ∧ u1 = .int .i64 m.t ∧ u2 = .slice A' m.b.length c' ∧ Bs W W.heap.size A' c' m.b ∧ m.b.length ≤ Rows.uptoBulk x.1 := by
  obtain ⟨ys, n', _, hy, _, hlen, hg⟩ := DataW.trod_struct Try.underlying33 ht
  have hone := one_rm Try.underlying33
  have g0 := hg 0 _ rfl
  have g1 := hg 1 _ rfl
  have g2 := hg 2 _ rfl
  obtain ⟨o0, k0⟩ := hone_of hone 0 _ rfl
  obtain ⟨o1, k1⟩ := hone_of hone 1 _ rfl
  obtain ⟨o2, k2⟩ := hone_of hone 2 _ rfl
  rw [o0, k0] at g0
  rw [o1, k1] at g1
  rw [o2, k2] at g2
  simp only [List.drop_zero, List.take_succ_cons, List.take_zero, List.drop_succ_cons] at g0 g1 g2
  match ys, hlen with
  | [y0, y1, y2], _ =>
    obtain ⟨a, e0, _, _⟩ := DataW.trod_int Try.underlying3 g0
    obtain ⟨c, e1, _, _⟩ := DataW.trod_int Try.underlying3 g1
    obtain ⟨A', c', q, e2, hb, hk, _⟩ := open_bs0 g2
    simp at e0 e1 e2
    subst e0 e1 e2
    refine ⟨⟨a, c, q⟩, A', c', rfl, rfl, rfl, hb, ?_⟩
    rw [hy]
    simp only [List.map_cons, List.map_nil, Rows.uptoBulk, Rows.uptoBulkAll]
    omega

set_option maxRecDepth 100000 in
theorem open_ms {H : Type} {enc : TypeId × Value → H} {W : World} {base : Nat} {v : Value} {d : DataW H} {p : List MemPlace}
    (hv : Value.okWide Try.prog W .any base 28 v) (h : DataW.Trod enc Try.prog W 0 (fun _ => true) true 28 v d p) :
    ∃ A cap ms, v = .slice A ms.length cap ∧ Mr W W.heap.size A cap ms ∧ ms.length ≤ Rows.uptoBulk d := by
  obtain ⟨a1, len, cap, rfl⟩ := okWide_slice Try.underlying28 hv
  obtain ⟨fuel, hf⟩ := h
  rcases open_slice Try.underlying28 hf with ⟨hcs, hx⟩ | ⟨a, len', cap', m, n, D, Pl, hcs, _, hl, hmx, hmm, hx, hi⟩
  · simp [Value.cells] at hcs
    obtain ⟨rfl, rfl, rfl⟩ := hcs
    exact ⟨none, 0, [], rfl, ⟨Nat.le_refl _, Nat.zero_le _, fun _ => rfl, fun h => absurd h (by simp)⟩, by simp⟩
  · simp [Value.cells] at hcs
    obtain ⟨rfl, rfl, rfl⟩ := hcs
    have hlm : len ≤ m := by rw [hmm]; split <;> omega
    have each : ∀ i, i < len → ∃ x : Rm, W.cell? (a.add (i * 3)) = some (.int .i64 x.f) ∧ W.cell? (a.add (i * 3 + 1)) = some (.int .i64 x.t) ∧ ∃ A' c', W.cell? (a.add (i * 3 + 2)) = some (.slice A' x.b.length c') ∧ Bs W W.heap.size A' c' x.b := fun i hil => by
      obtain ⟨cs', hc, ht⟩ := hi i (by omega)
      rw [cells_rm] at hc
      obtain ⟨_, hcl, hat⟩ := World.cells?_some hc
      match cs', hcl with
      | [u0, u1, u2], _ =>
        obtain ⟨x, A', c', rfl, rfl, rfl, hb, _⟩ := open_rm ht
        have h0 := hat 0 (by omega)
        have h1 := hat 1 (by omega)
        have h2 := hat 2 (by omega)
        rw [Go.Deep.add_add] at h0 h1 h2
        rw [Nat.add_zero] at h0
        exact ⟨x, h0, h1, A', c', h2, hb⟩
    obtain ⟨f, hf'⟩ := choose_lt each
    have hll : ((List.range len).map f).length = len := by simp
    refine ⟨some a, cap, (List.range len).map f, by rw [hll], ⟨by rw [hll]; exact hl, hmx, (fun h => by cases h), fun hn => ⟨a, rfl, ?_, fun i m hk => ?_⟩⟩, ?_⟩
    · rw [hll] at hn
      have := World.block_lt_of_cell? W _ (hf' 0 hn).1
      rwa [block_of_add] at this
    · simp only [List.getElem?_map, Option.map_eq_some_iff] at hk
      obtain ⟨j, hj, he⟩ := hk
      obtain ⟨hj1, hj2⟩ := List.getElem?_eq_some_iff.1 hj
      simp at hj1 hj2
      subst hj2
      have := hf' i hj1
      rw [he] at this
      exact this
    · rw [hll]
      simp only [Prod.mk.injEq] at hx
      rw [hx.1]
      have := len_le_bulk ((List.range len).map D)
      simp only [List.length_map, List.length_range] at this
      simp only [Rows.uptoBulk]
      omega
end Go.Proofs.Ytejbjnjnabcleaa
