/- How a slice of the document's pieces among a law's arguments is read. -/
import Derived.Test.YtldflhledobfnabRow
import Derived.Test.YtldflhledobfnabPs
import Derived.Deep.Slices
import Derived.Deep.Fields
namespace Go.Proofs.Ytldflhledobfnab
open Go.ChangeShapes Go.WideShapes Go.ChangeAt Go.RowKit Go.Deep

theorem cells_rpc : Try.prog.cellsOf 27 = 2 := by kernel_rfl

theorem one_rpc : ∀ {fs : Array Field}, Try.prog.underlying 27 = some (.struct fs) → oneCellFields Try.prog fs = true := by
  intro fs h
  rw [Try.underlying27] at h
  injection h with h
  injection h with h
  subst h
  kernel_rfl

theorem open_ps {H : Type} {enc : TypeId × Value → H} {W : World} {base : Nat} {v : Value} {d : DataW H} {p : List MemPlace}
    (hv : Value.okWide Try.prog W .any base 22 v) (h : DataW.Trod enc Try.prog W 0 (fun _ => true) true 22 v d p) :
    ∃ A cap ps, v = .slice A ps.length cap ∧ Pr W W.heap.size A cap ps ∧ ps.length ≤ Rows.uptoBulk d := by
  obtain ⟨a1, len, cap, rfl⟩ := okWide_slice Try.underlying22 hv
  obtain ⟨fuel, hf⟩ := h
  rcases open_slice Try.underlying22 hf with ⟨hcs, hx⟩ | ⟨a, len', cap', m, n, D, Pl, hcs, _, hl, hmx, hmm, hx, hi⟩
  · simp [Value.cells] at hcs
    obtain ⟨rfl, rfl, rfl⟩ := hcs
    exact ⟨none, 0, [], rfl, ⟨Nat.le_refl _, Nat.zero_le _, fun _ => rfl, fun h => absurd h (by simp)⟩, by simp⟩
  · simp [Value.cells] at hcs
    obtain ⟨rfl, rfl, rfl⟩ := hcs
    have hlm : len ≤ m := by rw [hmm]; split <;> omega
    have each : ∀ i, i < len → ∃ x : Pc, W.cell? (a.add (i * 2)) = some (bv x.1) ∧ ∃ A' c', W.cell? (a.add (i * 2 + 1)) = some (.slice A' x.2.length c') ∧ Bs W W.heap.size A' c' x.2 := fun i hil => by
      obtain ⟨cs', hc, ht⟩ := hi i (by omega)
      rw [cells_rpc] at hc
      obtain ⟨_, hcl, hat⟩ := World.cells?_some hc
      obtain ⟨ys, n', _, _, _, hlen, hg⟩ := DataW.trod_struct Try.underlying27 ht
      match cs', hcl with
      | [u0, u1], _ =>
        have hone := one_rpc Try.underlying27
        have g0 := hg 0 _ rfl
        have g1 := hg 1 _ rfl
        obtain ⟨o0, k0⟩ := hone_of hone 0 _ rfl
        obtain ⟨o1, k1⟩ := hone_of hone 1 _ rfl
        rw [o0, k0] at g0
        rw [o1, k1] at g1
        simp only [List.drop_zero, List.take_succ_cons, List.take_zero, List.drop_succ_cons] at g0 g1
        have hy0 : ∃ y0, ys[0]? = some y0 := ⟨_, List.getElem?_eq_getElem (by rw [hlen]; decide)⟩
        have hy1 : ∃ y1, ys[1]? = some y1 := ⟨_, List.getElem?_eq_getElem (by rw [hlen]; decide)⟩
        obtain ⟨y0, hy0⟩ := hy0
        obtain ⟨y1, hy1⟩ := hy1
        rw [hy0] at g0
        rw [hy1] at g1
        obtain ⟨b, e0, _, wb⟩ := DataW.trod_int Try.underlying5 g0
        obtain ⟨A', c', q, e1, hb, _, _⟩ := open_bs0 g1
        simp at e0 e1
        subst e0 e1
        have bb : 0 ≤ b ∧ b ≤ 255 := by simpa [Lit.wf, IntKind.min, IntKind.max, IntKind.signed, IntKind.bits] using wb
        have h0 := hat 0 (by omega)
        have h1 := hat 1 (by omega)
        rw [Go.Deep.add_add] at h0 h1
        refine ⟨(UInt8.ofNat b.toNat, q), ?_, A', c', h1, hb⟩
        rw [Nat.add_zero] at h0
        rw [h0]
        have : ((UInt8.ofNat b.toNat).toNat : Int) = b := by simp; omega
        show some (Value.int .u8 b) = some (Value.int .u8 ((UInt8.ofNat b.toNat).toNat : Int))
        rw [this]
    obtain ⟨f, hf'⟩ := choose_lt each
    have hll : ((List.range len).map f).length = len := by simp
    refine ⟨some a, cap, (List.range len).map f, by rw [hll], ⟨by rw [hll]; exact hl, hmx, (fun h => by cases h), fun hn => ⟨a, rfl, ?_, fun i k q hk => ?_⟩⟩, ?_⟩
    · rw [hll] at hn
      have := World.block_lt_of_cell? W _ (hf' 0 hn).1
      rwa [block_of_add] at this
    · simp only [List.getElem?_map, Option.map_eq_some_iff] at hk
      obtain ⟨j, hj, he⟩ := hk
      obtain ⟨hj1, hj2⟩ := List.getElem?_eq_some_iff.1 hj
      simp at hj1 hj2
      subst hj2
      have := hf' i hj1
      rw [he] at this
      exact this
    · rw [hll]
      simp only [Prod.mk.injEq] at hx
      rw [hx.1]
      have := len_le_bulk ((List.range len).map D)
      simp only [List.length_map, List.length_range] at this
      simp only [Rows.uptoBulk]
      omega
end Go.Proofs.Ytldflhledobfnab
