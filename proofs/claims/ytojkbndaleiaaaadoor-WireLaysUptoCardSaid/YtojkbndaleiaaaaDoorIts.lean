/- How the things among a law's arguments are read. -/
import Derived.Test.YtojkbndaleiaaaaDoorDoor
import Derived.Test.YtojkbndaleiaaaaDoorLdM
import Derived.ChangeMaps5
import Derived.Deep.Slices
import Derived.Deep.Fields
import Derived.Deep.Strs
namespace Go.Proofs.YtojkbndaleiaaaaDoor
open Go.ChangeShapes Go.WideShapes Go.ChangeAt Go.RowKit Go.Joins Go.Deep

theorem cellsItm : Tryd.prog.cellsOf 39 = 9 := by kernel_rfl
theorem cellsU64 : Tryd.prog.cellsOf 34 = 1 := by kernel_rfl
theorem cellsI64 : Tryd.prog.cellsOf 2 = 1 := by kernel_rfl
theorem cellsU32 : Tryd.prog.cellsOf 35 = 1 := by kernel_rfl
theorem cellsBool : Tryd.prog.cellsOf 4 = 1 := by kernel_rfl
theorem cellsStr : Tryd.prog.cellsOf 9 = 1 := by kernel_rfl
theorem bulk_mem {H : Type} : ∀ (l : List (DataW H)) (x : DataW H), x ∈ l → Rows.uptoBulk x ≤ Rows.uptoBulkAll l
  | [], _, h => by simp at h
  | y :: r, x, h => by
    rcases List.mem_cons.1 h with rfl | h
    · simp only [Rows.uptoBulkAll]; omega
    · have := bulk_mem r x h
      simp only [Rows.uptoBulkAll]; omega

set_option maxRecDepth 100000 in
/-- One thing's cells, opened. -/
theorem open_it {H : Type} {enc : TypeId × Value → H} {W : World} {base fuel : Nat} {sp : Nat → Bool} {held : Bool} {u0 u1 u2 u3 u4 u5 u6 u7 u8 : Value} {x : DataW H × List MemPlace} (ht : DataW.trod enc Tryd.prog W base sp held fuel 39 [u0, u1, u2, u3, u4, u5, u6, u7, u8] = some x) :
    ∃ i : Itm, [u0, u1, u2, u3, u4, u5, u6, u7, u8] = encIt i ∧ i.ok ∧ i.tx.size ≤ Rows.uptoBulk x.1 := by
  obtain ⟨ys, n', _, hy, _, hyl, hf⟩ := DataW.trod_struct Tryd.underlying39 ht
  match ys, hyl with
  | [y0, y1, y2, y3, y4, y5, y6], _ =>
    have h0 := hf 0 _ rfl
    have h1 := hf 1 _ rfl
    have h2 := hf 2 _ rfl
    have h3 := hf 3 _ rfl
    have h4 := hf 4 _ rfl
    have h5 := hf 5 _ rfl
    have h6 := hf 6 _ rfl
    simp [cellsInt, cellsU64, cellsI64, cellsBool, cellsStr, cellsSt] at h0 h1 h2 h3 h4 h5 h6
    obtain ⟨zs, n2, _, _, _, hzl, hg⟩ := DataW.trod_struct Tryd.underlying37 h5
    match zs, hzl with
    | [z0, z1, z2], _ =>
      have g0 := hg 0 _ rfl
      have g1 := hg 1 _ rfl
      have g2 := hg 2 _ rfl
      simp [cellsI64, cellsU32] at g0 g1 g2
      obtain ⟨kd, e0, _, _⟩ := DataW.trod_int Tryd.underlying3 h0
      obtain ⟨nu, e1, _, wn⟩ := DataW.trod_int Tryd.underlying34 h1
      obtain ⟨iv, e2, _, wi⟩ := DataW.trod_int Tryd.underlying2 h2
      obtain ⟨fl, e3, _⟩ := DataW.trod_bool Tryd.underlying4 h3
      obtain ⟨tx, e4, d4, _⟩ := DataW.trod_string Tryd.underlying9 h4
      obtain ⟨a, e5, _, _⟩ := DataW.trod_int Tryd.underlying2 g0
      obtain ⟨b, e6, _, wb⟩ := DataW.trod_int Tryd.underlying35 g1
      obtain ⟨c, e7, _, wc⟩ := DataW.trod_int Tryd.underlying35 g2
      obtain ⟨mo, e8, _, _⟩ := DataW.trod_int Tryd.underlying3 h6
      simp at e0 e1 e2 e3 e4 e5 e6 e7 e8
      subst e0 e1 e2 e3 e4 e5 e6 e7 e8 d4
      have bn : 0 ≤ nu ∧ nu ≤ 18446744073709551615 := by simpa [Lit.wf, IntKind.min, IntKind.max, IntKind.signed, IntKind.bits] using wn
      have bi : -9223372036854775808 ≤ iv ∧ iv ≤ 9223372036854775807 := by simpa [Lit.wf, IntKind.min, IntKind.max, IntKind.signed, IntKind.bits] using wi
      have bb : 0 ≤ b ∧ b ≤ 4294967295 := by simpa [Lit.wf, IntKind.min, IntKind.max, IntKind.signed, IntKind.bits] using wb
      have bc : 0 ≤ c ∧ c ≤ 4294967295 := by simpa [Lit.wf, IntKind.min, IntKind.max, IntKind.signed, IntKind.bits] using wc
      obtain ⟨m, rfl⟩ : ∃ m : Nat, nu = (m : Int) := ⟨nu.toNat, by omega⟩
      refine ⟨⟨kd, m, iv, fl, tx, a, b, c, mo⟩, rfl, ⟨by show m ≤ 18446744073709551615; omega, bi.1, bi.2, bb, bc⟩, ?_⟩
      rw [hy]
      simp only [List.map_cons, List.map_nil, Rows.uptoBulk, Rows.uptoBulkAll]
      have e : tx.data.toList.length = tx.size := by simp
      omega

set_option maxRecDepth 100000 in
theorem open_items {H : Type} {enc : TypeId × Value → H} {W : World} {base : Nat} {v : Value} {d : DataW H} {p : List MemPlace}
    (hv : Value.okWide Tryd.prog W .any base 22 v) (h : DataW.Trod enc Tryd.prog W 0 (fun _ => true) true 22 v d p) :
    ∃ A cap l, v = .slice A l.length cap ∧ Sr encIt 9 W W.heap.size A cap l ∧ (∀ i ∈ l, i.ok) ∧ l.length ≤ Rows.uptoBulk d ∧ ∀ i ∈ l, i.tx.size ≤ Rows.uptoBulk d := by
  obtain ⟨a1, len, cap, rfl⟩ := okWide_slice Tryd.underlying22 hv
  obtain ⟨fuel, hf⟩ := h
  rcases open_slice Tryd.underlying22 hf with ⟨hcs, hx⟩ | ⟨a, len', cap', m, n, D, Pl, hcs, _, hl, hmx, hmm, hx, hi⟩
  · simp [Value.cells] at hcs
    obtain ⟨rfl, rfl, rfl⟩ := hcs
    exact ⟨none, 0, [], rfl, Sr.none_ _ _, by simp, by simp, by simp⟩
  · simp [Value.cells] at hcs
    obtain ⟨rfl, rfl, rfl⟩ := hcs
    have hlm : len ≤ m := by rw [hmm]; split <;> omega
    have each : ∀ i, i < len → ∃ x : Itm, (∀ (j : Nat) u, (encIt x)[j]? = some u → W.cell? (a.add (i * 9 + j)) = some u) ∧ x.ok ∧ x.tx.size ≤ Rows.uptoBulk (D i) := fun i hil => by
      obtain ⟨cs', hc, ht⟩ := hi i (by omega)
      rw [cellsItm] at hc
      obtain ⟨_, hcl, hat⟩ := World.cells?_some hc
      match cs', hcl with
      | [u0, u1, u2, u3, u4, u5, u6, u7, u8], _ =>
        obtain ⟨x, hx, hok, hb⟩ := open_it ht
        refine ⟨x, fun j u hu => ?_, hok, hb⟩
        have hj : j < 9 := by
          have := (List.getElem?_eq_some_iff.1 hu).1
          simpa [encIt] using this
        have h0 := hat j hj
        rw [Go.Deep.add_add, hx] at h0
        exact h0.trans hu
    have : Inhabited Itm := ⟨⟨0, 0, 0, false, ByteArray.empty, 0, 0, 0, 0⟩⟩
    obtain ⟨f, hf'⟩ := choose_lt each
    have hll : ((List.range len).map f).length = len := by simp
    simp only [Prod.mk.injEq] at hx
    have hbulk := len_le_bulk ((List.range len).map D)
    simp only [List.length_map, List.length_range] at hbulk
    refine ⟨some a, cap, (List.range len).map f, by rw [hll], ⟨by rw [hll]; exact hl, hmx, (fun h => by cases h), fun hn => ⟨a, rfl, ?_, fun i x hk => ?_⟩⟩, ?_, ?_, ?_⟩
    · rw [hll] at hn
      have := World.block_lt_of_cell? W _ ((hf' 0 hn).1 0 _ rfl)
      rwa [el_block_of_add] at this
    · simp only [List.getElem?_map, Option.map_eq_some_iff] at hk
      obtain ⟨j, hj, he⟩ := hk
      obtain ⟨hj1, hj2⟩ := List.getElem?_eq_some_iff.1 hj
      simp at hj1 hj2
      subst hj2
      have h2 := hf' i hj1
      rw [he] at h2
      exact h2.1
    · intro x hxm
      obtain ⟨i, hi1, rfl⟩ := List.mem_map.1 hxm
      rw [List.mem_range] at hi1
      exact (hf' i hi1).2.1
    · rw [hll, hx.1]
      simp only [Rows.uptoBulk]
      omega
    · intro x hxm
      obtain ⟨i, hi1, rfl⟩ := List.mem_map.1 hxm
      rw [List.mem_range] at hi1
      have hD := (hf' i hi1).2.2
      have hmem : D i ∈ (List.range len).map D := List.mem_map.2 ⟨i, List.mem_range.2 hi1, rfl⟩
      have hb := bulk_mem _ _ hmem
      rw [hx.1]
      simp only [Rows.uptoBulk]
      omega
end Go.Proofs.YtojkbndaleiaaaaDoor
