/- Versions and stamps among a law's arguments. -/
import Derived.Test.YtbeclajbpfglgaaChV
import Derived.Test.YtbeclajbpfglgaaRow0
import Derived.Deep.Strs
import Derived.Deep.Slices
import Derived.Deep.Fields
import Derived.ChangeMaps5
import Derived.Lib.SmallJoins
namespace Go.Proofs.Ytbeclajbpfglgaa
open Go.ChangeShapes Go.WideShapes Go.ChangeAt Go.RowKit Go.Deep Go.Joins

theorem cells_ver : Try.prog.cellsOf 26 = 6 := by kernel_rfl
theorem cells_st : Try.prog.cellsOf 24 = 3 := by kernel_rfl
theorem cells_i64 : Try.prog.cellsOf 2 = 1 := by kernel_rfl
theorem cells_u32 : Try.prog.cellsOf 22 = 1 := by kernel_rfl
theorem cells_int : Try.prog.cellsOf 3 = 1 := by kernel_rfl
theorem cells_str : Try.prog.cellsOf 9 = 1 := by kernel_rfl
set_option maxRecDepth 100000 in
theorem open_ve {H : Type} {enc : TypeId × Value → H} {W : World} {base fuel : Nat} {sp : Nat → Bool} {held : Bool} {u0 u1 u2 u3 u4 u5 : Value} {x : DataW H × List MemPlace} (ht : DataW.trod enc Try.prog W base sp held fuel 26 [u0, u1, u2, u3, u4, u5] = some x) :
    ∃ v : Ve, [u0, u1, u2, u3, u4, u5] = encV v ∧ Vok v := by
  obtain ⟨ys, n', _, hy, _, hyl, hf⟩ := DataW.trod_struct Try.underlying26 ht
  match ys, hyl with
  | [y0, y1, y2, y3], _ =>
    have h0 := hf 0 _ rfl
    have h1 := hf 1 _ rfl
    have h2 := hf 2 _ rfl
    have h3 := hf 3 _ rfl
    simp [cells_i64, cells_int, cells_str, cells_st] at h0 h1 h2 h3
    obtain ⟨zs, n2, _, _, _, hzl, hg⟩ := DataW.trod_struct Try.underlying24 h0
    match zs, hzl with
    | [z0, z1, z2], _ =>
      have g0 := hg 0 _ rfl
      have g1 := hg 1 _ rfl
      have g2 := hg 2 _ rfl
      simp [cells_i64, cells_u32] at g0 g1 g2
      obtain ⟨a, e0, _, _⟩ := DataW.trod_int Try.underlying2 g0
      obtain ⟨b, e1, _, wb⟩ := DataW.trod_int Try.underlying22 g1
      obtain ⟨c, e2, _, wc⟩ := DataW.trod_int Try.underlying22 g2
      obtain ⟨k, e3, _, _⟩ := DataW.trod_int Try.underlying3 h1
      obtain ⟨n, e4, _, _⟩ := DataW.trod_int Try.underlying2 h2
      obtain ⟨s, e5, _, hs⟩ := DataW.trod_string Try.underlying9 h3
      simp at e0 e1 e2 e3 e4 e5
      subst e0 e1 e2 e3 e4 e5
      have bb : 0 ≤ b ∧ b ≤ 4294967295 := by simpa [Lit.wf, IntKind.min, IntKind.max, IntKind.signed, IntKind.bits] using wb
      have bc : 0 ≤ c ∧ c ≤ 4294967295 := by simpa [Lit.wf, IntKind.min, IntKind.max, IntKind.signed, IntKind.bits] using wc
      exact ⟨⟨a, b, c, k, n, s⟩, rfl, ⟨bb.1, bb.2, bc.1, bc.2, hs⟩⟩
set_option maxRecDepth 100000 in
theorem open_ver {H : Type} {enc : TypeId × Value → H} {W : World} {base : Nat} {v : Value} {d : DataW H} {p : List MemPlace}
    (hv : Value.okWide Try.prog W .any base 26 v) (h : DataW.Trod enc Try.prog W 0 (fun _ => true) true 26 v d p) :
    ∃ u : Ve, v = agV u ∧ Vok u := by
  obtain ⟨cs, rfl, hsz⟩ := okWide_struct Try.underlying26 hv
  rw [cells_ver] at hsz
  obtain ⟨l⟩ := cs
  obtain ⟨fuel, hf⟩ := h
  match l, hsz with
  | [u0, u1, u2, u3, u4, u5], _ =>
    obtain ⟨u, hu, ho⟩ := open_ve (u0 := u0) (u1 := u1) (u2 := u2) (u3 := u3) (u4 := u4) (u5 := u5) (by simpa [Value.cells] using hf)
    unfold encV at hu
    refine ⟨u, ?_, ho⟩
    rw [hu]
set_option maxRecDepth 100000 in
theorem open_sta {H : Type} {enc : TypeId × Value → H} {W : World} {base : Nat} {v : Value} {d : DataW H} {p : List MemPlace}
    (hv : Value.okWide Try.prog W .any base 24 v) (h : DataW.Trod enc Try.prog W 0 (fun _ => true) true 24 v d p) :
    ∃ a b c : Int, v = stv a b c ∧ (0 ≤ b ∧ b ≤ 4294967295) ∧ (0 ≤ c ∧ c ≤ 4294967295) := by
  obtain ⟨c0, c1, c2, y0, y1, y2, m, rfl, rfl, rfl, hy0, hy1, hy2⟩ := open_agg3 Try.underlying24 (by kernel_rfl) cells_st hv h
  obtain ⟨a, e0, _, _⟩ := DataW.trod_int Try.underlying2 hy0
  obtain ⟨b, e1, _, wb⟩ := DataW.trod_int Try.underlying22 hy1
  obtain ⟨c, e2, _, wc⟩ := DataW.trod_int Try.underlying22 hy2
  simp at e0 e1 e2
  subst e0 e1 e2
  have bb : 0 ≤ b ∧ b ≤ 4294967295 := by simpa [Lit.wf, IntKind.min, IntKind.max, IntKind.signed, IntKind.bits] using wb
  have bc : 0 ≤ c ∧ c ≤ 4294967295 := by simpa [Lit.wf, IntKind.min, IntKind.max, IntKind.signed, IntKind.bits] using wc
  exact ⟨a, b, c, rfl, bb, bc⟩
set_option maxRecDepth 100000 in
theorem open_vers {H : Type} {enc : TypeId × Value → H} {W : World} {base : Nat} {v : Value} {d : DataW H} {p : List MemPlace}
    (hv : Value.okWide Try.prog W .any base 34 v) (h : DataW.Trod enc Try.prog W 0 (fun _ => true) true 34 v d p) :
    ∃ A cap l, v = .slice A l.length cap ∧ Sr encV 6 W W.heap.size A cap l ∧ ∀ i ∈ l, Vok i := by
  obtain ⟨a1, len, cap, rfl⟩ := okWide_slice Try.underlying34 hv
  obtain ⟨fuel, hf⟩ := h
  rcases open_slice Try.underlying34 hf with ⟨hcs, hx⟩ | ⟨a, len', cap', m, n, D, Pl, hcs, _, hl, hmx, hmm, hx, hi⟩
  · simp [Value.cells] at hcs
    obtain ⟨rfl, rfl, rfl⟩ := hcs
    exact ⟨none, 0, [], rfl, Sr.none_ _ _, by simp⟩
  · simp [Value.cells] at hcs
    obtain ⟨rfl, rfl, rfl⟩ := hcs
    have hlm : len ≤ m := by rw [hmm]; split <;> omega
    have each : ∀ i, i < len → ∃ x : Ve, (∀ (j : Nat) u, (encV x)[j]? = some u → W.cell? (a.add (i * 6 + j)) = some u) ∧ Vok x := fun i hil => by
      obtain ⟨cs', hc, ht⟩ := hi i (by omega)
      rw [cells_ver] at hc
      obtain ⟨_, hcl, hat⟩ := World.cells?_some hc
      match cs', hcl with
      | [u0, u1, u2, u3, u4, u5], _ =>
        obtain ⟨x, hx, hok⟩ := open_ve ht
        refine ⟨x, fun j u hu => ?_, hok⟩
        have hj : j < 6 := by
          have := (List.getElem?_eq_some_iff.1 hu).1
          simpa [encV] using this
        have h0 := hat j hj
        rw [Go.Deep.add_add, hx] at h0
        exact h0.trans hu
    have : Inhabited Ve := ⟨⟨0, 0, 0, 0, 0, ⟨#[]⟩⟩⟩
    obtain ⟨f, hf'⟩ := choose_lt each
    have hll : ((List.range len).map f).length = len := by simp
    refine ⟨some a, cap, (List.range len).map f, by rw [hll], ⟨by rw [hll]; exact hl, hmx, (fun h => by cases h), fun hn => ⟨a, rfl, ?_, fun i x hk => ?_⟩⟩, ?_⟩
    · rw [hll] at hn
      have := World.block_lt_of_cell? W _ ((hf' 0 hn).1 0 _ rfl)
      rwa [el_block_of_add] at this
    · simp only [List.getElem?_map, Option.map_eq_some_iff] at hk
      obtain ⟨j, hj, he⟩ := hk
      obtain ⟨hj1, hj2⟩ := List.getElem?_eq_some_iff.1 hj
      simp at hj1 hj2
      subst hj2
      have h2 := hf' i hj1
      rw [he] at h2
      exact h2.1
    · intro x hxm
      obtain ⟨i, hi1, rfl⟩ := List.mem_map.1 hxm
      rw [List.mem_range] at hi1
      exact (hf' i hi1).2
end Go.Proofs.Ytbeclajbpfglgaa
