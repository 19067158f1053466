/- The table of signs in the memory that a row of the door speaks of; how rules among a law's arguments are read. -/
import Derived.Test.YtfmgphjnajgldaaDoorCards
import Derived.Test.YtfmgphjnajgldaaDoorTie
import Derived.Test.YtfmgphjnajgldaaDoorMtG1
import Derived.Test.YtfmgphjnajgldaaDoorLbArg
import Derived.WalkKit
import Derived.HandedShaped
import Derived.Shelf.Vars
import Derived.Deep.DeepHandedRow
import Derived.Lib.LaidTab
import Derived.Lib.SmallJoins
namespace Go.Proofs.YtfmgphjnajgldaaDoor
open Go.ChangeShapes Go.WideShapes Go.ChangeAt Go.RowKit Go.Joins Go.Deep

def strData {H : Type} (zs : List (List UInt8)) : DataW H := .agg (zs.map fun z => .lit (.string z))
theorem cells_of_strs {H : Type} {enc : TypeId × Value → H} {P : Program} {w : World} {base : Nat} {sp : Nat → Bool} {held : Bool} {fuel : Nat} {t e : TypeId} {n : Nat} {cs : List Value} {zs : List (List UInt8)} {p : List MemPlace}
    (ht : P.underlying t = some (.array n e)) (he : P.underlying e = some .string) (hce : P.cellsOf e = 1) (hct : P.cellsOf t = n)
    (h : DataW.trod enc P w base sp held fuel t cs = some (strData zs, p)) : cs = zs.map fun z => Value.string ⟨z.toArray⟩ := by
  cases fuel with
  | zero => simp [DataW.trod] at h
  | succ fuel =>
    simp only [DataW.trod, ht, hce, hct, Nat.mul_one] at h
    split at h
    · rename_i hl
      obtain ⟨xs, hm, hx⟩ := Option.map_eq_some_iff.1 h
      have hxs : xs.map (·.1) = zs.map fun z => (DataW.lit (.string z) : DataW H) := by
        have := congrArg Prod.fst hx
        simpa [strData] using this
      have hxl : xs.length = n := by simpa using Lib.mapM_length hm
      have hzl : zs.length = n := by
        have := congrArg List.length hxs
        simp at this
        omega
      apply List.ext_getElem?
      intro i
      by_cases hi : i < n
      · obtain ⟨b, hb, hf⟩ := Lib.mapM_at hm i i (by simp [hi])
        obtain ⟨z, hc, rfl, _⟩ := DataW.trod_string he hf
        have h1 : cs[i]? = some (.string z) := by
          have := congrArg (·[0]?) hc
          simpa [List.getElem?_take, List.getElem?_drop] using this
        have h2 : (xs.map (·.1))[i]? = some (DataW.lit (.string z.data.toList) : DataW H) := by simp [hb]
        rw [hxs] at h2
        simp only [List.getElem?_map, Option.map_eq_some_iff, DataW.lit.injEq, Lit.string.injEq] at h2
        obtain ⟨z', hz', he'⟩ := h2
        subst he'
        simp [h1, hz']
      · rw [List.getElem?_eq_none (by omega), List.getElem?_eq_none (by simp; omega)]
    · cases h

theorem gSig : Tryd.prog.globalNamed "slackwater/match.signs" = some 0 := by kernel_rfl
theorem gSigType : (Tryd.prog.globals[0]?).map (·.type) = some 72 := by kernel_rfl
theorem cellsSig : Tryd.prog.cellsOf 72 = 5 := by kernel_rfl
theorem cellsStr : Tryd.prog.cellsOf 9 = 1 := by kernel_rfl
theorem sg_of {W : World} {rest : List (String × DataW Unit)} (h : laidMet Tryd.prog (("slackwater/match.signs", strData [[], [61], [33, 61], [94, 61], [42, 61]]) :: rest) W) : Sg W := by
  obtain ⟨ps, ⟨g', t', cs, fuel, p, q, hg', ht', hvar, hd, _, _⟩, _⟩ := h
  obtain rfl := Option.some.inj (gSig.symm.trans hg')
  obtain rfl := Option.some.inj (gSigType.symm.trans ht')
  have hc := cells_of_strs Tryd.underlying72 Tryd.underlying9 cellsStr cellsSig hd
  have hv := World.var?_cell gSig hvar
  have ha : ∀ (i : Nat) (u : Value), cs.toList[i]? = some u → W.cell? ⟨0, i, none⟩ = some u := fun i u hu => by
    have := hv i
    rw [this]
    simpa using hu
  rw [hc] at ha
  exact ⟨ha 1 _ rfl, ha 2 _ rfl, ha 3 _ rfl, ha 4 _ rfl⟩

/-- A world for the witness: the settled one, the table holding its signs. -/
noncomputable def laidWorld (os : Os) : World :=
  { World.holding Tryd.prog os ⟨#[], #[], []⟩ with heap := (World.holding Tryd.prog os ⟨#[], #[], []⟩).heap.modify 0 fun
      | .cells _ t frozen => .cells #[.string ⟨#[]⟩, .string ⟨#[61]⟩, .string ⟨#[33, 61]⟩, .string ⟨#[94, 61]⟩, .string ⟨#[42, 61]⟩] t frozen
      | o => o }

theorem mx_of {w : World} (h : w.ShapedOpen Tryd.prog) : Mx w :=
  cell_of_shapedOpen_int (P := Tryd.prog) (g := 1) (zero := #[.int .i64 0]) (t := 3) h (of_decide_eq_true (by kernel_rfl)) (by kernel_rfl) rfl (by kernel_rfl) (by kernel_rfl) Tryd.underlying3

theorem cells_rr : Tryd.prog.cellsOf 51 = 3 := by kernel_rfl
theorem one_rr : ∀ {fs : Array Field}, Tryd.prog.underlying 51 = some (.struct fs) → oneCellFields Tryd.prog fs = true := by
  intro fs h
  rw [Tryd.underlying51] at h
  injection h with h
  injection h with h
  subst h
  kernel_rfl

set_option maxRecDepth 100000 in
theorem open_rls {H : Type} {enc : TypeId × Value → H} {W : World} {base : Nat} {v : Value} {d : DataW H} {p : List MemPlace}
    (hv : Value.okWide Tryd.prog W .any base 22 v) (h : DataW.Trod enc Tryd.prog W 0 (fun _ => true) true 22 v d p) :
    ∃ A cap l, v = .slice A l.length cap ∧ Rr W W.heap.size A cap l ∧ l.length ≤ Rows.uptoBulk d ∧ ∀ x ∈ l, x.1.size ≤ Rows.uptoBulk d ∧ x.2.2.size ≤ Rows.uptoBulk d := by
  obtain ⟨a1, len, cap, rfl⟩ := okWide_slice Tryd.underlying22 hv
  obtain ⟨fuel, hf⟩ := h
  rcases open_slice Tryd.underlying22 hf with ⟨hcs, hx⟩ | ⟨a, len', cap', m, n, D, Pl, hcs, _, hl, hmx, hmm, hx, hi⟩
  · simp [Value.cells] at hcs
    obtain ⟨rfl, rfl, rfl⟩ := hcs
    exact ⟨none, 0, [], rfl, Sr.none_ _ _, by simp, fun x hx => by simp at hx⟩
  · simp [Value.cells] at hcs
    obtain ⟨rfl, rfl, rfl⟩ := hcs
    have hlm : len ≤ m := by rw [hmm]; split <;> omega
    have each : ∀ i, i < len → ∃ x : Rp, W.cell? (a.add (i * 3)) = some (.string x.1) ∧ W.cell? (a.add (i * 3 + 1)) = some (.int .i64 x.2.1) ∧ W.cell? (a.add (i * 3 + 2)) = some (.string x.2.2) ∧ D i = .agg [.lit (.string x.1.data.toList), .lit (.int .i64 x.2.1), .lit (.string x.2.2.data.toList)] := fun i hil => by
      obtain ⟨cs', hc, ht⟩ := hi i (by omega)
      rw [cells_rr] at hc
      obtain ⟨_, hcl, hat⟩ := World.cells?_some hc
      obtain ⟨ys, n', _, hy, _, hlen, hg⟩ := DataW.trod_struct Tryd.underlying51 ht
      match cs', hcl with
      | [u0, u1, u2], _ =>
        have hone := one_rr Tryd.underlying51
        have g0 := hg 0 _ rfl
        have g1 := hg 1 _ rfl
        have g2 := hg 2 _ rfl
        obtain ⟨o0, k0⟩ := hone_of hone 0 _ rfl
        obtain ⟨o1, k1⟩ := hone_of hone 1 _ rfl
        obtain ⟨o2, k2⟩ := hone_of hone 2 _ rfl
        rw [o0, k0] at g0
        rw [o1, k1] at g1
        rw [o2, k2] at g2
        simp only [List.drop_zero, List.take_succ_cons, List.take_zero, List.drop_succ_cons] at g0 g1 g2
        match ys, hlen with
        | [y0, y1, y2], _ =>
          obtain ⟨s0, e0, d0, _⟩ := DataW.trod_string Tryd.underlying9 g0
          obtain ⟨s1, e1, d1, _⟩ := DataW.trod_int Tryd.underlying3 g1
          obtain ⟨s2, e2, d2, _⟩ := DataW.trod_string Tryd.underlying9 g2
          simp at e0 e1 e2
          subst e0 e1 e2 d0 d1 d2
          have h0 := hat 0 (by omega)
          have h1 := hat 1 (by omega)
          have h2 := hat 2 (by omega)
          rw [Go.Deep.add_add] at h0 h1 h2
          rw [Nat.add_zero] at h0
          simp only [Prod.mk.injEq] at hy
          exact ⟨(s0, s1, s2), h0, h1, h2, by rw [hy.1]; rfl⟩
    obtain ⟨f, hf'⟩ := choose_lt each
    have hll : ((List.range len).map f).length = len := by simp
    simp only [Prod.mk.injEq] at hx
    have hbulk := len_le_bulk ((List.range len).map D)
    simp only [List.length_map, List.length_range] at hbulk
    refine ⟨some a, cap, (List.range len).map f, by rw [hll], ⟨by rw [hll]; exact hl, hmx, (fun h => by cases h), fun hn => ⟨a, rfl, ?_, fun i x hk => ?_⟩⟩, ?_, ?_⟩
    · rw [hll] at hn
      have := World.block_lt_of_cell? W _ (hf' 0 hn).1
      rwa [el_block_of_add] at this
    · simp only [List.getElem?_map, Option.map_eq_some_iff] at hk
      obtain ⟨j, hj, he⟩ := hk
      obtain ⟨hj1, hj2⟩ := List.getElem?_eq_some_iff.1 hj
      simp at hj1 hj2
      subst hj2
      have h2 := hf' i hj1
      rw [he] at h2
      intro q u hu
      match q, hu with
      | 0, hu =>
        simp [encR] at hu
        subst hu
        exact h2.1
      | 1, hu =>
        simp [encR] at hu
        subst hu
        exact h2.2.1
      | 2, hu =>
        simp [encR] at hu
        subst hu
        exact h2.2.2.1
    · rw [hll, hx.1]
      simp only [Rows.uptoBulk]
      omega
    · intro x hxm
      obtain ⟨i, hi1, rfl⟩ := List.mem_map.1 hxm
      rw [List.mem_range] at hi1
      have hD := (hf' i hi1).2.2.2
      have hmem : D i ∈ (List.range len).map D := List.mem_map.2 ⟨i, List.mem_range.2 hi1, rfl⟩
      have hb := bulk_mem _ _ hmem
      rw [hD] at hb
      simp only [Rows.uptoBulk, Rows.uptoBulkAll] at hb
      have l1 : (f i).1.data.toList.length = (f i).1.size := by simp
      have l2 : (f i).2.2.data.toList.length = (f i).2.2.size := by simp
      rw [hx.1]
      simp only [Rows.uptoBulk]
      omega
end Go.Proofs.YtfmgphjnajgldaaDoor
