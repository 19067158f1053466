/- The document's Number. -/
import Derived.Test.YtcmpenmaphmifaaGreatDoorPk20
import Derived.Test.YtcmpenmaphmifaaGreatDoorPk0
import Derived.ChangeMaps5
import Derived.Deep.Slices
import Derived.Deep.Fields
import Derived.Test.YtcmpenmaphmifaaGreatDoorCards
import Derived.Test.YtcmpenmaphmifaaGreatDoorTie
import Derived.Test.YtcmpenmaphmifaaGreatDoorPk11
import Derived.WalkKit
import Derived.HandedShaped
import Derived.Shelf.Vars
import Derived.Deep.DeepHandedRow
import Derived.Lib.LaidTab
import Derived.Lib.SmallJoins
import Derived.ProofKit
import Derived.OpenShut
import Derived.Carry
import Derived.SizedLaws
import Derived.JoinedCond
import Derived.Lay
import Derived.MakeChecks
import Derived.ChangeArms
import Derived.Test.YtcmpenmaphmifaaGreatDoorPk17
import Derived.LoopTactic
namespace Go.Proofs.YtcmpenmaphmifaaGreatDoor
open Go.ChangeShapes Go.WideShapes Go.ChangeAt Go.RowKit Go.Deep

theorem cells_rp : Tryz.prog.cellsOf 162 = 2 := by kernel_rfl
theorem one_rp : ∀ {fs : Array Field}, Tryz.prog.underlying 162 = some (.struct fs) → oneCellFields Tryz.prog fs = true := by
  intro fs h
  rw [Tryz.underlying162] at h
  injection h with h
  injection h with h
  subst h
  kernel_rfl

theorem bulk_mem {H : Type} : ∀ (l : List (DataW H)) (x : DataW H), x ∈ l → Rows.uptoBulk x ≤ Rows.uptoBulkAll l
  | [], _, h => by simp at h
  | y :: r, x, h => by
    rcases List.mem_cons.1 h with rfl | h
    · simp only [Rows.uptoBulkAll]; omega
    · have := bulk_mem r x h
      simp only [Rows.uptoBulkAll]; omega

set_option maxRecDepth 100000 in
theorem open_prs {H : Type} {enc : TypeId × Value → H} {W : World} {base : Nat} {v : Value} {d : DataW H} {p : List MemPlace}
    (hv : Value.okWide Tryz.prog W .any base 73 v) (h : DataW.Trod enc Tryz.prog W 0 (fun _ => true) true 73 v d p) :
    ∃ A cap l, v = .slice A l.length cap ∧ Lr W W.heap.size A cap l ∧ l.length ≤ Rows.uptoBulk d ∧ ∀ x ∈ l, x.1.size ≤ Rows.uptoBulk d ∧ x.2.size ≤ Rows.uptoBulk d := by
  obtain ⟨a1, len, cap, rfl⟩ := okWide_slice Tryz.underlying73 hv
  obtain ⟨fuel, hf⟩ := h
  rcases open_slice Tryz.underlying73 hf with ⟨hcs, hx⟩ | ⟨a, len', cap', m, n, D, Pl, hcs, _, hl, hmx, hmm, hx, hi⟩
  · simp [Value.cells] at hcs
    obtain ⟨rfl, rfl, rfl⟩ := hcs
    exact ⟨none, 0, [], rfl, Sr.none_ _ _, by simp, fun x hx => by simp at hx⟩
  · simp [Value.cells] at hcs
    obtain ⟨rfl, rfl, rfl⟩ := hcs
    have hlm : len ≤ m := by rw [hmm]; split <;> omega
    have each : ∀ i, i < len → ∃ x : Pp, W.cell? (a.add (i * 2)) = some (.string x.1) ∧ W.cell? (a.add (i * 2 + 1)) = some (.string x.2) ∧ D i = .agg [.lit (.string x.1.data.toList), .lit (.string x.2.data.toList)] := fun i hil => by
      obtain ⟨cs', hc, ht⟩ := hi i (by omega)
      rw [cells_rp] at hc
      obtain ⟨_, hcl, hat⟩ := World.cells?_some hc
      obtain ⟨ys, n', _, hy, _, hlen, hg⟩ := DataW.trod_struct Tryz.underlying162 ht
      match cs', hcl with
      | [u0, u1], _ =>
        have hone := one_rp Tryz.underlying162
        have g0 := hg 0 _ rfl
        have g1 := hg 1 _ rfl
        obtain ⟨o0, k0⟩ := hone_of hone 0 _ rfl
        obtain ⟨o1, k1⟩ := hone_of hone 1 _ rfl
        rw [o0, k0] at g0
        rw [o1, k1] at g1
        simp only [List.drop_zero, List.take_succ_cons, List.take_zero, List.drop_succ_cons] at g0 g1
        match ys, hlen with
        | [y0, y1], _ =>
          obtain ⟨s0, e0, d0, _⟩ := DataW.trod_string Tryz.underlying9 g0
          obtain ⟨s1, e1, d1, _⟩ := DataW.trod_string Tryz.underlying9 g1
          simp at e0 e1
          subst e0 e1 d0 d1
          have h0 := hat 0 (by omega)
          have h1 := hat 1 (by omega)
          rw [Go.Deep.add_add] at h0 h1
          rw [Nat.add_zero] at h0
          simp only [Prod.mk.injEq] at hy
          exact ⟨(s0, s1), h0, h1, by rw [hy.1]; rfl⟩
    obtain ⟨f, hf'⟩ := choose_lt each
    have hll : ((List.range len).map f).length = len := by simp
    simp only [Prod.mk.injEq] at hx
    have hbulk := len_le_bulk ((List.range len).map D)
    simp only [List.length_map, List.length_range] at hbulk
    refine ⟨some a, cap, (List.range len).map f, by rw [hll], ⟨by rw [hll]; exact hl, hmx, (fun h => by cases h), fun hn => ⟨a, rfl, ?_, fun i x hk => ?_⟩⟩, ?_, ?_⟩
    · rw [hll] at hn
      have := World.block_lt_of_cell? W _ (hf' 0 hn).1
      rwa [el_block_of_add] at this
    · simp only [List.getElem?_map, Option.map_eq_some_iff] at hk
      obtain ⟨j, hj, he⟩ := hk
      obtain ⟨hj1, hj2⟩ := List.getElem?_eq_some_iff.1 hj
      simp at hj1 hj2
      subst hj2
      have h2 := hf' i hj1
      rw [he] at h2
      intro q u hu
      match q, hu with
      | 0, hu =>
        simp [encP] at hu
        subst hu
        exact h2.1
      | 1, hu =>
        simp [encP] at hu
        subst hu
        exact h2.2.1
    · rw [hll, hx.1]
      simp only [Rows.uptoBulk]
      omega
    · intro x hxm
      obtain ⟨i, hi1, rfl⟩ := List.mem_map.1 hxm
      rw [List.mem_range] at hi1
      have hD := (hf' i hi1).2.2
      have hmem : D i ∈ (List.range len).map D := List.mem_map.2 ⟨i, List.mem_range.2 hi1, rfl⟩
      have hb := bulk_mem _ _ hmem
      rw [hD] at hb
      simp only [Rows.uptoBulk, Rows.uptoBulkAll] at hb
      have l1 : (f i).1.data.toList.length = (f i).1.size := by simp
      have l2 : (f i).2.data.toList.length = (f i).2.size := by simp
      rw [hx.1]
      simp only [Rows.uptoBulk]
      omega
end Go.Proofs.YtcmpenmaphmifaaGreatDoor
namespace Go.Proofs.YtcmpenmaphmifaaGreatDoor
open Go.ChangeShapes Go.WideShapes Go.ChangeAt Go.RowKit Go.Joins Go.Deep

def strData {H : Type} (zs : List (List UInt8)) : DataW H := .agg (zs.map fun z => .lit (.string z))
theorem cells_of_strs {H : Type} {enc : TypeId × Value → H} {P : Program} {w : World} {base : Nat} {sp : Nat → Bool} {held : Bool} {fuel : Nat} {t e : TypeId} {n : Nat} {cs : List Value} {zs : List (List UInt8)} {p : List MemPlace}
    (ht : P.underlying t = some (.array n e)) (he : P.underlying e = some .string) (hce : P.cellsOf e = 1) (hct : P.cellsOf t = n)
    (h : DataW.trod enc P w base sp held fuel t cs = some (strData zs, p)) : cs = zs.map fun z => Value.string ⟨z.toArray⟩ := by
  cases fuel with
  | zero => simp [DataW.trod] at h
  | succ fuel =>
    simp only [DataW.trod, ht, hce, hct, Nat.mul_one] at h
    split at h
    · rename_i hl
      obtain ⟨xs, hm, hx⟩ := Option.map_eq_some_iff.1 h
      have hxs : xs.map (·.1) = zs.map fun z => (DataW.lit (.string z) : DataW H) := by
        have := congrArg Prod.fst hx
        simpa [strData] using this
      have hxl : xs.length = n := by simpa using Lib.mapM_length hm
      have hzl : zs.length = n := by
        have := congrArg List.length hxs
        simp at this
        omega
      apply List.ext_getElem?
      intro i
      by_cases hi : i < n
      · obtain ⟨b, hb, hf⟩ := Lib.mapM_at hm i i (by simp [hi])
        obtain ⟨z, hc, rfl, _⟩ := DataW.trod_string he hf
        have h1 : cs[i]? = some (.string z) := by
          have := congrArg (·[0]?) hc
          simpa [List.getElem?_take, List.getElem?_drop] using this
        have h2 : (xs.map (·.1))[i]? = some (DataW.lit (.string z.data.toList) : DataW H) := by simp [hb]
        rw [hxs] at h2
        simp only [List.getElem?_map, Option.map_eq_some_iff, DataW.lit.injEq, Lit.string.injEq] at h2
        obtain ⟨z', hz', he'⟩ := h2
        subst he'
        simp [h1, hz']
      · rw [List.getElem?_eq_none (by omega), List.getElem?_eq_none (by simp; omega)]
    · cases h

theorem gSig : Tryz.prog.globalNamed "slackwater/match.signs" = some 1 := by kernel_rfl
theorem gSigType : (Tryz.prog.globals[1]?).map (·.type) = some 190 := by kernel_rfl
theorem cellsSig : Tryz.prog.cellsOf 190 = 5 := by kernel_rfl
theorem cellsStr : Tryz.prog.cellsOf 9 = 1 := by kernel_rfl
theorem sg_of {W : World} {rest : List (String × DataW Unit)} (h : laidMet Tryz.prog (("slackwater/match.signs", strData [[], [61], [33, 61], [94, 61], [42, 61]]) :: rest) W) : Sg W := by
  obtain ⟨ps, ⟨g', t', cs, fuel, p, q, hg', ht', hvar, hd, _, _⟩, _⟩ := h
  obtain rfl := Option.some.inj (gSig.symm.trans hg')
  obtain rfl := Option.some.inj (gSigType.symm.trans ht')
  have hc := cells_of_strs Tryz.underlying190 Tryz.underlying9 cellsStr cellsSig hd
  have hv := World.var?_cell gSig hvar
  have ha : ∀ (i : Nat) (u : Value), cs.toList[i]? = some u → W.cell? ⟨1, i, none⟩ = some u := fun i u hu => by
    have := hv i
    rw [this]
    simpa using hu
  rw [hc] at ha
  exact ⟨ha 1 _ rfl, ha 2 _ rfl, ha 3 _ rfl, ha 4 _ rfl⟩

/-- A world for the witness: the settled one, the table holding its signs. -/
noncomputable def laidWorld (os : Os) : World :=
  { World.holding Tryz.prog os ⟨#[], #[], []⟩ with heap := (World.holding Tryz.prog os ⟨#[], #[], []⟩).heap.modify 1 fun
      | .cells _ t frozen => .cells #[.string ⟨#[]⟩, .string ⟨#[61]⟩, .string ⟨#[33, 61]⟩, .string ⟨#[94, 61]⟩, .string ⟨#[42, 61]⟩] t frozen
      | o => o }

theorem mx_of {w : World} (h : w.ShapedOpen Tryz.prog) : Mx w :=
  cell_of_shapedOpen_int (P := Tryz.prog) (g := 2) (zero := #[.int .i64 0]) (t := 3) h (of_decide_eq_true (by kernel_rfl)) (by kernel_rfl) rfl (by kernel_rfl) (by kernel_rfl) Tryz.underlying3

theorem cells_rr : Tryz.prog.cellsOf 147 = 3 := by kernel_rfl
theorem one_rr : ∀ {fs : Array Field}, Tryz.prog.underlying 147 = some (.struct fs) → oneCellFields Tryz.prog fs = true := by
  intro fs h
  rw [Tryz.underlying147] at h
  injection h with h
  injection h with h
  subst h
  kernel_rfl

set_option maxRecDepth 100000 in
theorem open_rls {H : Type} {enc : TypeId × Value → H} {W : World} {base : Nat} {v : Value} {d : DataW H} {p : List MemPlace}
    (hv : Value.okWide Tryz.prog W .any base 22 v) (h : DataW.Trod enc Tryz.prog W 0 (fun _ => true) true 22 v d p) :
    ∃ A cap l, v = .slice A l.length cap ∧ Rr W W.heap.size A cap l ∧ l.length ≤ Rows.uptoBulk d ∧ ∀ x ∈ l, x.1.size ≤ Rows.uptoBulk d ∧ x.2.2.size ≤ Rows.uptoBulk d := by
  obtain ⟨a1, len, cap, rfl⟩ := okWide_slice Tryz.underlying22 hv
  obtain ⟨fuel, hf⟩ := h
  rcases open_slice Tryz.underlying22 hf with ⟨hcs, hx⟩ | ⟨a, len', cap', m, n, D, Pl, hcs, _, hl, hmx, hmm, hx, hi⟩
  · simp [Value.cells] at hcs
    obtain ⟨rfl, rfl, rfl⟩ := hcs
    exact ⟨none, 0, [], rfl, Sr.none_ _ _, by simp, fun x hx => by simp at hx⟩
  · simp [Value.cells] at hcs
    obtain ⟨rfl, rfl, rfl⟩ := hcs
    have hlm : len ≤ m := by rw [hmm]; split <;> omega
    have each : ∀ i, i < len → ∃ x : Rp, W.cell? (a.add (i * 3)) = some (.string x.1) ∧ W.cell? (a.add (i * 3 + 1)) = some (.int .i64 x.2.1) ∧ W.cell? (a.add (i * 3 + 2)) = some (.string x.2.2) ∧ D i = .agg [.lit (.string x.1.data.toList), .lit (.int .i64 x.2.1), .lit (.string x.2.2.data.toList)] := fun i hil => by
      obtain ⟨cs', hc, ht⟩ := hi i (by omega)
      rw [cells_rr] at hc
      obtain ⟨_, hcl, hat⟩ := World.cells?_some hc
      obtain ⟨ys, n', _, hy, _, hlen, hg⟩ := DataW.trod_struct Tryz.underlying147 ht
      match cs', hcl with
      | [u0, u1, u2], _ =>
        have hone := one_rr Tryz.underlying147
        have g0 := hg 0 _ rfl
        have g1 := hg 1 _ rfl
        have g2 := hg 2 _ rfl
        obtain ⟨o0, k0⟩ := hone_of hone 0 _ rfl
        obtain ⟨o1, k1⟩ := hone_of hone 1 _ rfl
        obtain ⟨o2, k2⟩ := hone_of hone 2 _ rfl
        rw [o0, k0] at g0
        rw [o1, k1] at g1
        rw [o2, k2] at g2
        simp only [List.drop_zero, List.take_succ_cons, List.take_zero, List.drop_succ_cons] at g0 g1 g2
        match ys, hlen with
        | [y0, y1, y2], _ =>
          obtain ⟨s0, e0, d0, _⟩ := DataW.trod_string Tryz.underlying9 g0
          obtain ⟨s1, e1, d1, _⟩ := DataW.trod_int Tryz.underlying3 g1
          obtain ⟨s2, e2, d2, _⟩ := DataW.trod_string Tryz.underlying9 g2
          simp at e0 e1 e2
          subst e0 e1 e2 d0 d1 d2
          have h0 := hat 0 (by omega)
          have h1 := hat 1 (by omega)
          have h2 := hat 2 (by omega)
          rw [Go.Deep.add_add] at h0 h1 h2
          rw [Nat.add_zero] at h0
          simp only [Prod.mk.injEq] at hy
          exact ⟨(s0, s1, s2), h0, h1, h2, by rw [hy.1]; rfl⟩
    obtain ⟨f, hf'⟩ := choose_lt each
    have hll : ((List.range len).map f).length = len := by simp
    simp only [Prod.mk.injEq] at hx
    have hbulk := len_le_bulk ((List.range len).map D)
    simp only [List.length_map, List.length_range] at hbulk
    refine ⟨some a, cap, (List.range len).map f, by rw [hll], ⟨by rw [hll]; exact hl, hmx, (fun h => by cases h), fun hn => ⟨a, rfl, ?_, fun i x hk => ?_⟩⟩, ?_, ?_⟩
    · rw [hll] at hn
      have := World.block_lt_of_cell? W _ (hf' 0 hn).1
      rwa [el_block_of_add] at this
    · simp only [List.getElem?_map, Option.map_eq_some_iff] at hk
      obtain ⟨j, hj, he⟩ := hk
      obtain ⟨hj1, hj2⟩ := List.getElem?_eq_some_iff.1 hj
      simp at hj1 hj2
      subst hj2
      have h2 := hf' i hj1
      rw [he] at h2
      intro q u hu
      match q, hu with
      | 0, hu =>
        simp [encR] at hu
        subst hu
        exact h2.1
      | 1, hu =>
        simp [encR] at hu
        subst hu
        exact h2.2.1
      | 2, hu =>
        simp [encR] at hu
        subst hu
        exact h2.2.2.1
    · rw [hll, hx.1]
      simp only [Rows.uptoBulk]
      omega
    · intro x hxm
      obtain ⟨i, hi1, rfl⟩ := List.mem_map.1 hxm
      rw [List.mem_range] at hi1
      have hD := (hf' i hi1).2.2.2
      have hmem : D i ∈ (List.range len).map D := List.mem_map.2 ⟨i, List.mem_range.2 hi1, rfl⟩
      have hb := bulk_mem _ _ hmem
      rw [hD] at hb
      simp only [Rows.uptoBulk, Rows.uptoBulkAll] at hb
      have l1 : (f i).1.data.toList.length = (f i).1.size := by simp
      have l2 : (f i).2.2.data.toList.length = (f i).2.2.size := by simp
      rw [hx.1]
      simp only [Rows.uptoBulk]
      omega
end Go.Proofs.YtcmpenmaphmifaaGreatDoor
namespace Go.Proofs.YtcmpenmaphmifaaGreatDoor
open Go.ChangeShapes Go.WideShapes Go.ChangeAt Go.RowKit Go.Joins Go.Deep

theorem gPowType : (Tryz.prog.globals[3]?).map (·.type) = some 220 := by kernel_rfl
theorem cellsPow : Tryz.prog.cellsOf 220 = 20 := by kernel_rfl
theorem cellsU64 : Tryz.prog.cellsOf 148 = 1 := by kernel_rfl
theorem powData : (Rows.laid_internal_strconv_uint64pow10 : DataW Unit) = Lib.tabData .u64 Lib.pow10Tab := by kernel_rfl
theorem gRange : Tryz.prog.globalNamed "strconv.ErrRange" = some 5 := by kernel_rfl
theorem gRangeType : (Tryz.prog.globals[5]?).map (·.type) = some 104 := by kernel_rfl
theorem gSyntax : Tryz.prog.globalNamed "strconv.ErrSyntax" = some 4 := by kernel_rfl
theorem gSyntaxType : (Tryz.prog.globals[4]?).map (·.type) = some 104 := by kernel_rfl
theorem iface_var {W : World} {name : String} {g : Nat} {cs : Array Value} {fuel : Nat} {nm : String} {d : DataW Unit} {p : List MemPlace} (hg : Tryz.prog.globalNamed name = some g) (hvar : W.var? Tryz.prog name = some cs)
    (hd : DataW.trod (fun _ => ()) Tryz.prog W 0 (fun _ => true) false fuel 104 cs.toList = some (.iface nm d, p)) : ∃ te pe, W.cell? ⟨g, 0, none⟩ = some (.iface te pe) := by
  obtain ⟨_, u, v, hcs, _, _⟩ := iface_of_trod Tryz.underlying104 hd
  have h := World.var?_cell hg hvar 0
  refine ⟨u, v, h.trans ?_⟩
  have e : cs.toList[0]? = some (.iface u v) := by rw [hcs]; rfl
  simpa using e
set_option maxRecDepth 100000 in
theorem open_rls1 {H : Type} {enc : TypeId × Value → H} {W : World} {fuel : Nat} {cs : List Value} {d : DataW H} {p : List MemPlace}
    (hf : DataW.trod enc Tryz.prog W 0 (fun _ => true) true fuel 22 cs = some (d, p)) :
    ∃ A cap l, cs = [.slice A l.length cap] ∧ Rr W W.heap.size A cap l ∧ l.length ≤ Rows.uptoBulk d ∧ ∀ x ∈ l, x.1.size ≤ Rows.uptoBulk d ∧ x.2.2.size ≤ Rows.uptoBulk d := by
  rcases open_slice Tryz.underlying22 hf with ⟨hcs, hx⟩ | ⟨a, len, cap, m, n, D, Pl, hcs, _, hl, hmx, hmm, hx, hi⟩
  · subst hcs
    exact ⟨none, 0, [], rfl, Sr.none_ _ _, by simp, fun x hx => by simp at hx⟩
  · subst hcs
    have hlm : len ≤ m := by rw [hmm]; split <;> omega
    have each : ∀ i, i < len → ∃ x : Rp, W.cell? (a.add (i * 3)) = some (.string x.1) ∧ W.cell? (a.add (i * 3 + 1)) = some (.int .i64 x.2.1) ∧ W.cell? (a.add (i * 3 + 2)) = some (.string x.2.2) ∧ D i = .agg [.lit (.string x.1.data.toList), .lit (.int .i64 x.2.1), .lit (.string x.2.2.data.toList)] := fun i hil => by
      obtain ⟨cs', hc, ht⟩ := hi i (by omega)
      rw [cells_rr] at hc
      obtain ⟨_, hcl, hat⟩ := World.cells?_some hc
      obtain ⟨ys, n', _, hy, _, hlen, hg⟩ := DataW.trod_struct Tryz.underlying147 ht
      match cs', hcl with
      | [u0, u1, u2], _ =>
        have hone := one_rr Tryz.underlying147
        have g0 := hg 0 _ rfl
        have g1 := hg 1 _ rfl
        have g2 := hg 2 _ rfl
        obtain ⟨o0, k0⟩ := hone_of hone 0 _ rfl
        obtain ⟨o1, k1⟩ := hone_of hone 1 _ rfl
        obtain ⟨o2, k2⟩ := hone_of hone 2 _ rfl
        rw [o0, k0] at g0
        rw [o1, k1] at g1
        rw [o2, k2] at g2
        simp only [List.drop_zero, List.take_succ_cons, List.take_zero, List.drop_succ_cons] at g0 g1 g2
        match ys, hlen with
        | [y0, y1, y2], _ =>
          obtain ⟨s0, e0, d0, _⟩ := DataW.trod_string Tryz.underlying9 g0
          obtain ⟨s1, e1, d1, _⟩ := DataW.trod_int Tryz.underlying3 g1
          obtain ⟨s2, e2, d2, _⟩ := DataW.trod_string Tryz.underlying9 g2
          simp at e0 e1 e2
          subst e0 e1 e2 d0 d1 d2
          have h0 := hat 0 (by omega)
          have h1 := hat 1 (by omega)
          have h2 := hat 2 (by omega)
          rw [Go.Deep.add_add] at h0 h1 h2
          rw [Nat.add_zero] at h0
          simp only [Prod.mk.injEq] at hy
          exact ⟨(s0, s1, s2), h0, h1, h2, by rw [hy.1]; rfl⟩
    obtain ⟨f, hf'⟩ := choose_lt each
    have hll : ((List.range len).map f).length = len := by simp
    simp only [Prod.mk.injEq] at hx
    have hbulk := len_le_bulk ((List.range len).map D)
    simp only [List.length_map, List.length_range] at hbulk
    refine ⟨some a, cap, (List.range len).map f, by rw [hll], ⟨by rw [hll]; exact hl, hmx, (fun h => by cases h), fun hn => ⟨a, rfl, ?_, fun i x hk => ?_⟩⟩, ?_, ?_⟩
    · rw [hll] at hn
      have := World.block_lt_of_cell? W _ (hf' 0 hn).1
      rwa [el_block_of_add] at this
    · simp only [List.getElem?_map, Option.map_eq_some_iff] at hk
      obtain ⟨j, hj, he⟩ := hk
      obtain ⟨hj1, hj2⟩ := List.getElem?_eq_some_iff.1 hj
      simp at hj1 hj2
      subst hj2
      have h2 := hf' i hj1
      rw [he] at h2
      intro q u hu
      match q, hu with
      | 0, hu =>
        simp [encR] at hu
        subst hu
        exact h2.1
      | 1, hu =>
        simp [encR] at hu
        subst hu
        exact h2.2.1
      | 2, hu =>
        simp [encR] at hu
        subst hu
        exact h2.2.2.1
    · rw [hll, hx.1]
      simp only [Rows.uptoBulk]
      omega
    · intro x hxm
      obtain ⟨i, hi1, rfl⟩ := List.mem_map.1 hxm
      rw [List.mem_range] at hi1
      have hD := (hf' i hi1).2.2.2
      have hmem : D i ∈ (List.range len).map D := List.mem_map.2 ⟨i, List.mem_range.2 hi1, rfl⟩
      have hb := bulk_mem _ _ hmem
      rw [hD] at hb
      simp only [Rows.uptoBulk, Rows.uptoBulkAll] at hb
      have l1 : (f i).1.data.toList.length = (f i).1.size := by simp
      have l2 : (f i).2.2.data.toList.length = (f i).2.2.size := by simp
      rw [hx.1]
      simp only [Rows.uptoBulk]
      omega
theorem sgData : (Rows.laid_slackwater_match_signs : DataW Unit) = strData [[], [61], [33, 61], [94, 61], [42, 61]] := by rfl
theorem woData : (Rows.laid_slackwater_ask_words : DataW Unit) = strData [[112, 111, 105, 110, 116, 115], [115, 117, 109], [99, 111, 117, 110, 116], [109, 105, 110], [109, 97, 120], [100, 101, 108, 116, 97]] := by rfl
theorem gWor : Tryz.prog.globalNamed "slackwater/ask.words" = some 0 := by kernel_rfl
theorem gWorType : (Tryz.prog.globals[0]?).map (·.type) = some 136 := by kernel_rfl
theorem cellsWor : Tryz.prog.cellsOf 136 = 6 := by kernel_rfl
theorem ask_vars_of {W : World} (h : laidMet Tryz.prog Rows.askTextsUptoRow.laid W) : Pow W ∧ Errs W ∧ Sg W ∧ Wo W := by
  obtain ⟨ps, hV, _, _⟩ := h
  obtain ⟨_, _, _, _, _, _, _, _, _, _, h2, _⟩ := hV
  obtain ⟨_, _, _, _, _, _, _, _, _, _, h3, _⟩ := h2
  obtain ⟨g3, t3, c3, f3, p3, q3, hg3, ht3, hv3, hd3, h4, _⟩ := h3
  obtain ⟨g5, t5, c5, f5, p5, q5, hg5, ht5, hv5, hd5, h5, _⟩ := h4
  obtain ⟨g6, t6, c6, f6, p6, q6, hg6, ht6, hv6, hd6, h6, _⟩ := h5
  obtain ⟨g7, t7, c7, f7, p7, q7, hg7, ht7, hv7, hd7, h7, _⟩ := h6
  obtain ⟨g8, t8, c8, f8, p8, q8, hg8, ht8, hv8, hd8, _, _⟩ := h7
  obtain rfl := Option.some.inj (gPow.symm.trans hg3)
  obtain rfl := Option.some.inj (gPowType.symm.trans ht3)
  obtain rfl := Option.some.inj (gRange.symm.trans hg5)
  obtain rfl := Option.some.inj (gRangeType.symm.trans ht5)
  obtain rfl := Option.some.inj (gSyntax.symm.trans hg6)
  obtain rfl := Option.some.inj (gSyntaxType.symm.trans ht6)
  obtain rfl := Option.some.inj (gSig.symm.trans hg7)
  obtain rfl := Option.some.inj (gSigType.symm.trans ht7)
  obtain rfl := Option.some.inj (gWor.symm.trans hg8)
  obtain rfl := Option.some.inj (gWorType.symm.trans ht8)
  rw [powData] at hd3
  rw [sgData] at hd7
  rw [woData] at hd8
  refine ⟨?_, ⟨iface_var gSyntax hv6 hd6, iface_var gRange hv5 hd5⟩, ?_, ?_⟩
  · have hc := Lib.cells_of_tab Tryz.underlying220 Tryz.underlying148 cellsU64 cellsPow hd3
    unfold Pow Lib.TabIs
    rw [hv3, ← hc]
  · have hc := cells_of_strs Tryz.underlying190 Tryz.underlying9 cellsStr cellsSig hd7
    have hv := World.var?_cell gSig hv7
    have ha : ∀ (i : Nat) (u : Value), c7.toList[i]? = some u → W.cell? ⟨1, i, none⟩ = some u := fun i u hu => by
      have := hv i
      rw [this]
      simpa using hu
    rw [hc] at ha
    exact ⟨ha 1 _ rfl, ha 2 _ rfl, ha 3 _ rfl, ha 4 _ rfl⟩
  · have hc := cells_of_strs Tryz.underlying136 Tryz.underlying9 cellsStr cellsWor hd8
    have hv := World.var?_cell gWor hv8
    have ha : ∀ (i : Nat) (u : Value), c8.toList[i]? = some u → W.cell? ⟨0, i, none⟩ = some u := fun i u hu => by
      have := hv i
      rw [this]
      simpa using hu
    rw [hc] at ha
    intro i hi
    match i, hi with
    | 0, _ => exact ha 0 _ rfl
    | 1, _ => exact ha 1 _ rfl
    | 2, _ => exact ha 2 _ rfl
    | 3, _ => exact ha 3 _ rfl
    | 4, _ => exact ha 4 _ rfl
    | 5, _ => exact ha 5 _ rfl
theorem cells_qu : Tryz.prog.cellsOf 24 = 6 := by kernel_rfl
theorem one_qu : ∀ {fs : Array Field}, Tryz.prog.underlying 24 = some (.struct fs) → oneCellFields Tryz.prog fs = true := by
  intro fs h
  rw [Tryz.underlying24] at h
  injection h with h
  injection h with h
  subst h
  kernel_rfl
theorem wf_i64 {n : Int} (h : (Lit.int .i64 n).wf = true) : -9223372036854775808 ≤ n ∧ n ≤ 9223372036854775807 := by simpa [Lit.wf, IntKind.min, IntKind.max, IntKind.signed, IntKind.bits] using h
set_option maxRecDepth 100000 in
theorem open_qu {H : Type} {enc : TypeId × Value → H} {W : World} {base : Nat} {v : Value} {d : DataW H} {p : List MemPlace}
    (hv : Value.okWide Tryz.prog W .any base 24 v) (h : DataW.Trod enc Tryz.prog W 0 (fun _ => true) true 24 v d p) :
    ∃ q A c, v = qv q A c ∧ Rr W W.heap.size A c q.rs ∧ q.rs.length ≤ Rows.uptoBulk d ∧ (∀ x ∈ q.rs, x.1.size ≤ Rows.uptoBulk d ∧ x.2.2.size ≤ Rows.uptoBulk d) ∧ Qok q := by
  obtain ⟨cs, rfl, hsz⟩ := okWide_struct Tryz.underlying24 hv
  rw [cells_qu] at hsz
  obtain ⟨l⟩ := cs
  obtain ⟨fuel, hf⟩ := h
  match l, hsz with
  | [u0, u1, u2, u3, u4, u5], _ =>
    have hf' : DataW.trod enc Tryz.prog W 0 (fun _ => true) true fuel 24 [u0, u1, u2, u3, u4, u5] = some (d, p) := by simpa [Value.cells] using hf
    obtain ⟨ys, n', _, hy, _, hlen, hg⟩ := DataW.trod_struct Tryz.underlying24 hf'
    have hone := one_qu Tryz.underlying24
    have g0 := hg 0 _ rfl
    have g1 := hg 1 _ rfl
    have g2 := hg 2 _ rfl
    have g3 := hg 3 _ rfl
    have g4 := hg 4 _ rfl
    have g5 := hg 5 _ rfl
    obtain ⟨o0, k0⟩ := hone_of hone 0 _ rfl
    obtain ⟨o1, k1⟩ := hone_of hone 1 _ rfl
    obtain ⟨o2, k2⟩ := hone_of hone 2 _ rfl
    obtain ⟨o3, k3⟩ := hone_of hone 3 _ rfl
    obtain ⟨o4, k4⟩ := hone_of hone 4 _ rfl
    obtain ⟨o5, k5⟩ := hone_of hone 5 _ rfl
    rw [o0, k0] at g0
    rw [o1, k1] at g1
    rw [o2, k2] at g2
    rw [o3, k3] at g3
    rw [o4, k4] at g4
    rw [o5, k5] at g5
    simp only [List.drop_zero, List.take_succ_cons, List.take_zero, List.drop_succ_cons] at g0 g1 g2 g3 g4 g5
    match ys, hlen with
    | [y0, (e1, p1), y2, y3, y4, y5], _ =>
      obtain ⟨s0, e0, _, w0⟩ := DataW.trod_int Tryz.underlying3 g0
      obtain ⟨A, cap, rs, e1', hr, hl, hs⟩ := open_rls1 g1
      obtain ⟨s2, e2, _, w2⟩ := DataW.trod_int Tryz.underlying2 g2
      obtain ⟨s3, e3, _, w3⟩ := DataW.trod_int Tryz.underlying2 g3
      obtain ⟨s4, e4, _, w4⟩ := DataW.trod_int Tryz.underlying2 g4
      obtain ⟨s5, e5, _⟩ := DataW.trod_bool Tryz.underlying4 g5
      simp at e0 e1' e2 e3 e4 e5
      subst e0 e1' e2 e3 e4 e5
      have hb : Rows.uptoBulk e1 ≤ Rows.uptoBulk d := by
        simp only [Prod.mk.injEq] at hy
        rw [hy.1]
        simp only [List.map_cons, List.map_nil, Rows.uptoBulk, Rows.uptoBulkAll]
        omega
      have b0 := wf_i64 w0
      have b2 := wf_i64 w2
      have b3 := wf_i64 w3
      have b4 := wf_i64 w4
      refine ⟨⟨s0, rs, s2, s3, s4, s5⟩, A, cap, rfl, hr, Nat.le_trans hl hb, fun x hx => ⟨Nat.le_trans (hs x hx).1 hb, Nat.le_trans (hs x hx).2 hb⟩, ⟨b0.1, b0.2, b2.1, b2.2, b3.1, b3.2, b4.1, b4.2⟩⟩
/-- The witness's world: all that the row lists is laid. -/
noncomputable def laidWorldQ (os : Os) : World := World.laidAll Tryz.prog os Rows.askTextsUptoRow.laid
abbrev qArgs : Array Value := #[.agg #[.int .i64 0, .slice none 0 0, .int .i64 0, .int .i64 0, .int .i64 0, .bool false], .string ByteArray.empty]
theorem laid_worldQ_met (os : Os) : laidMet Tryz.prog Rows.askTextsUptoRow.laid ((laidWorldQ os).forCall (fun _ _ => 0) ⟨#[], qArgs, []⟩).memory :=
  laidMet_laidAll _ (by kernel_rfl) (by kernel_rfl)
theorem laid_worldQ_shaped (os : Os) : ((laidWorldQ os).forCall (fun _ _ => 0) ⟨#[], qArgs, []⟩).Shaped Tryz.prog :=
  World.shaped_of_ZipB (by kernel_rfl) (by kernel_rfl)
end Go.Proofs.YtcmpenmaphmifaaGreatDoor
namespace Go.Proofs.YtcmpenmaphmifaaGreatDoor
open Go.RowKit

def NumPost (w : World) (l : List UInt8) (most : Nat) (e : Ending) (w' : World) : Prop :=
  w = w' ∧ ∃ (n : Nat) (ok : Bool), e = .returned (.tuple #[.int .u64 n, .bool ok]) ∧ NumIs l most n ok
theorem byte_get (s : ByteArray) (k : Nat) (h : k < s.size) : s.data.toList[k]? = some s[k] := by
  have h' : k < s.data.size := h
  rw [Array.getElem?_toList, Array.getElem?_eq_getElem h']
  rfl

set_option maxRecDepth 100000 in
set_option maxHeartbeats 1600000 in
theorem number_any (t : ByteArray) (most : Nat) (w : World) (hm : most ≤ 9223372036854775807) : Calls Tryz.prog 69 #[.string t, .int .u64 most] w (NumPost w t.data.toList most) := by
  have HM := Lib.hid hm
  clear hm
  have hsz : t.data.toList.length = t.size := by simp
  by_cases h1 : t.size < 1
  · have HF : Hid (NumIs t.data.toList most 0 false) := Lib.hid (num_empty (by omega) _ _)
    clear hsz
    go_enter Tryz.func69, Tryz.ntmps69
    go_wp2_with fail
    go_ret2
    exact ⟨rfl, 0, false, rfl, HF.out⟩
  · by_cases h19 : 19 < t.size
    · have HF : Hid (NumIs t.data.toList most 0 false) := Lib.hid (num_long (by omega) HM.out _)
      clear hsz
      go_enter Tryz.func69, Tryz.ntmps69
      go_wp2_with fail
      go_ret2
      exact ⟨rfl, 0, false, rfl, HF.out⟩
    · have h0 : 0 < t.size := by omega
      have H1 : Hid (1 ≤ t.size) := Lib.hid (by omega)
      have H19 : Hid (t.size ≤ 19) := Lib.hid (by omega)
      have hb0 := byte_get t 0 h0
      have e1 : decide ((t.size : Int) < 1) = false := decide_eq_false (by omega)
      have e19 : decide (19 < (t.size : Int)) = false := decide_eq_false (by omega)
      by_cases hz : (t[0]).toNat = 48
      · have ez : (((t[0]).toNat : Int) == 48) = true := by rw [hz]; rfl
        have ezp : ((t[0]).toNat : Int) = 48 := by rw [hz]; rfl
        have hz8 : t[0] = 48 := UInt8.toNat_inj.1 hz
        by_cases hl : 1 < t.size
        · have HF : Hid (NumIs t.data.toList most 0 false) := Lib.hid (num_lead (by omega) (hb0.trans (congrArg some hz8)) _ _)
          have e2 : decide (1 < (t.size : Int)) = true := decide_eq_true (by omega)
          clear hsz hb0 hz hz8 h1 h19 hl
          go_enter Tryz.func69, Tryz.ntmps69
          go_wp2_with fail
          go_ret2
          exact ⟨rfl, 0, false, rfl, HF.out⟩
        · have HL : Hid (t.data.toList.length = 1 ∨ t.data.toList[0]? ≠ some 48) := Lib.hid (.inl (by omega))
          have e2 : decide (1 < (t.size : Int)) = false := decide_eq_false (by omega)
          clear hsz hb0 hz hz8 h1 h19 hl
          go_enter Tryz.func69, Tryz.ntmps69
          go_wp2_with fail
          go_loop [6, 7] (fun v i => ∃ k n : Nat, k ≤ t.size ∧ v = .int .u64 n ∧ i = .int .i64 k ∧ Hid (Got t.data.toList k n)) (fun _ i => t.size - (intOf i).toNat)
          case atStart => exact ⟨0, 0, Nat.zero_le _, rfl, rfl, Lib.hid (.inl ⟨rfl, rfl⟩)⟩
          case round =>
            obtain ⟨k, n, hk, rfl, rfl, HG⟩ := hrel
            clear ez ezp e1 e19
            by_cases hlt : k < t.size
            · have hget : t.data.toList[k]? = some t[k] := byte_get t k hlt
              have HGET := Lib.hid hget
              clear hget
              by_cases hlo : (t[k]).toNat < 48
              · have el : decide (((t[k]).toNat : Int) < 48) = true := decide_eq_true (by omega)
                have HF : Hid (NumIs t.data.toList most 0 false) := Lib.hid (num_byte HGET.out (.inl hlo) _ _)
                clear hlo
                go_wp2_with fail
                go_ret2
                exact ⟨rfl, 0, false, rfl, HF.out⟩
              · have el : decide (((t[k]).toNat : Int) < 48) = false := decide_eq_false (by omega)
                by_cases hhi : 57 < (t[k]).toNat
                · have eh : decide (57 < ((t[k]).toNat : Int)) = true := decide_eq_true (by omega)
                  have HF : Hid (NumIs t.data.toList most 0 false) := Lib.hid (num_byte HGET.out (.inr hhi) _ _)
                  clear hlo hhi
                  go_wp2_with fail
                  go_ret2
                  exact ⟨rfl, 0, false, rfl, HF.out⟩
                · have eh : decide (57 < ((t[k]).toNat : Int)) = false := decide_eq_false (by omega)
                  have HN : Hid (Got t.data.toList (k + 1) (n * 10 + ((t[k]).toNat - 48))) := Lib.hid (HG.out.step HGET.out (by omega) (by omega) HL.out)
                  have hnb := HN.out.lt (by have := H19.out; omega)
                  obtain ⟨V, hV, hW⟩ : ∃ V : Int, IntKind.u64.wrap ((n : Int) * 10) = V ∧ IntKind.u64.wrap (V + (((t[k]).toNat : Int) - 48)) = ((n * 10 + ((t[k]).toNat - 48) : Nat) : Int) := ⟨(n : Int) * 10, w64 (by omega) (by omega), by rw [w64 (by omega) (by omega)]; omega⟩
                  have q0 : (48 : Int) ≤ ((t[k]).toNat : Int) := by omega
                  have q1 : ((t[k]).toNat : Int) ≤ 57 := by omega
                  obtain ⟨n', hn'⟩ : ∃ n', n' = n * 10 + ((t[k]).toNat - 48) := ⟨_, rfl⟩
                  rw [← hn'] at HN hW
                  clear hlo hhi hnb hn'
                  have s19 := H19.out
                  go_wp2_with fail
                  go_round
                  case rel => exact ⟨k + 1, n', by omega, rfl, (by have := H19.out; go_num), HN⟩
                  case measure => have := H19.out; simp [intOf]; omega
            · have hks : k = t.size := by omega
              have HF : Hid (NumIs t.data.toList most n (decide (n ≤ most))) := Lib.hid (NumIs.end_ HM.out ((hks ▸ HG.out : Got t.data.toList t.size n).done (by have := H1.out; simp; omega)) ((hks ▸ HG.out : Got t.data.toList t.size n).lt H19.out))
              subst hks
              go_wp2_with fail
              go_ret2
              exact ⟨rfl, n, decide (n ≤ most), rfl, HF.out⟩
      · have ezp : ¬ ((t[0]).toNat : Int) = 48 := fun e => hz (by omega)
        have ez : (((t[0]).toNat : Int) == 48) = false := by simpa using ezp
        have HL : Hid (t.data.toList.length = 1 ∨ t.data.toList[0]? ≠ some 48) := Lib.hid (.inr (by rw [hb0]; intro e; injection e with e; exact hz (congrArg UInt8.toNat e)))
        clear hsz hb0 hz h1 h19
        go_enter Tryz.func69, Tryz.ntmps69
        go_wp2_with fail
        go_loop [6, 7] (fun v i => ∃ k n : Nat, k ≤ t.size ∧ v = .int .u64 n ∧ i = .int .i64 k ∧ Hid (Got t.data.toList k n)) (fun _ i => t.size - (intOf i).toNat)
        case atStart => exact ⟨0, 0, Nat.zero_le _, rfl, rfl, Lib.hid (.inl ⟨rfl, rfl⟩)⟩
        case round =>
          obtain ⟨k, n, hk, rfl, rfl, HG⟩ := hrel
          clear ez ezp e1 e19
          by_cases hlt : k < t.size
          · have hget : t.data.toList[k]? = some t[k] := byte_get t k hlt
            have HGET := Lib.hid hget
            clear hget
            by_cases hlo : (t[k]).toNat < 48
            · have el : decide (((t[k]).toNat : Int) < 48) = true := decide_eq_true (by omega)
              have HF : Hid (NumIs t.data.toList most 0 false) := Lib.hid (num_byte HGET.out (.inl hlo) _ _)
              clear hlo
              go_wp2_with fail
              go_ret2
              exact ⟨rfl, 0, false, rfl, HF.out⟩
            · have el : decide (((t[k]).toNat : Int) < 48) = false := decide_eq_false (by omega)
              by_cases hhi : 57 < (t[k]).toNat
              · have eh : decide (57 < ((t[k]).toNat : Int)) = true := decide_eq_true (by omega)
                have HF : Hid (NumIs t.data.toList most 0 false) := Lib.hid (num_byte HGET.out (.inr hhi) _ _)
                clear hlo hhi
                go_wp2_with fail
                go_ret2
                exact ⟨rfl, 0, false, rfl, HF.out⟩
              · have eh : decide (57 < ((t[k]).toNat : Int)) = false := decide_eq_false (by omega)
                have HN : Hid (Got t.data.toList (k + 1) (n * 10 + ((t[k]).toNat - 48))) := Lib.hid (HG.out.step HGET.out (by omega) (by omega) HL.out)
                have hnb := HN.out.lt (by have := H19.out; omega)
                obtain ⟨V, hV, hW⟩ : ∃ V : Int, IntKind.u64.wrap ((n : Int) * 10) = V ∧ IntKind.u64.wrap (V + (((t[k]).toNat : Int) - 48)) = ((n * 10 + ((t[k]).toNat - 48) : Nat) : Int) := ⟨(n : Int) * 10, w64 (by omega) (by omega), by rw [w64 (by omega) (by omega)]; omega⟩
                have q0 : (48 : Int) ≤ ((t[k]).toNat : Int) := by omega
                have q1 : ((t[k]).toNat : Int) ≤ 57 := by omega
                obtain ⟨n', hn'⟩ : ∃ n', n' = n * 10 + ((t[k]).toNat - 48) := ⟨_, rfl⟩
                rw [← hn'] at HN hW
                clear hlo hhi hnb hn'
                have s19 := H19.out
                go_wp2_with fail
                go_round
                case rel => exact ⟨k + 1, n', by omega, rfl, (by have := H19.out; go_num), HN⟩
                case measure => have := H19.out; simp [intOf]; omega
          · have hks : k = t.size := by omega
            have HF : Hid (NumIs t.data.toList most n (decide (n ≤ most))) := Lib.hid (NumIs.end_ HM.out ((hks ▸ HG.out : Got t.data.toList t.size n).done (by have := H1.out; simp; omega)) ((hks ▸ HG.out : Got t.data.toList t.size n).lt H19.out))
            subst hks
            go_wp2_with fail
            go_ret2
            exact ⟨rfl, n, decide (n ≤ most), rfl, HF.out⟩
end Go.Proofs.YtcmpenmaphmifaaGreatDoor
