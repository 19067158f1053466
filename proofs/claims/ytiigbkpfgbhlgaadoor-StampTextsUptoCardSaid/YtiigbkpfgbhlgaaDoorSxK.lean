/- The library's variables in the memory that the row of StampTexts speaks of; how a stamp among its arguments is read; a world for the witness. -/
import Derived.Test.YtiigbkpfgbhlgaaDoorCards
import Derived.Test.YtiigbkpfgbhlgaaDoorTie
import Derived.Test.YtiigbkpfgbhlgaaDoorSxL
import Derived.ProofKit
import Derived.OpenShut
import Derived.Carry
import Derived.SizedLaws
import Derived.JoinedCond
import Derived.HandedShaped
import Derived.Shelf.Vars
import Derived.Deep.DeepHandedRow
import Derived.Lib.LaidTab
import Derived.Lib.SmallJoins
import Derived.Lay
namespace Go.Proofs.YtiigbkpfgbhlgaaDoor
open Go.ChangeShapes Go.WideShapes Go.ChangeAt Go.RowKit Go.Joins

theorem gPowType : (Tryd.prog.globals[0]?).map (·.type) = some 84 := by kernel_rfl
theorem cellsPow : Tryd.prog.cellsOf 84 = 20 := by kernel_rfl
theorem cellsU64 : Tryd.prog.cellsOf 51 = 1 := by kernel_rfl
theorem powData : (Rows.laid_internal_strconv_uint64pow10 : DataW Unit) = Lib.tabData .u64 Lib.pow10Tab := by kernel_rfl
theorem gRange : Tryd.prog.globalNamed "strconv.ErrRange" = some 2 := by kernel_rfl
theorem gRangeType : (Tryd.prog.globals[2]?).map (·.type) = some 46 := by kernel_rfl
theorem gSyntax : Tryd.prog.globalNamed "strconv.ErrSyntax" = some 1 := by kernel_rfl
theorem gSyntaxType : (Tryd.prog.globals[1]?).map (·.type) = some 46 := by kernel_rfl
theorem iface_var {W : World} {name : String} {g : Nat} {cs : Array Value} {fuel : Nat} {nm : String} {d : DataW Unit} {p : List MemPlace} (hg : Tryd.prog.globalNamed name = some g) (hvar : W.var? Tryd.prog name = some cs)
    (hd : DataW.trod (fun _ => ()) Tryd.prog W 0 (fun _ => true) false fuel 46 cs.toList = some (.iface nm d, p)) : ∃ te pe, W.cell? ⟨g, 0, none⟩ = some (.iface te pe) := by
  obtain ⟨_, u, v, hcs, _, _⟩ := iface_of_trod Tryd.underlying46 hd
  have h := World.var?_cell hg hvar 0
  refine ⟨u, v, h.trans ?_⟩
  have e : cs.toList[0]? = some (.iface u v) := by rw [hcs]; rfl
  simpa using e
theorem vars_of {W : World} (h : laidMet Tryd.prog Rows.stampTextsUptoRow.laid W) : Pow W ∧ Errs W := by
  obtain ⟨ps, hV, _, _⟩ := h
  obtain ⟨_, _, _, _, _, _, _, _, _, _, h2, _⟩ := hV
  obtain ⟨_, _, _, _, _, _, _, _, _, _, h3, _⟩ := h2
  obtain ⟨g3, t3, c3, f3, p3, q3, hg3, ht3, hv3, hd3, h4, _⟩ := h3
  obtain ⟨_, _, _, _, _, _, _, _, _, _, h5, _⟩ := h4
  obtain ⟨g5, t5, c5, f5, p5, q5, hg5, ht5, hv5, hd5, h6, _⟩ := h5
  obtain ⟨g6, t6, c6, f6, p6, q6, hg6, ht6, hv6, hd6, _, _⟩ := h6
  obtain rfl := Option.some.inj (gPow.symm.trans hg3)
  obtain rfl := Option.some.inj (gPowType.symm.trans ht3)
  obtain rfl := Option.some.inj (gRange.symm.trans hg5)
  obtain rfl := Option.some.inj (gRangeType.symm.trans ht5)
  obtain rfl := Option.some.inj (gSyntax.symm.trans hg6)
  obtain rfl := Option.some.inj (gSyntaxType.symm.trans ht6)
  refine ⟨?_, iface_var gSyntax hv6 hd6, iface_var gRange hv5 hd5⟩
  rw [powData] at hd3
  have hc := Lib.cells_of_tab Tryd.underlying84 Tryd.underlying51 cellsU64 cellsPow hd3
  unfold Pow Lib.TabIs
  rw [hv3, ← hc]
theorem mx_of {w : World} (h : w.ShapedOpen Tryd.prog) : MxS w :=
  cell_of_shapedOpen_int (P := Tryd.prog) (g := 3) (zero := #[.int .i64 0]) (t := 3) h (of_decide_eq_true (by kernel_rfl)) (by kernel_rfl) rfl (by kernel_rfl) (by kernel_rfl) Tryd.underlying3
theorem cells_st : Tryd.prog.cellsOf 24 = 3 := by kernel_rfl
set_option maxRecDepth 100000 in
theorem open_sta {H : Type} {enc : TypeId × Value → H} {W : World} {base : Nat} {v : Value} {d : DataW H} {p : List MemPlace}
    (hv : Value.okWide Tryd.prog W .any base 24 v) (h : DataW.Trod enc Tryd.prog W 0 (fun _ => true) true 24 v d p) :
    ∃ (a : Int) (b c : Nat), v = .agg #[.int .i64 a, .int .u32 (b : Int), .int .u32 (c : Int)] ∧ (-9223372036854775808 ≤ a ∧ a ≤ 9223372036854775807) ∧ b ≤ 4294967295 ∧ c ≤ 4294967295 := by
  obtain ⟨c0, c1, c2, y0, y1, y2, m, rfl, rfl, rfl, hy0, hy1, hy2⟩ := open_agg3 Tryd.underlying24 (by kernel_rfl) cells_st hv h
  obtain ⟨a, e0, _, wa⟩ := DataW.trod_int Tryd.underlying2 hy0
  obtain ⟨b, e1, _, wb⟩ := DataW.trod_int Tryd.underlying22 hy1
  obtain ⟨c, e2, _, wc⟩ := DataW.trod_int Tryd.underlying22 hy2
  simp at e0 e1 e2
  subst e0 e1 e2
  have ba : -9223372036854775808 ≤ a ∧ a ≤ 9223372036854775807 := by simpa [Lit.wf, IntKind.min, IntKind.max, IntKind.signed, IntKind.bits] using wa
  have bb : 0 ≤ b ∧ b ≤ 4294967295 := by simpa [Lit.wf, IntKind.min, IntKind.max, IntKind.signed, IntKind.bits] using wb
  have bc : 0 ≤ c ∧ c ≤ 4294967295 := by simpa [Lit.wf, IntKind.min, IntKind.max, IntKind.signed, IntKind.bits] using wc
  obtain ⟨b', rfl⟩ : ∃ n : Nat, b = (n : Int) := ⟨b.toNat, by omega⟩
  obtain ⟨c', rfl⟩ : ∃ n : Nat, c = (n : Int) := ⟨c.toNat, by omega⟩
  exact ⟨a, b', c', rfl, ba, by omega, by omega⟩
/-- The witness's world: all that the row lists is laid. -/
noncomputable def laidWorld (os : Os) : World := World.laidAll Tryd.prog os Rows.stampTextsUptoRow.laid
abbrev wArgs : Array Value := #[.agg #[.int .i64 0, .int .u32 0, .int .u32 0], .string ByteArray.empty]
theorem laid_world_met (os : Os) : laidMet Tryd.prog Rows.stampTextsUptoRow.laid ((laidWorld os).forCall (fun _ _ => 0) ⟨#[], wArgs, []⟩).memory :=
  laidMet_laidAll _ (by kernel_rfl) (by kernel_rfl)
theorem laid_world_shaped (os : Os) : ((laidWorld os).forCall (fun _ _ => 0) ⟨#[], wArgs, []⟩).Shaped Tryd.prog :=
  World.shaped_of_ZipB (by kernel_rfl) (by kernel_rfl)
end Go.Proofs.YtiigbkpfgbhlgaaDoor
