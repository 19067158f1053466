/- Stamps and clocks in boxes. -/
import Derived.Test.YteibigiehpkdjaaClkG
import Derived.Test.YteibigiehpkdjaaRiseM
namespace Go.Proofs.Yteibigiehpkdjaa
open Go.RowKit


/-- A stamp in a box. -/
def St3 (w : World) (b : Nat) (x y z : Int) : Prop := w.cell? ⟨b, 0, none⟩ = some (.int .i64 x) ∧ w.cell? ⟨b, 1, none⟩ = some (.int .u32 y) ∧ w.cell? ⟨b, 2, none⟩ = some (.int .u32 z)
/-- The document's clock in a box; its last stamp's Mark is 0. -/
def Ck6 (w : World) (b : Nat) (x y off up mk : Int) : Prop := w.cell? ⟨b, 0, none⟩ = some (.int .i64 x) ∧ w.cell? ⟨b, 1, none⟩ = some (.int .u32 y) ∧ w.cell? ⟨b, 2, none⟩ = some (.int .u32 0) ∧ w.cell? ⟨b, 3, none⟩ = some (.int .i64 off) ∧ w.cell? ⟨b, 4, none⟩ = some (.int .i64 up) ∧ w.cell? ⟨b, 5, none⟩ = some (.int .u32 mk)
/-- No cell of a box is frozen. -/
def Free (w : World) (b : Nat) : Prop := ∀ j, w.frozen? ⟨b, j, none⟩ = false
def set6 (w : World) (s : Nat) (x y off up mk : Int) : World := (((((w.setCell ⟨s, 0, none⟩ (.int .i64 x)).setCell ⟨s, 1, none⟩ (.int .u32 y)).setCell ⟨s, 2, none⟩ (.int .u32 0)).setCell ⟨s, 3, none⟩ (.int .i64 off)).setCell ⟨s, 4, none⟩ (.int .i64 up)).setCell ⟨s, 5, none⟩ (.int .u32 mk)

theorem St3.below {w w' : World} {b : Nat} {x y z : Int} (h : St3 w b x y z) (hb : Below w.heap.size w w') : St3 w' b x y z := ⟨kept hb h.1, kept hb h.2.1, kept hb h.2.2⟩
theorem Ck6.below {w w' : World} {b : Nat} {x y off up mk : Int} (h : Ck6 w b x y off up mk) (hb : Below w.heap.size w w') : Ck6 w' b x y off up mk := ⟨kept hb h.1, kept hb h.2.1, kept hb h.2.2.1, kept hb h.2.2.2.1, kept hb h.2.2.2.2.1, kept hb h.2.2.2.2.2⟩
theorem St3.lt {w : World} {b : Nat} {x y z : Int} (h : St3 w b x y z) : b < w.heap.size := World.block_lt_of_cell? w _ h.1
theorem Ck6.lt {w : World} {b : Nat} {x y off up mk : Int} (h : Ck6 w b x y off up mk) : b < w.heap.size := World.block_lt_of_cell? w _ h.1
theorem Free.below {w w' : World} {b : Nat} (h : Free w b) (hl : b < w.heap.size) (hb : Below w.heap.size w w') : Free w' b := fun j => (hb.frozen (p := ⟨b, j, none⟩) hl).trans (h j)
theorem Free.s3 {w : World} {b s : Nat} {x y z : Value} (h : Free w b) : Free (set3 w s x y z) b := fun j => set3_frozen (h j)
theorem Free.s6 {w : World} {b s : Nat} {x y off up mk : Int} (h : Free w b) : Free (set6 w s x y off up mk) b := fun j => frS (frS (frS (frS (frS (frS (h j))))))
theorem St3.only {w w' : World} {b c : Nat} {x y z : Int} (h : St3 w b x y z) (ho : Only c w w') (hne : b ≠ c) : St3 w' b x y z := ⟨ho.cell hne h.1, ho.cell hne h.2.1, ho.cell hne h.2.2⟩
theorem Ck6.only {w w' : World} {b c : Nat} {x y off up mk : Int} (h : Ck6 w b x y off up mk) (ho : Only c w w') (hne : b ≠ c) : Ck6 w' b x y off up mk := ⟨ho.cell hne h.1, ho.cell hne h.2.1, ho.cell hne h.2.2.1, ho.cell hne h.2.2.2.1, ho.cell hne h.2.2.2.2.1, ho.cell hne h.2.2.2.2.2⟩
theorem Free.only {w w' : World} {b c : Nat} (h : Free w b) (hl : b < w.heap.size) (ho : Only c w w') (hne : b ≠ c) : Free w' b := fun j => ho.frz hne hl (h j)
theorem St3.s3 {w : World} {b s : Nat} {x y z : Int} {u v t : Value} (h : St3 w b x y z) (hne : s ≠ b) : St3 (set3 w s u v t) b x y z := ⟨set3_cell hne h.1, set3_cell hne h.2.1, set3_cell hne h.2.2⟩
theorem Ck6.s3 {w : World} {b s : Nat} {x y off up mk : Int} {u v t : Value} (h : Ck6 w b x y off up mk) (hne : s ≠ b) : Ck6 (set3 w s u v t) b x y off up mk := ⟨set3_cell hne h.1, set3_cell hne h.2.1, set3_cell hne h.2.2.1, set3_cell hne h.2.2.2.1, set3_cell hne h.2.2.2.2.1, set3_cell hne h.2.2.2.2.2⟩
theorem St3.put {w : World} {s : Nat} {x y z u v t : Int} (h : St3 w s x y z) : St3 (set3 w s (.int .i64 u) (.int .u32 v) (.int .u32 t)) s u v t := ⟨set3_at0 h.1, set3_at1 h.2.1, set3_at2 h.2.2⟩
theorem set6_cell {w : World} {s : Nat} {x y off up mk : Int} {v : Value} {p : Addr} (hne : s ≠ p.block) (h : w.cell? p = some v) : (set6 w s x y off up mk).cell? p = some v :=
  have hp : ∀ i, (⟨s, i, none⟩ : Addr) ≠ p := fun i e => hne (by rw [← e])
  cellO (hp 5) (cellO (hp 4) (cellO (hp 3) (cellO (hp 2) (cellO (hp 1) (cellO (hp 0) h)))))
theorem St3.s6 {w : World} {b s : Nat} {x y z : Int} {u v off up mk : Int} (h : St3 w b x y z) (hne : s ≠ b) : St3 (set6 w s u v off up mk) b x y z := ⟨set6_cell hne h.1, set6_cell hne h.2.1, set6_cell hne h.2.2⟩
theorem Ck6.put {w : World} {s : Nat} {x y off up mk x' y' off' up' mk' : Int} (h : Ck6 w s x y off up mk) : Ck6 (set6 w s x' y' off' up' mk') s x' y' off' up' mk' := by
  obtain ⟨h0, h1, h2, h3, h4, h5⟩ := h
  refine ⟨?_, ?_, ?_, ?_, ?_, ?_⟩
  · exact cellO (by simp) (cellO (by simp) (cellO (by simp) (cellO (by simp) (cellO (by simp) (cellS (isOf h0))))))
  · exact cellO (by simp) (cellO (by simp) (cellO (by simp) (cellO (by simp) (cellS (isS (isOf h1))))))
  · exact cellO (by simp) (cellO (by simp) (cellO (by simp) (cellS (isS (isS (isOf h2))))))
  · exact cellO (by simp) (cellO (by simp) (cellS (isS (isS (isS (isOf h3))))))
  · exact cellO (by simp) (cellS (isS (isS (isS (isS (isOf h4))))))
  · exact cellS (isS (isS (isS (isS (isS (isOf h5))))))
theorem set6_below {B : Nat} {a w : World} {s : Nat} {x y off up mk : Int} (h : Below B a w) (hs : B ≤ s) : Below B a (set6 w s x y off up mk) :=
  (((((h.setCell (p := ⟨s, 0, none⟩) hs _).setCell (p := ⟨s, 1, none⟩) hs _).setCell (p := ⟨s, 2, none⟩) hs _).setCell (p := ⟨s, 3, none⟩) hs _).setCell (p := ⟨s, 4, none⟩) hs _).setCell (p := ⟨s, 5, none⟩) hs _
theorem Clk.s6 {w : World} {s b : Nat} {x y o u m : Int} {off up mk lw lt : Int} (h : Clk w b off up mk lw lt) (hne : s ≠ b) : Clk (set6 w s x y o u m) b off up mk lw lt :=
  ⟨set6_cell hne h.c0, set6_cell hne h.c1, set6_cell hne h.c2, set6_cell hne h.c3, set6_cell hne h.c4, set6_cell hne h.c5, fun i => frS (frS (frS (frS (frS (frS (h.f i))))))⟩

end Go.Proofs.Yteibigiehpkdjaa
