/- The document's Parse of a stamp's text. -/
import Derived.Test.YtiigbkpfgbhlgaaDoorSxZM
import Derived.Test.YtiigbkpfgbhlgaaDoorSxM2
import Derived.Test.YtiigbkpfgbhlgaaDoorSxR
import Derived.LoopTactic
namespace Go.Proofs.YtiigbkpfgbhlgaaDoor
open Go.RowKit

def DocPost (w : World) (t : List UInt8) (e : Ending) (w' : World) : Prop :=
  Below w.heap.size w w' ∧ ((∃ a b c : Nat, Reads t a b c ∧ e = .returned (.tuple #[stv a b c, .int .i64 0])) ∨ ((∀ a b c, ¬ Reads t a b c) ∧ e = .returned (.tuple #[stv 0 0 0, .int .i64 10])))
/-- The call's own memory: its result's variable, the three parts. -/
structure ZW (w : World) (u : Nat → List UInt8) (wr : World) : Prop where
  bl : Below w.heap.size w wr
  sz : w.heap.size + 2 ≤ wr.heap.size
  r0 : wr.cell? ⟨w.heap.size, 0, none⟩ = some (.int .i64 0)
  r1 : wr.cell? ⟨w.heap.size, 1, none⟩ = some (.int .u32 0)
  r2 : wr.cell? ⟨w.heap.size, 2, none⟩ = some (.int .u32 0)
  rf : ∀ i, wr.frozen? ⟨w.heap.size, i, none⟩ = false
  p : ∀ i, i < 3 → wr.cell? ⟨w.heap.size + 1, i, none⟩ = some (.string (strB (u i)))
  pf : ∀ i, wr.frozen? ⟨w.heap.size + 1, i, none⟩ = false
theorem ZW.set {w wr : World} {u : Nat → List UInt8} (J : ZW w u wr) {i : Nat} (hi : i < 3) (c : UInt8) (x : ByteArray) (hx : x = strB (u i ++ [c])) : ZW w (upd1 u i c) (wr.setCell ⟨w.heap.size + 1, i, none⟩ (.string x)) := by
  subst hx
  have o : ∀ j v, wr.cell? ⟨w.heap.size, j, none⟩ = some v → (wr.setCell ⟨w.heap.size + 1, i, none⟩ (.string (strB (u i ++ [c])))).cell? ⟨w.heap.size, j, none⟩ = some v := fun j v h => by
    rw [World.cell?_setCell_other]
    · exact h
    · intro e; injection e with e1 e2; omega
  refine ⟨J.bl.setCell (by simp) _, by simpa using J.sz, o _ _ J.r0, o _ _ J.r1, o _ _ J.r2, fun j => by simpa using J.rf j, fun j hj => ?_, fun j => by simpa using J.pf j⟩
  unfold upd1
  by_cases e : j = i
  · subst e
    rw [if_pos rfl]
    exact World.cell?_setCell_same (w := wr) (a := ⟨w.heap.size + 1, j, none⟩) (v := .string (strB (u j ++ [c]))) (J.p j hi)
  · rw [if_neg e, World.cell?_setCell_other]
    · exact J.p j hj
    · intro e'; injection e' with e1 e2; exact e e2.symm
theorem ZW.drew {w wr : World} {u : Nat → List UInt8} (J : ZW w u wr) (n : Nat) : ZW w u (wr.drewN n) := by
  refine ⟨?_, J.sz, J.r0, J.r1, J.r2, J.rf, J.p, J.pf⟩
  exact ⟨J.bl.os, J.bl.tape, J.bl.output, J.bl.size, J.bl.block⟩
theorem piece1 (t : ByteArray) (k : Nat) (h : k < t.size) : t.extract k (k + 1) = strB [t[k]] := by
  apply ByteArray.ext
  apply Array.ext'
  simp [strB]
  rw [List.drop_eq_getElem_cons (by simpa using h)]
  simp
  rfl
end Go.Proofs.YtiigbkpfgbhlgaaDoor
