/- b[i:] and b[:i] of a slice of bytes, in one equation each. -/
import Derived.Test.YtojkbndaleiaaaaDoorByW
namespace Go.Proofs.YtojkbndaleiaaaaDoor
open Go.RowKit

theorem elemBs : Tryd.prog.elem 23 = 5 := by unfold Program.elem; rw [Tryd.underlying23]
theorem underBs : Tryd.prog.underlying 23 = some (.slice (Tryd.prog.elem 23)) := by rw [elemBs]; exact Tryd.underlying23
theorem size_u8 (w : World) : (sizeOf 5).run Tryd.prog w = .ok 1 w := by
  obtain ⟨i0, hi, hz0, hz1, hz2⟩ := info_parts info_u8
  simp [sizeOf, typeInfo, hi, hz1]
theorem slice_from (A : Option Addr) (n cap j : Nat) (hj : j ≤ n) (w : World) :
    (Instr.slice 23 (.slice A n cap) (some (.int .i64 (j : Int))) none none).run Tryd.prog w = .ok (.slice (if cap = j then A else A.map (·.add j)) (n - j) (cap - j)) w := by
  have h := run_slice_l (P := Tryd.prog) (w := w) (t := 23) (a := A) (len := n) (cap := cap) underBs .i64 (j : Int) (by omega) (by omega)
  rw [h, elemBs, size_u8]
  simp [Result.andThen, sliced]
theorem slice_to (A : Option Addr) (n cap j : Nat) (hj : j ≤ cap) (w : World) :
    (Instr.slice 23 (.slice A n cap) none (some (.int .i64 (j : Int))) none).run Tryd.prog w = .ok (.slice A j cap) w := by
  have h := run_slice_h (P := Tryd.prog) (w := w) (t := 23) (a := A) (len := n) (cap := cap) underBs .i64 (j : Int) (by omega) (by omega)
  rw [h, elemBs, size_u8]
  have : ∀ a : Addr, a.add 0 = a := fun a => by unfold Addr.add; rw [if_pos rfl]
  cases A <;> simp [Result.andThen, sliced, this]
end Go.Proofs.YtojkbndaleiaaaaDoor
