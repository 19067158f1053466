/- b[i:] of a slice of bytes, in one equation. -/
import Derived.Test.YtpckbbjlihhpdaaByW
namespace Go.Proofs.Ytpckbbjlihhpdaa
open Go.RowKit

theorem elemBs : Try.prog.elem 30 = 5 := by unfold Program.elem; rw [Try.underlying30]
theorem underBs : Try.prog.underlying 30 = some (.slice (Try.prog.elem 30)) := by rw [elemBs]; exact Try.underlying30
theorem size_u8 (w : World) : (sizeOf 5).run Try.prog w = .ok 1 w := by
  obtain ⟨i0, hi, hz0, hz1, hz2⟩ := info_parts info_u8
  simp [sizeOf, typeInfo, hi, hz1]
theorem slice_from (A : Option Addr) (n cap j : Nat) (hj : j ≤ n) (w : World) :
    (Instr.slice 30 (.slice A n cap) (some (.int .i64 (j : Int))) none none).run Try.prog w = .ok (.slice (if cap = j then A else A.map (·.add j)) (n - j) (cap - j)) w := by
  have h := run_slice_l (P := Try.prog) (w := w) (t := 30) (a := A) (len := n) (cap := cap) underBs .i64 (j : Int) (by omega) (by omega)
  rw [h, elemBs, size_u8]
  simp [Result.andThen, sliced]
theorem slice_to (A : Option Addr) (n cap j : Nat) (hj : j ≤ cap) (w : World) :
    (Instr.slice 30 (.slice A n cap) none (some (.int .i64 (j : Int))) none).run Try.prog w = .ok (.slice A j cap) w := by
  have h := run_slice_h (P := Try.prog) (w := w) (t := 30) (a := A) (len := n) (cap := cap) underBs .i64 (j : Int) (by omega) (by omega)
  rw [h, elemBs, size_u8]
  have : ∀ a : Addr, a.add 0 = a := fun a => by unfold Addr.add; rw [if_pos rfl]
  cases A <;> simp [Result.andThen, sliced, this]

section
variable {P : Program} {ST T : TypeId} (hu : P.underlying ST = some (.slice (P.elem ST))) (hs : ∀ w, (sizeOf (P.elem ST)).run P w = .ok 2 w)
include hu hs
theorem slice_from2 (A : Option Addr) (n cap j : Nat) (hj : j ≤ n) (w : World) :
    (Instr.slice ST (.slice A n cap) (some (.int .i64 (j : Int))) none none).run P w = .ok (.slice (if cap = j then A else A.map (·.add (j * 2))) (n - j) (cap - j)) w := by
  have h := run_slice_l (P := P) (w := w) (t := ST) (a := A) (len := n) (cap := cap) hu .i64 (j : Int) (by omega) (by omega)
  rw [h, hs]
  simp [Result.andThen, sliced]
theorem slice_to2 (A : Option Addr) (n cap j : Nat) (hj : j ≤ cap) (w : World) :
    (Instr.slice ST (.slice A n cap) none (some (.int .i64 (j : Int))) none).run P w = .ok (.slice A j cap) w := by
  have h := run_slice_h (P := P) (w := w) (t := ST) (a := A) (len := n) (cap := cap) hu .i64 (j : Int) (by omega) (by omega)
  rw [h, hs]
  have : ∀ a : Addr, a.add 0 = a := fun a => by unfold Addr.add; rw [if_pos rfl]
  cases A <;> simp [Result.andThen, sliced, this]
end
end Go.Proofs.Ytpckbbjlihhpdaa
