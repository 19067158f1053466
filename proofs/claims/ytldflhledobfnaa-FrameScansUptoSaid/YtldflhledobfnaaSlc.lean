/- b[i:] of a slice of bytes, in one equation. -/
import Derived.Test.YtldflhledobfnaaByW
namespace Go.Proofs.Ytldflhledobfnaa
open Go.RowKit

theorem size_u8 (w : World) : (sizeOf 5).run Try.prog w = .ok 1 w := by
  obtain ⟨i0, hi, hz0, hz1, hz2⟩ := info_parts info_u8
  simp [sizeOf, typeInfo, hi, hz1]
theorem slice_from (A : Option Addr) (n cap j : Nat) (hj : j ≤ n) (w : World) :
    (Instr.slice 23 (.slice A n cap) (some (.int .i64 (j : Int))) none none).run Try.prog w = .ok (.slice (if cap = j then A else A.map (·.add j)) (n - j) (cap - j)) w := by
  have h := run_slice_l (P := Try.prog) (w := w) (t := 23) (a := A) (len := n) (cap := cap) (by exact Try.underlying23) .i64 (j : Int) (by omega) (by omega)
  rw [h]
  show ((sizeOf 5).run Try.prog w).andThen _ = _
  rw [size_u8]
  simp [Result.andThen, sliced]
end Go.Proofs.Ytldflhledobfnaa
