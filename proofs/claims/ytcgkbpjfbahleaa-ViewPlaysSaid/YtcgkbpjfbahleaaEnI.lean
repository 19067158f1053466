/- A whole number as an element of one cell. -/
import Derived.Test.YtcgkbpjfbahleaaEl2
namespace Go.Proofs.Ytcgkbpjfbahleaa
open Go.RowKit

def encI (n : Int) : List Value := [.int .i64 n]
theorem encI_len (n : Int) : (encI n).length = 1 := rfl
theorem encI_one (n : Int) : ∀ u ∈ encI n, u.oneCell' = true := fun u hu => by
  unfold encI at hu
  rw [List.mem_singleton] at hu
  rw [hu]; rfl
theorem Sr.int {K cap i : Nat} {A : Option Addr} {l : List Int} {w : World} (h : Sr encI 1 w K A cap l) (hi : i < l.length) : ∃ ad : Addr, A = some ad ∧ ad.block < K ∧ w.cell? (ad.add i) = some (.int .i64 l[i]) := by
  obtain ⟨ad, e, hb, hc⟩ := h.get hi
  have := hc 0 (.int .i64 l[i]) rfl
  rw [Nat.mul_one, Nat.add_zero] at this
  exact ⟨ad, e, hb, this⟩
end Go.Proofs.Ytcgkbpjfbahleaa
