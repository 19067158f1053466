/- The law's example: a number that takes three bytes; the law WireOrder. -/
import Derived.Test.YtojkbndaleiaaaaDoorLaid1
import Derived.Test.YtojkbndaleiaaaaDoorStr
namespace Go.Proofs.YtojkbndaleiaaaaDoor
open Go.RowKit

theorem below_over {w w1 : World} {o : Obj} (hb : Below (w.alloc o).heap.size (w.alloc o) w1) : Below w.heap.size w w1 := ((Below.refl _ _).alloc (Nat.le_refl _) o).trans (hb.mono (by simp))
theorem numB_256 : numB 256 = [249, 1, 0] := by decide +kernel
set_option maxRecDepth 100000 in
theorem wawake_any (w : World) : Calls Tryd.prog 12 #[] w fun e w' => e = .returned (.bool true) ∧ Below w.heap.size w w' := by
  go_enter Tryd.func12, Tryd.ntmps12
  go_wp2_with (first
    | (go_at_call 8; go_loud (refine (laid1 256 (by decide) w.heap.size 1 _ ⟨by simp, by simp, by simp, by simp, by simp, by simp, by simp, by simp, by simp⟩).mono ?_; rw [numB_256]; rintro e w1 ⟨A, c, A', c', rfl, ho, ho', hb⟩; have hs := bs_str (n := 3) ho.bs.1 rfl; have hq : (strB [249, 1, 0]) = ⟨#[249, 1, 0]⟩ := rfl; rw [hq] at hs; clear hq))
    | fail)
  go_ret
  exact ⟨rfl, below_over hb⟩
end Go.Proofs.YtojkbndaleiaaaaDoor
