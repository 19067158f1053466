/- The law's awake: the document's first example of layer 4. -/
import Derived.Test.YtldflhledobfnabSeal
import Derived.Lib.SlBytesConst
namespace Go.Proofs.Ytldflhledobfnab
open Go.RowKit

def nine9 : List UInt8 := [49, 50, 51, 52, 53, 54, 55, 56, 57]
theorem crc_nine : crcN 0 nine9 = 3808858755 := by decide +kernel

theorem awake_any (w : World) : Calls Try.prog 6 #[] w fun e w' => e = .returned (.bool true) ∧ Below w.heap.size w w' := by
  have kc := fun (w : World) (C : Array Value) (n c : Nat) => Lib.run_convert_bytes_const (P := Try.prog) w 24 5 C n c Try.underlying24 Try.underlying5
  go_enter Try.func6, Try.ntmps6
  go_wp2_with fail
  have h1 := seal_ok 1 (w.heap.size + 1) (some ⟨w.heap.size, 0, none⟩) 1 [97] (w.alloc (.cells #[.int .u8 97] 5 (1, 2))) (lit_bsF w _ _ _ rfl #[.int .u8 97] 1 [97] rfl rfl (by decide)) (by simp) (by decide)
  change Calls Try.prog 7 #[.int .u8 1, .slice (some ⟨w.heap.size, 0, none⟩) 1 1] _ _ at h1
  refine h1.mono ?_
  clear h1
  rintro e w1 ⟨A1, cap1, rfl, _, hb1⟩
  have B1 : Below w.heap.size w w1 := ((Below.refl _ w).alloc (Nat.le_refl _) _).trans (hb1.mono (by simp))
  have z1 := B1.size
  clear hb1
  go_wp2_with fail
  have h2 := crc_zero (w1.heap.size + 1) (some ⟨w1.heap.size, 0, none⟩) 9 9 nine9 (w1.alloc (.cells #[.int .u8 49, .int .u8 50, .int .u8 51, .int .u8 52, .int .u8 53, .int .u8 54, .int .u8 55, .int .u8 56, .int .u8 57] 5 (9, 10))) rfl (lit_bsF w1 _ _ _ rfl _ 9 nine9 rfl rfl (by decide))
  rw [crc_nine] at h2
  refine h2.mono ?_
  clear h2
  rintro e w' ⟨rfl, rfl⟩
  go_wp2
  go_ret
  exact ⟨rfl, B1.alloc z1 _⟩
end Go.Proofs.Ytldflhledobfnab
