/- The document's Whole. -/
import Derived.Test.YtiigbkpfgbhlgaaDoorSxD
namespace Go.Proofs.YtiigbkpfgbhlgaaDoor
open Go.RowKit

set_option maxRecDepth 100000 in
set_option maxHeartbeats 1600000 in
theorem whole_any (x : Int) (w : World) (h0 : -9223372036854775808 ≤ x) (h1 : x ≤ 9223372036854775807) : Calls Tryd.prog 19 #[.int .i64 x] w (Str1 w (Lib.itoa x)) := by
  have hlen := itoa_len h0 h1
  by_cases hx : x < 0
  · obtain ⟨U, hU, m, hm, hv⟩ : ∃ U : Int, IntKind.u64.wrap x = U ∧ ∃ m : Nat, m = x.natAbs ∧ IntKind.u64.wrap (-U) = (m : Int) := ⟨_, rfl, _, rfl, by rw [IntKind.wrap_u64, IntKind.wrap_u64]; omega⟩
    have hb := decimal_any m w (by omega)
    have hl : (strB (dec m)).size ≤ 20 := by rw [strB_size]; exact dec_len (by omega)
    obtain ⟨S, hS⟩ : ∃ S, S = strB (dec m) := ⟨_, rfl⟩
    have HF : Hid ((⟨#[45]⟩ : ByteArray) ++ S = strB (Lib.itoa x)) := Lib.hid (by rw [hS, itoa_neg hx, hm]; exact strB_app [45] _)
    unfold Str1 at hb
    rw [← hS] at hb hl
    have HB := Lib.hid hb
    have ex : decide (x < 0) = true := decide_eq_true hx
    clear hb hlen hx h0 h1 hS hm
    go_enter Tryd.func19, Tryd.ntmps19
    go_wp2_with (refine (HB.out).mono ?_; rintro e w1 ⟨rfl, hb1⟩; have z1 := hb1.size)
    go_ret
    exact ⟨by first | rfl | (rw [HF.out]; rfl), hb1⟩
  · obtain ⟨m, hm, hv⟩ : ∃ m : Nat, m = x.toNat ∧ IntKind.u64.wrap x = (m : Int) := ⟨_, rfl, by rw [IntKind.wrap_u64]; omega⟩
    have HB := Lib.hid (decimal_any m w (by omega))
    have HF : Hid (dec m = Lib.itoa x) := Lib.hid (by rw [hm]; exact (itoa_pos hx).symm)
    have ex : decide (x < 0) = false := decide_eq_false hx
    clear hlen hx h0 h1 hm
    go_enter Tryd.func19, Tryd.ntmps19
    go_wp2_with (refine (HB.out).mono ?_; rintro e w1 ⟨rfl, hb1⟩; have z1 := hb1.size)
    go_ret
    exact ⟨by first | rfl | (rw [HF.out]; rfl), hb1⟩
end Go.Proofs.YtiigbkpfgbhlgaaDoor
