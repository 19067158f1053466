/- Numbers in decimal: the mathematics. -/
import Derived.Test.YtiigbkpfgbhlgaaDoorStr
import Derived.Lib.ItoaNum
import Derived.Lib.Hide
namespace Go.Proofs.YtiigbkpfgbhlgaaDoor
open Go.RowKit

abbrev dec (n : Nat) : List UInt8 := Lib.decDigits n
/-- The string s, and of what was there nothing has turned. -/
def Str1 (w : World) (l : List UInt8) (e : Ending) (w' : World) : Prop := e = .returned (.string (strB l)) ∧ Below w.heap.size w w'

theorem dec_small {n : Nat} (h : n < 10) : dec n = [UInt8.ofNat (48 + n)] := by unfold dec; rw [Lib.decDigits, dif_pos h]
theorem dec_big {n : Nat} (h : ¬ n < 10) : dec n = dec (n / 10) ++ [UInt8.ofNat (48 + n % 10)] := by unfold dec; rw [Lib.decDigits, dif_neg h]
theorem dec_len {n : Nat} (h : n < 18446744073709551616) : (dec n).length ≤ 20 := by
  unfold dec
  rw [Lib.decDigits_length]
  by_cases h0 : n = 0
  · subst h0; rw [Lib.nDigits_small (by decide)]; decide
  · have := Lib.numDigits_eq n (by omega) h
    split at this <;> omega
theorem dec_pos (n : Nat) : 1 ≤ (dec n).length := by unfold dec; rw [Lib.decDigits_length]; exact Lib.nDigits_pos n
theorem itoa_neg {n : Int} (h : n < 0) : Lib.itoa n = 45 :: dec n.natAbs := by unfold Lib.itoa; rw [if_pos h]
theorem itoa_pos {n : Int} (h : ¬ n < 0) : Lib.itoa n = dec n.toNat := by unfold Lib.itoa; rw [if_neg h]
theorem itoa_len {n : Int} (h0 : -9223372036854775808 ≤ n) (h1 : n ≤ 9223372036854775807) : (Lib.itoa n).length ≤ 21 := by
  by_cases h : n < 0
  · rw [itoa_neg h]; have := dec_len (n := n.natAbs) (by omega); simp; omega
  · rw [itoa_pos h]; have := dec_len (n := n.toNat) (by omega); omega
theorem digit_toNat {n : Nat} (h : n < 10) : ((UInt8.ofNat (48 + n)).toNat : Int) = 48 + (n : Int) := by
  simp [UInt8.toNat_ofNat']; omega
theorem w64 {x : Int} (h0 : 0 ≤ x) (h1 : x < 18446744073709551616) : IntKind.u64.wrap x = x := by rw [IntKind.wrap_u64]; omega
theorem strB_app (l m : List UInt8) : strB l ++ strB m = strB (l ++ m) := by
  unfold strB
  apply ByteArray.ext
  simp [ByteArray.data_append]

/-- string([]byte{c}). -/
theorem conv1 (w : World) (x : Int) (c : UInt8) (h : x = (c.toNat : Int)) :
    (convert 57 9 (.slice (some ⟨w.heap.size, 0, none⟩) 1 1)).run Tryd.prog (w.alloc (.cells #[.int .u8 x] 5)) = .ok (.string (strB [c])) (w.alloc (.cells #[.int .u8 x] 5)) :=
  bs_str (lit_bs w _ #[.int .u8 x] [c] (by subst h; rfl) (by simp [maxLen])) rfl
end Go.Proofs.YtiigbkpfgbhlgaaDoor
