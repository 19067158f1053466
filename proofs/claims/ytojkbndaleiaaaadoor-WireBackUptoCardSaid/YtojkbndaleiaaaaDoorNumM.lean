/- A number's bytes, as plain lists. -/
import Derived.Test.YtojkbndaleiaaaaDoorPutM
import Derived.Lib.BitFns
namespace Go.Proofs.YtojkbndaleiaaaaDoor

theorem bitLenAux_le : ∀ (f x : Nat), Lib.bitLenAux f x ≤ f
  | 0, _ => Nat.le_refl _
  | f + 1, x => by
    unfold Lib.bitLenAux
    split
    · omega
    · have := bitLenAux_le f (x / 2); omega
theorem bitLen_le (x : Nat) : Lib.bitLen x ≤ 64 := bitLenAux_le 64 x
/-- How many bytes stand behind a number's first one. -/
def kN (n : Nat) : Nat := if n ≤ 247 then 0 else (Lib.bitLen n + 7) / 8
theorem kN_le (n : Nat) : kN n ≤ 8 := by
  have := bitLen_le n
  unfold kN; split <;> omega
theorem kN_low {n : Nat} (h : n ≤ 247) : kN n = 0 := if_pos h
theorem kN_high {n : Nat} (h : 247 < n) : kN n = (Lib.bitLen n + 7) / 8 := if_neg (by omega)
theorem kN_pos {n : Nat} (h : 247 < n) (h2 : n < 18446744073709551616) : 1 ≤ kN n := by
  rw [kN_high h]
  have := Lib.bitLen_half n (by omega) h2
  omega
def numB (n : Nat) : List UInt8 := if n ≤ 247 then [UInt8.ofNat n] else UInt8.ofNat (247 + kN n) :: beN n (kN n)
theorem numB_low {n : Nat} (h : n ≤ 247) : numB n = [UInt8.ofNat n] := if_pos h
theorem numB_high {n : Nat} (h : 247 < n) : numB n = [UInt8.ofNat (247 + kN n)] ++ beN n (kN n) := if_neg (by omega)
theorem numB_length (n : Nat) : (numB n).length = 1 + kN n := by
  unfold numB
  by_cases h : n ≤ 247
  · rw [if_pos h, kN_low h]; rfl
  · rw [if_neg h]; simp [beN_length]; omega
end Go.Proofs.YtojkbndaleiaaaaDoor
