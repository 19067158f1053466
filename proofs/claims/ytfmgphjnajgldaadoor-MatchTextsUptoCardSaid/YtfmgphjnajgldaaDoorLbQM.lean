/- A value as it is written, as plain lists of bytes. -/
import Derived.Test.YtfmgphjnajgldaaDoorLbM
namespace Go.Proofs.YtfmgphjnajgldaaDoor

def gN (n : Int) : Bool := decide (n = 34 ∨ n = 92)
def escB (c : UInt8) : List UInt8 := if gN (c.toNat : Int) = true then [92, c] else [c]
def quoteTo (s : ByteArray) (k : Nat) : List UInt8 := 34 :: (s.data.toList.take k).flatMap escB
def quoteB (s : ByteArray) : List UInt8 := quoteTo s s.size ++ [34]
theorem take_byte (s : ByteArray) (k : Nat) (h : k < s.size) : s.data.toList.take (k + 1) = s.data.toList.take k ++ [s[k]] := by
  rw [List.take_succ_eq_append_getElem (by simpa using h)]; rfl
theorem quoteTo_zero (s : ByteArray) : quoteTo s 0 = [34] := rfl
theorem quoteTo_succ (s : ByteArray) (k : Nat) (h : k < s.size) : quoteTo s (k + 1) = quoteTo s k ++ escB s[k] := by
  unfold quoteTo
  rw [take_byte s k h, List.flatMap_append]
  simp
theorem quoteTo_yes (s : ByteArray) (k : Nat) (h : k < s.size) (hg : gN ((s[k]).toNat : Int) = true) : quoteTo s (k + 1) = (quoteTo s k ++ [92]) ++ [s[k]] := by
  rw [quoteTo_succ s k h, escB, if_pos hg]; simp
theorem quoteTo_no (s : ByteArray) (k : Nat) (h : k < s.size) (hg : gN ((s[k]).toNat : Int) = false) : quoteTo s (k + 1) = quoteTo s k ++ [s[k]] := by
  rw [quoteTo_succ s k h, escB, if_neg (by simp [hg])]
theorem esc_len : ∀ l : List UInt8, (l.flatMap escB).length ≤ 2 * l.length
  | [] => by simp
  | c :: l => by
    have := esc_len l
    have h1 : (escB c).length ≤ 2 := by unfold escB; split <;> simp
    rw [List.flatMap_cons, List.length_append, List.length_cons]; omega
theorem quoteTo_len (s : ByteArray) (k : Nat) : (quoteTo s k).length ≤ 1 + 2 * k := by
  have h := esc_len (s.data.toList.take k)
  have h2 : (s.data.toList.take k).length ≤ k := List.length_take_le _ _
  unfold quoteTo
  rw [List.length_cons]; omega
theorem quoteB_len (s : ByteArray) : (quoteB s).length ≤ 2 + 2 * s.size := by
  have := quoteTo_len s s.size
  unfold quoteB; rw [List.length_append, List.length_singleton]; omega
end Go.Proofs.YtfmgphjnajgldaaDoor
