/- A stamp's bytes, as plain lists. -/
namespace Go.Proofs.YtojkbndaleiaaaaDoor

/-- A number's k bytes, the highest first. -/
def beN (u k : Nat) : List UInt8 := (List.range k).map fun i => UInt8.ofNat (u / 256 ^ (k - 1 - i))
/-- The first j of them. -/
def beTo (u k j : Nat) : List UInt8 := (List.range j).map fun i => UInt8.ofNat (u / 256 ^ (k - 1 - i))
theorem beTo_all (u k : Nat) : beTo u k k = beN u k := rfl
theorem beTo_zero (u k : Nat) : beTo u k 0 = [] := rfl
theorem beTo_succ (u k j : Nat) : beTo u k (j + 1) = beTo u k j ++ [UInt8.ofNat (u / 256 ^ (k - 1 - j))] := by
  simp [beTo, List.range_succ]
theorem beN_length (u k : Nat) : (beN u k).length = k := by simp [beN]
theorem beTo_length (u k j : Nat) : (beTo u k j).length = j := by simp [beTo]
theorem beN_get (u k i : Nat) (h : i < k) : (beN u k).getD i 0 = UInt8.ofNat (u / 256 ^ (k - 1 - i)) := by simp [beN, h]
/-- Sixty-four bits of an int. -/
def u64N (a : Int) : Nat := (a % 18446744073709551616).toNat
theorem u64N_lt (a : Int) : u64N a < 18446744073709551616 := by unfold u64N; omega
def putB (a b c : Int) : List UInt8 := beN (u64N a) 8 ++ beN (u64N b) 4 ++ beN (u64N c) 4
theorem putB_length (a b c : Int) : (putB a b c).length = 16 := by simp [putB, beN_length]

theorem byte_shift (a : Int) (q : Nat) (h : q ≤ 7) : a / (2 ^ (8 * q) : Int) % 256 = ((UInt8.ofNat (u64N a / 256 ^ q)).toNat : Int) := by
  have e : ((UInt8.ofNat (u64N a / 256 ^ q)).toNat : Int) = ((u64N a / 256 ^ q : Nat) : Int) % 256 := by simp
  rw [e]
  unfold u64N
  rcases (show q = 0 ∨ q = 1 ∨ q = 2 ∨ q = 3 ∨ q = 4 ∨ q = 5 ∨ q = 6 ∨ q = 7 by omega) with rfl | rfl | rfl | rfl | rfl | rfl | rfl | rfl <;> simp only [Nat.reduceMul, Nat.reducePow, Int.reducePow] <;> omega
end Go.Proofs.YtojkbndaleiaaaaDoor
