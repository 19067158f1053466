/- Names and values of labels, as plain functions of bytes. -/
namespace Go.Proofs.YtfmgphjnajgldaaDoor

def letN (n : Int) : Bool := decide (97 ≤ n ∧ n ≤ 122 ∨ 65 ≤ n ∧ n ≤ 90 ∨ n = 95)
def digN (n : Int) : Bool := decide (48 ≤ n ∧ n ≤ 57)
/-- May the byte n stand at place i of a name? -/
def nameC (i : Nat) (n : Int) : Bool := letN n || (decide (0 < i) && digN n)
def byteAt (s : ByteArray) (i : Nat) : Int := ((s.data.toList.getD i 0).toNat : Int)
def nameTo (s : ByteArray) (k : Nat) : Bool := (List.range k).all fun i => nameC i (byteAt s i)
theorem nameTo_zero (s : ByteArray) : nameTo s 0 = true := rfl
theorem nameTo_succ (s : ByteArray) (k : Nat) : nameTo s (k + 1) = (nameTo s k && nameC k (byteAt s k)) := by
  simp [nameTo, List.range_succ]
theorem nameTo_false {s : ByteArray} {k n : Nat} (h : nameC k (byteAt s k) = false) (hk : k < n) : nameTo s n = false := by
  simp only [nameTo, List.all_eq_false, List.mem_range]
  exact ⟨k, hk, by simp [h]⟩
def nameB (s : ByteArray) : Bool := decide (1 ≤ s.size) && decide (s.size ≤ 32) && nameTo s s.size

def valC (n : Int) : Bool := decide (32 ≤ n ∧ n ≤ 126)
def valTo (s : ByteArray) (k : Nat) : Bool := (List.range k).all fun i => valC (byteAt s i)
theorem valTo_zero (s : ByteArray) : valTo s 0 = true := rfl
theorem valTo_succ (s : ByteArray) (k : Nat) : valTo s (k + 1) = (valTo s k && valC (byteAt s k)) := by
  simp [valTo, List.range_succ]
theorem valTo_false {s : ByteArray} {k n : Nat} (h : valC (byteAt s k) = false) (hk : k < n) : valTo s n = false := by
  simp only [valTo, List.all_eq_false, List.mem_range]
  exact ⟨k, hk, by simp [h]⟩
def valB (s : ByteArray) : Bool := decide (1 ≤ s.size) && decide (s.size ≤ 64) && valTo s s.size

theorem byteAt_get (s : ByteArray) (k : Nat) (h : k < s.size) : ((s[k]).toNat : Int) = byteAt s k := by
  unfold byteAt
  have hl : k < s.data.toList.length := by simpa using h
  simp only [List.getD_eq_getElem?_getD, List.getElem?_eq_getElem hl, Option.getD_some]
  rfl
theorem byteAt_bd (s : ByteArray) (k : Nat) : 0 ≤ byteAt s k ∧ byteAt s k ≤ 255 := by
  unfold byteAt
  have := (s.data.toList.getD k 0).toNat_lt
  omega
end Go.Proofs.YtfmgphjnajgldaaDoor
