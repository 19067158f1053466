/- The check sum of bytes, as plain numbers. -/
namespace Go.Proofs.Ytpckbbjlihhpdaa

def polyN : Nat := 2197175160
def fullN : Nat := 4294967295
/-- One bit. -/
def bitStep (c : Nat) : Nat := if c % 2 = 1 then (c / 2) ^^^ polyN else c / 2
/-- k bits. -/
def bitsTo (c : Nat) : Nat → Nat
  | 0 => c
  | k + 1 => bitStep (bitsTo c k)
/-- One byte. -/
def byteStep (c : Nat) (b : UInt8) : Nat := bitsTo (c ^^^ b.toNat) 8
def crcTo (c : Nat) (l : List UInt8) : Nat := l.foldl byteStep c
def crcN (s : Nat) (l : List UInt8) : Nat := fullN - crcTo (fullN - s) l

theorem bitStep_lt {c : Nat} (h : c < 4294967296) : bitStep c < 4294967296 := by
  unfold bitStep
  split
  · exact Nat.xor_lt_two_pow (n := 32) (by omega) (by decide)
  · omega
theorem bitsTo_lt {c : Nat} (h : c < 4294967296) : ∀ k, bitsTo c k < 4294967296
  | 0 => h
  | k + 1 => bitStep_lt (bitsTo_lt h k)
theorem xor_byte_lt {c : Nat} (h : c < 4294967296) (b : UInt8) : c ^^^ b.toNat < 4294967296 :=
  Nat.xor_lt_two_pow (n := 32) (by omega) (by have := b.toNat_lt; omega)
theorem byteStep_lt {c : Nat} (h : c < 4294967296) (b : UInt8) : byteStep c b < 4294967296 := bitsTo_lt (xor_byte_lt h b) 8
theorem crcTo_lt : ∀ (l : List UInt8) {c : Nat}, c < 4294967296 → crcTo c l < 4294967296
  | [], _, h => h
  | b :: l, _, h => crcTo_lt l (byteStep_lt h b)
theorem crcTo_append (c : Nat) (l m : List UInt8) : crcTo c (l ++ m) = crcTo (crcTo c l) m := List.foldl_append ..
theorem crcN_lt (s : Nat) (l : List UInt8) : crcN s l < 4294967296 := by unfold crcN fullN; omega
theorem full_back {c : Nat} (h : c < 4294967296) : fullN - (fullN - c) = c := by unfold fullN; omega
theorem crcN_append {s : Nat} (l m : List UInt8) : crcN (crcN s l) m = crcN s (l ++ m) := by
  unfold crcN
  rw [full_back (crcTo_lt l (by unfold fullN; omega)), crcTo_append]
theorem crcTo_take {c : Nat} {l : List UInt8} {k : Nat} (h : k < l.length) : crcTo c (l.take (k + 1)) = byteStep (crcTo c (l.take k)) l[k] := by
  rw [List.take_succ_eq_append_getElem h, crcTo_append]; rfl

end Go.Proofs.Ytpckbbjlihhpdaa
