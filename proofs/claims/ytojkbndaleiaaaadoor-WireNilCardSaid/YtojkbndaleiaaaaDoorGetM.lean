/- A stamp of sixteen bytes, as plain numbers. -/
import Derived.Test.YtojkbndaleiaaaaDoorPutM
namespace Go.Proofs.YtojkbndaleiaaaaDoor

def ofBE (l : List UInt8) : Nat := l.foldl (fun n b => n * 256 + b.toNat) 0
theorem ofBE_snoc (l : List UInt8) (b : UInt8) : ofBE (l ++ [b]) = ofBE l * 256 + b.toNat := by simp [ofBE]
theorem ofBE_go : ∀ (l : List UInt8) (n m : Nat), n < 256 ^ m → l.foldl (fun n b => n * 256 + b.toNat) n < 256 ^ (m + l.length)
  | [], _, _, h => h
  | b :: l, n, m, h => by
    have hb := b.toNat_lt
    have := ofBE_go l (n * 256 + b.toNat) (m + 1) (by rw [Nat.pow_succ]; omega)
    rw [show m + 1 + l.length = m + (b :: l).length by simp; omega] at this
    exact this
theorem ofBE_lt (l : List UInt8) : ofBE l < 256 ^ l.length := by
  have := ofBE_go l 0 0 (by decide)
  rwa [Nat.zero_add] at this
/-- j bytes from o on. -/
def cutN (l : List UInt8) (o j : Nat) : Nat := ofBE ((l.drop o).take j)
theorem cutN_zero (l : List UInt8) (o : Nat) : cutN l o 0 = 0 := by simp [cutN, ofBE]
theorem cutN_succ {l : List UInt8} {o j : Nat} (h : o + j < l.length) : cutN l o (j + 1) = cutN l o j * 256 + (l[o + j]).toNat := by
  have hd : j < (l.drop o).length := by simp; omega
  unfold cutN
  rw [List.take_succ_eq_append_getElem hd, ofBE_snoc]
  simp
theorem cutN_lt (l : List UInt8) (o j : Nat) : cutN l o j < 256 ^ j := by
  have := ofBE_lt ((l.drop o).take j)
  have h2 : ((l.drop o).take j).length ≤ j := List.length_take_le _ _
  exact Nat.lt_of_lt_of_le this (Nat.pow_le_pow_right (by omega) h2)
def getA (l : List UInt8) : Nat := cutN l 0 8
def getT (l : List UInt8) : Nat := cutN l 8 4
def getM (l : List UInt8) : Nat := cutN l 12 4
theorem getA_lt (l : List UInt8) : getA l < 18446744073709551616 := cutN_lt l 0 8
theorem getT_lt (l : List UInt8) : getT l < 4294967296 := cutN_lt l 8 4
theorem getM_lt (l : List UInt8) : getM l < 4294967296 := cutN_lt l 12 4
/-- Wall, Tick, Mark, error. -/
def getB (l : List UInt8) : Int × Int × Int × Int :=
  if l.length ≠ 16 then (0, 0, 0, 9) else if 4611686018427387904 < getA l then (0, 0, 0, 10) else ((getA l : Int), (getT l : Int), (getM l : Int), 0)
theorem getB_short {l : List UInt8} (h : l.length ≠ 16) : getB l = (0, 0, 0, 9) := by simp [getB, h]
theorem getB_form {l : List UInt8} (h : l.length = 16) (ha : 4611686018427387904 < getA l) : getB l = (0, 0, 0, 10) := by simp [getB, h, ha]
theorem getB_ok {l : List UInt8} (h : l.length = 16) (ha : getA l ≤ 4611686018427387904) : getB l = ((getA l : Int), (getT l : Int), (getM l : Int), 0) := by
  unfold getB; rw [if_neg (by omega), if_neg (by omega)]
end Go.Proofs.YtojkbndaleiaaaaDoor
