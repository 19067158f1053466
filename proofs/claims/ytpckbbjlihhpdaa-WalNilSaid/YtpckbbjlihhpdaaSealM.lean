/- A frame, as a plain list of bytes. -/
import Derived.Test.YtpckbbjlihhpdaaCrcM
namespace Go.Proofs.Ytpckbbjlihhpdaa

def hd4 (k : UInt8) (n : Nat) : List UInt8 := [k, UInt8.ofNat (n / 65536), UInt8.ofNat (n / 256), UInt8.ofNat n]
def le4 (c : Nat) : List UInt8 := [UInt8.ofNat c, UInt8.ofNat (c / 256), UInt8.ofNat (c / 65536), UInt8.ofNat (c / 16777216)]
def sumB (k : UInt8) (l : List UInt8) : Nat := crcN 0 (hd4 k l.length ++ l)
/-- The frame of kind k with payload l. -/
def sealB (k : UInt8) (l : List UInt8) : List UInt8 := 167 :: hd4 k l.length ++ le4 (sumB k l) ++ l
theorem sealB_length (k : UInt8) (l : List UInt8) : (sealB k l).length = 9 + l.length := by simp [sealB, hd4, le4]; omega
theorem sumB_lt (k : UInt8) (l : List UInt8) : sumB k l < 4294967296 := crcN_lt _ _
theorem ofNat_int (x : Nat) : ((UInt8.ofNat x).toNat : Int) = (x : Int) % 256 := by simp

end Go.Proofs.Ytpckbbjlihhpdaa
