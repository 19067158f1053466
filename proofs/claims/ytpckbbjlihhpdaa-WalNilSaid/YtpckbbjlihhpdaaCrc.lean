/- frame.Crc: the check sum of a slice's bytes. -/
import Derived.Test.YtpckbbjlihhpdaaBy
import Derived.Test.YtpckbbjlihhpdaaCrcM
import Derived.LoopTactic
import Derived.Laws.BitsAllLaws
import Derived.Test.YtpckbbjlihhpdaaProg
namespace Go.Proofs.Ytpckbbjlihhpdaa
open Go.RowKit

theorem max_u32 : IntKind.u32.max = 4294967295 := by decide
theorem not_nat {s : Nat} (h : s < 4294967296) : 4294967295 ^^^ s = fullN - s := by
  unfold fullN
  rw [Nat.xor_comm]
  have h2 : (BitVec.ofNat 32 s ^^^ BitVec.allOnes 32) = ~~~ BitVec.ofNat 32 s := BitVec.xor_allOnes
  have h3 := congrArg BitVec.toNat h2
  simp only [BitVec.toNat_xor, BitVec.toNat_not, BitVec.toNat_ofNat, BitVec.toNat_allOnes] at h3
  rw [Nat.mod_eq_of_lt h] at h3
  omega
theorem not_u32 {s : Nat} (hs : s < 4294967296) : bits .xor .u32 IntKind.u32.max (s : Int) = ((fullN - s : Nat) : Int) := by
  rw [max_u32, show (4294967295 : Int) = ((4294967295 : Nat) : Int) from rfl, u32_xor_nat _ _ (by omega) hs, not_nat hs]
theorem bit_u32 {z : Nat} (h : z < 4294967296) : bits .xor .u32 ((z : Int) / 2) (bits .and .u32 2197175160 (-bits .and .u32 (z : Int) 1 % 4294967296)) = ((bitStep z : Nat) : Int) := by
  unfold bitStep
  have f1 : bits .and .u32 (z : Int) 1 = (z : Int) % 2 := by
    rw [show (1 : Int) = ((1 : Nat) : Int) from rfl, u32_and_nat _ _ h (by omega), nat_mask1]; omega
  rw [f1]
  by_cases e : z % 2 = 1
  · have e1 : -((z : Int) % 2) % 4294967296 = ((4294967295 : Nat) : Int) := by omega
    rw [if_pos e, e1, show (2197175160 : Int) = ((2197175160 : Nat) : Int) from rfl, u32_and_nat _ _ (by omega) (by omega), show ((z : Int) / 2) = ((z / 2 : Nat) : Int) by omega, u32_xor_nat _ _ (by omega) (Nat.and_lt_two_pow (n := 32) _ (by omega))]
    rfl
  · have e1 : -((z : Int) % 2) % 4294967296 = ((0 : Nat) : Int) := by omega
    rw [if_neg e, e1, show (2197175160 : Int) = ((2197175160 : Nat) : Int) from rfl, u32_and_nat _ _ (by omega) (by omega), show ((z : Int) / 2) = ((z / 2 : Nat) : Int) by omega, u32_xor_nat _ _ (by omega) (Nat.and_lt_two_pow (n := 32) _ (by omega))]
    simp

set_option maxHeartbeats 800000 in
theorem crc_any (s : Nat) (hs : s < 4294967296) (K : Nat) (A : Option Addr) (cap : Nat) (l : List UInt8) (w : World) (hb : Bs w K A cap l) :
    Calls Try.prog 72 #[.int .u32 (s : Int), .slice A l.length cap] w fun e w' => e = .returned (.int .u32 (crcN s l : Int)) ∧ w = w' := by
  have hle := hb.le
  have hmax := hb.max
  unfold maxLen at hmax
  have e0 := not_u32 hs
  go_enter Try.func72, Try.ntmps72
  go_wp2
  clear e0
  go_loop [5, 12] (fun c i => ∃ k : Nat, k ≤ l.length ∧ i = .int .i64 k ∧ c = .int .u32 (crcTo (fullN - s) (l.take k))) (fun _ i => l.length - (intOf i).toNat)
  case atStart => exact ⟨0, Nat.zero_le _, rfl, rfl⟩
  case round =>
    obtain ⟨k, hk, rfl, rfl⟩ := hrel
    have hc := crcTo_lt (l.take k) (c := fullN - s) (by unfold fullN; omega)
    by_cases hlt : k < l.length
    · obtain ⟨ad, rfl, _, hcell⟩ := hb.get hlt
      have hstep := crcTo_take (c := fullN - s) hlt
      have hy := l[k].toNat_lt
      generalize l[k] = b at *
      generalize crcTo (fullN - s) (l.take k) = c at *
      have Hs := Lib.hid hstep
      clear hstep
      have ex : bits .xor .u32 (c : Int) (b.toNat : Int) = ((c ^^^ b.toNat : Nat) : Int) := u32_xor_nat _ _ hc (by omega)
      go_wp2
      clear ex
      have hx := xor_byte_lt hc b
      go_loop [5, 20] (fun c' i => ∃ j : Nat, j ≤ 8 ∧ i = .int .i64 j ∧ c' = .int .u32 (bitsTo (c ^^^ b.toNat) j)) (fun _ i => 8 - (intOf i).toNat)
      case atStart => exact ⟨0, Nat.zero_le _, rfl, rfl⟩
      case round =>
        obtain ⟨j, hj, rfl, rfl⟩ := hrel
        have hz := bitsTo_lt hx j
        by_cases hlt : j < 8
        · have hzz : bitStep (bitsTo (c ^^^ b.toNat) j) = bitsTo (c ^^^ b.toNat) (j + 1) := rfl
          generalize bitsTo (c ^^^ b.toNat) j = z at *
          have Hz := Lib.hid hzz
          clear hzz
          go_wp2
          go_round
          case rel => exact ⟨j + 1, by omega, by go_num, by rw [bit_u32 hz, Hz.out]⟩
          case measure => simp [intOf]; omega
        · have hj8 : j = 8 := by omega
          subst hj8
          have hzz : bitsTo (c ^^^ b.toNat) 8 = byteStep c b := rfl
          rw [hzz] at hz ⊢
          generalize byteStep c b = y at *
          clear hzz
          go_wp2
          go_round
          case rel => exact ⟨k + 1, by omega, by go_num, by rw [Hs.out]⟩
          case measure => simp [intOf]; omega
    · have hkl : k = l.length := by omega
      subst hkl
      rw [List.take_length] at hc ⊢
      have e1 := not_u32 hc
      go_wp2
      go_ret
      exact ⟨rfl, rfl⟩

end Go.Proofs.Ytpckbbjlihhpdaa
