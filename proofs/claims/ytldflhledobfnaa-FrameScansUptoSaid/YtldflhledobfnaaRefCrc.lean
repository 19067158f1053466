/- The document's Crc. -/
import Derived.Test.YtldflhledobfnaaCrc
namespace Go.Proofs.Ytldflhledobfnaa
open Go.RowKit

set_option maxHeartbeats 800000 in
theorem refCrc_any (s : Nat) (hs : s < 4294967296) (K : Nat) (A : Option Addr) (cap : Nat) (l : List UInt8) (w : World) (hb : Bs w K A cap l) :
    Calls Try.prog 9 #[.int .u32 (s : Int), .slice A l.length cap] w fun e w' => e = .returned (.int .u32 (crcN s l : Int)) ∧ w = w' := by
  have hle := hb.le
  have hmax := hb.max
  unfold maxLen at hmax
  go_enter Try.func9, Try.ntmps9
  go_wp2
  go_loop [5, 6] (fun c i => ∃ k : Nat, k ≤ l.length ∧ i = .int .i64 k ∧ c = .int .u32 (crcTo (fullN - s) (l.take k))) (fun _ i => l.length - (intOf i).toNat)
  case atStart => exact ⟨0, Nat.zero_le _, rfl, by simp [crcTo, fullN]; omega⟩
  case round =>
    obtain ⟨k, hk, rfl, rfl⟩ := hrel
    have hc := crcTo_lt (l.take k) (c := fullN - s) (by unfold fullN; omega)
    by_cases hlt : k < l.length
    · obtain ⟨ad, rfl, _, hcell⟩ := hb.get hlt
      have hstep := crcTo_take (c := fullN - s) hlt
      have hy := l[k].toNat_lt
      generalize l[k] = b at *
      generalize crcTo (fullN - s) (l.take k) = c at *
      have Hs := Lib.hid hstep
      clear hstep
      have ex : bits .xor .u32 (c : Int) (b.toNat : Int) = ((c ^^^ b.toNat : Nat) : Int) := u32_xor_nat _ _ hc (by omega)
      go_wp2
      clear ex
      have hx := xor_byte_lt hc b
      go_loop [5, 7] (fun c' i => ∃ j : Nat, j ≤ 8 ∧ i = .int .i64 j ∧ c' = .int .u32 (bitsTo (c ^^^ b.toNat) j)) (fun _ i => 8 - (intOf i).toNat)
      case atStart => exact ⟨0, Nat.zero_le _, rfl, rfl⟩
      case round =>
        obtain ⟨j, hj, rfl, rfl⟩ := hrel
        have hz := bitsTo_lt hx j
        by_cases hlt : j < 8
        · have hzz : bitStep (bitsTo (c ^^^ b.toNat) j) = bitsTo (c ^^^ b.toNat) (j + 1) := rfl
          generalize bitsTo (c ^^^ b.toNat) j = z at *
          have Hz := Lib.hid hzz
          clear hzz
          have ez : bits .xor .u32 ((z : Int) / 2) 2197175160 = (((z / 2) ^^^ polyN : Nat) : Int) := by
            rw [show (2197175160 : Int) = ((2197175160 : Nat) : Int) from rfl, show ((z : Int) / 2) = ((z / 2 : Nat) : Int) by omega, u32_xor_nat _ _ (by omega) (by omega)]; rfl
          by_cases hodd : z % 2 = 1
          · have ho : (z : Int) % 2 = 1 := by omega
            have Ho := Lib.hid hodd
            clear hodd
            go_wp2
            go_round
            case rel => exact ⟨j + 1, by omega, by go_num, by rw [← Hz.out, bitStep, if_pos Ho.out]⟩
            case measure => simp [intOf]; omega
          · have ho : (z : Int) % 2 = 0 := by omega
            have Ho := Lib.hid hodd
            clear hodd
            go_wp2
            go_round
            case rel => exact ⟨j + 1, by omega, by go_num, by rw [← Hz.out, bitStep, if_neg Ho.out]; rfl⟩
            case measure => simp [intOf]; omega
        · have hj8 : j = 8 := by omega
          subst hj8
          have hzz : bitsTo (c ^^^ b.toNat) 8 = byteStep c b := rfl
          rw [hzz] at hz ⊢
          generalize byteStep c b = y at *
          clear hzz
          go_wp2
          go_round
          case rel => exact ⟨k + 1, by omega, by go_num, by rw [Hs.out]⟩
          case measure => simp [intOf]; omega
    · have hkl : k = l.length := by omega
      subst hkl
      rw [List.take_length] at hc ⊢
      go_wp2
      go_ret
      exact ⟨ret_int (by unfold crcN fullN at *; omega), rfl⟩

end Go.Proofs.Ytldflhledobfnaa
