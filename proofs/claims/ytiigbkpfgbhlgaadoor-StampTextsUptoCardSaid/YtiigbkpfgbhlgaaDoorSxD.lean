/- The document's Decimal and Whole. -/
import Derived.Test.YtiigbkpfgbhlgaaDoorSxM
namespace Go.Proofs.YtiigbkpfgbhlgaaDoor
open Go.RowKit

set_option maxRecDepth 100000 in
set_option maxHeartbeats 1600000 in
theorem decimal_any (n0 : Nat) (w : World) (h0 : n0 < 18446744073709551616) : Calls Tryd.prog 20 #[.int .u64 n0] w (Str1 w (dec n0)) := by
  have H0 := Lib.hid h0
  clear h0
  go_enter Tryd.func20, Tryd.ntmps20
  go_wp2_with fail
  go_loopw [0, 3] (fun v s wr => ∃ (n : Nat) (l : List UInt8), n ≤ n0 ∧ v = .int .u64 n ∧ s = .string (strB l) ∧ Hid (dec n ++ l = dec n0) ∧ Below w.heap.size w wr) (fun v _ _ => (intOf v).toNat)
  case atStart => exact ⟨n0, [], Nat.le_refl _, rfl, rfl, Lib.hid (List.append_nil _), Below.refl _ _⟩
  case round =>
    obtain ⟨n, l, hn, rfl, rfl, HL, hbl⟩ := hrel
    have z := hbl.size
    have hl0 := dec_len H0.out
    have hlen : (dec n).length + l.length = (dec n0).length := by rw [← HL.out, List.length_append]
    have hp := dec_pos n
    have hl : (strB l).size ≤ 20 := by rw [strB_size]; omega
    have HN : Hid (n ≤ n0) := Lib.hid hn
    have HM : Hid (n < 18446744073709551616) := Lib.hid (Nat.lt_of_le_of_lt hn H0.out)
    clear hl0 hlen hp hn
    obtain ⟨S, hS⟩ : ∃ S, S = strB l := ⟨_, rfl⟩
    rw [← hS] at hl ⊢
    have HS := Lib.hid hS
    clear hS
    by_cases h9 : n < 10
    · obtain ⟨D, hD⟩ : ∃ D, D = strB [UInt8.ofNat (48 + n)] := ⟨_, rfl⟩
      have hcv := conv1 wr (IntKind.u64.wrap (48 + (n : Int)) % 256) (UInt8.ofNat (48 + n)) (by rw [digit_toNat h9, w64 (x := 48 + (n : Int)) (by omega) (by omega)]; omega)
      rw [← hD] at hcv
      have hd : D.size = 1 := by rw [hD, strB_size]; rfl
      have HD : Hid (D ++ S = strB (dec n0)) := Lib.hid (by rw [hD, HS.out, strB_app, ← HL.out, dec_small h9])
      have e9 : decide (9 < (n : Int)) = false := decide_eq_false (by omega)
      clear h9 hD
      go_wp2_with fail
      go_ret
      exact ⟨by first | rfl | (rw [HD.out]; rfl), hbl.alloc z _⟩
    · obtain ⟨D, hD⟩ : ∃ D, D = strB [UInt8.ofNat (48 + n % 10)] := ⟨_, rfl⟩
      have hcv := conv1 wr (48 + (n : Int) % 10) (UInt8.ofNat (48 + n % 10)) (by rw [digit_toNat (by omega)]; simp)
      rw [← hD] at hcv
      have hd : D.size = 1 := by rw [hD, strB_size]; rfl
      have HD : Hid (D ++ S = strB ([UInt8.ofNat (48 + n % 10)] ++ l)) := Lib.hid (by rw [hD, HS.out, strB_app])
      have HX : Hid (dec (n / 10) ++ ([UInt8.ofNat (48 + n % 10)] ++ l) = dec n0) := Lib.hid (by rw [← HL.out, dec_big h9]; simp)
      have e9 : decide (9 < (n : Int)) = true := decide_eq_true (by omega)
      have H9 := Lib.hid h9
      clear h9 hD
      go_wp2_with fail
      go_roundw
      case rel => exact ⟨n / 10, [UInt8.ofNat (48 + n % 10)] ++ l, (by have := HN.out; omega), (by have := HM.out; rw [w64 (by omega) (by omega)]; rfl), by rw [HD.out], HX, hbl.alloc z _⟩
      case measure => have := H9.out; have := HM.out; rw [w64 (by omega) (by omega)]; simp [intOf]; omega
end Go.Proofs.YtiigbkpfgbhlgaaDoor
