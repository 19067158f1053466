/- The document's Get. -/
import Derived.Test.YtojkbndaleiaaaaDoorByW
import Derived.Test.YtojkbndaleiaaaaDoorGetM
import Derived.Test.YtojkbndaleiaaaaDoorSt
import Derived.LoopTactic
namespace Go.Proofs.YtojkbndaleiaaaaDoor
open Go.RowKit

def GetPost (w : World) (l : List UInt8) (e : Ending) (w' : World) : Prop :=
  e = .returned (.tuple #[stv (getB l).1 (getB l).2.1 (getB l).2.2.1, .int .i64 (getB l).2.2.2]) ∧ Below w.heap.size w w'

theorem rget_short (A : Option Addr) (cap n : Nat) (l : List UInt8) (w : World) (hn : l.length = n) (h : n ≠ 16) (hm : n ≤ 9223372036854775807) :
    Calls Tryd.prog 51 #[.slice A n cap] w (GetPost w l) := by
  have HM := Lib.hid hm
  clear hm
  have hp : ∀ w', Below w.heap.size w w' → GetPost w l (.returned (.tuple #[stv 0 0 0, .int .i64 9])) w' := fun w' hb => ⟨by rw [getB_short (by omega)], hb⟩
  have HP := Lib.hid hp
  clear hp hn
  have hne : ((n : Int) != 16) = true := by rw [bne_iff_ne]; omega
  go_enter Tryd.func51, Tryd.ntmps51
  go_wp2
  exact bodyPost_ret (v := .tuple #[stv 0 0 0, .int .i64 9]) (by simp [results, Tryd.results51, go_sem]) rfl (HP.out _ (by go_grown))

theorem u64_step {x b : Nat} (hx : x < 72057594037927936) (hb : b < 256) : IntKind.u64.wrap (IntKind.u64.wrap ((x : Int) * 256) + (b : Int)) = ((x * 256 + b : Nat) : Int) := by
  have e : ∀ n : Int, IntKind.u64.wrap n = n % 18446744073709551616 := fun n => by simp [IntKind.wrap, IntKind.bits, IntKind.signed]
  rw [e, e]; omega
theorem u32_step {x b : Nat} (hx : x < 16777216) (hb : b < 256) : IntKind.u32.wrap (IntKind.u32.wrap ((x : Int) * 256) + (b : Int)) = ((x * 256 + b : Nat) : Int) := by
  have e : ∀ n : Int, IntKind.u32.wrap n = n % 4294967296 := fun n => by simp [IntKind.wrap, IntKind.bits, IntKind.signed]
  rw [e, e]; omega

set_option maxRecDepth 100000 in
set_option maxHeartbeats 3200000 in
theorem rget_full (K : Nat) (ad : Addr) (cap : Nat) (l : List UInt8) (w : World) (hb : Bs w K (some ad) cap l) (h16 : l.length = 16) :
    Calls Tryd.prog 51 #[.slice (some ad) 16 cap] w (GetPost w l) := by
  have hl : ∀ (o j : Nat), o + j < 16 → ∃ b : Nat, b < 256 ∧ w.cell? (ad.add (o + j)) = some (.int .u8 b) ∧ cutN l o (j + 1) = cutN l o j * 256 + b := fun o j h => by
    obtain ⟨ad', e, _, hc⟩ := hb.get (k := o + j) (by omega)
    cases e
    exact ⟨_, (l[o + j]).toNat_lt, hc, cutN_succ (by omega)⟩
  have HL := Lib.hid hl
  have H16 := Lib.hid h16
  have hcap := hb.le
  have hmax := hb.max
  rw [h16] at hcap
  unfold maxLen at hmax
  clear hl h16
  go_enter Tryd.func51, Tryd.ntmps51
  go_wp2
  go_loop [4, 7] (fun x i => ∃ j : Nat, j ≤ 8 ∧ i = .int .i64 j ∧ x = .int .u64 ((cutN l 0 j : Nat) : Int)) (fun _ i => 8 - (intOf i).toNat)
  case atStart => exact ⟨0, by omega, rfl, by rw [cutN_zero]; rfl⟩
  case round =>
    obtain ⟨j, hj, rfl, rfl⟩ := hrel
    by_cases hlt : j < 8
    · obtain ⟨b, hb8, hc, hs⟩ := HL.out 0 j (by omega)
      rw [Nat.zero_add] at hc
      have hx : cutN l 0 j < 72057594037927936 := Nat.lt_of_lt_of_le (cutN_lt l 0 j) (Nat.le_trans (Nat.pow_le_pow_right (by omega) (show j ≤ 7 by omega)) (by decide))
      generalize cutN l 0 j = x at *
      have he := u64_step hx hb8
      have hc' : (w.alloc (.cells #[.int .i64 0, .int .u32 0, .int .u32 0] 37)).cell? (ad.add j) = some (.int .u8 b) := keptA hc
      have HS := Lib.hid hs
      have HX := Lib.hid hx
      clear hs hx
      go_wp2
      go_round
      case rel => exact ⟨j + 1, by omega, by go_num, by rw [HS.out]; go_num⟩
      case measure => simp [intOf]; omega
    · have hj8 : j = 8 := by omega
      subst hj8
      have hal := getA_lt l
      have ea : cutN l 0 8 = getA l := rfl
      rw [ea]
      generalize hA : getA l = xa at *
      have HA := Lib.hid hA
      have HAL := Lib.hid hal
      clear hA hal ea
      go_wp2
      go_loop [5, 6, 8] (fun x y i => ∃ j : Nat, j ≤ 4 ∧ i = .int .i64 j ∧ x = .int .u32 ((cutN l 8 j : Nat) : Int) ∧ y = .int .u32 ((cutN l 12 j : Nat) : Int)) (fun _ _ i => 4 - (intOf i).toNat)
      case atStart => exact ⟨0, by omega, rfl, by rw [cutN_zero]; rfl, by rw [cutN_zero]; rfl⟩
      case round =>
        obtain ⟨j, hj, rfl, rfl, rfl⟩ := hrel
        by_cases hlt : j < 4
        · obtain ⟨b, hb8, hc, hs⟩ := HL.out 8 j (by omega)
          obtain ⟨b', hb8', hc', hs'⟩ := HL.out 12 j (by omega)
          have hx : cutN l 8 j < 16777216 := Nat.lt_of_lt_of_le (cutN_lt l 8 j) (Nat.le_trans (Nat.pow_le_pow_right (by omega) (show j ≤ 3 by omega)) (by decide))
          have hy : cutN l 12 j < 16777216 := Nat.lt_of_lt_of_le (cutN_lt l 12 j) (Nat.le_trans (Nat.pow_le_pow_right (by omega) (show j ≤ 3 by omega)) (by decide))
          generalize cutN l 8 j = x at *
          generalize cutN l 12 j = y at *
          have d1 : (w.alloc (.cells #[.int .i64 0, .int .u32 0, .int .u32 0] 37)).cell? (ad.add (8 + j)) = some (.int .u8 b) := keptA hc
          have d2 : (w.alloc (.cells #[.int .i64 0, .int .u32 0, .int .u32 0] 37)).cell? (ad.add (12 + j)) = some (.int .u8 b') := keptA hc'
          have HS := Lib.hid hs
          have HS' := Lib.hid hs'
          clear hs hs'
          go_wp2
          go_round
          case rel => exact ⟨j + 1, by omega, by go_num, by rw [HS.out]; go_num, by rw [HS'.out]; go_num⟩
          case measure => simp [intOf]; omega
        · have hj4 : j = 4 := by omega
          subst hj4
          have et : cutN l 8 4 = getT l := rfl
          have em : cutN l 12 4 = getM l := rfl
          have hp1 : ∀ w', 4611686018427387904 < xa → Below w.heap.size w w' → GetPost w l (.returned (.tuple #[stv 0 0 0, .int .i64 10])) w' := fun w' h hb => ⟨by rw [getB_form H16.out (by rw [HA.out]; exact h)], hb⟩
          have hp2 : ∀ w', xa ≤ 4611686018427387904 → Below w.heap.size w w' → GetPost w l (.returned (.tuple #[stv xa (getT l) (getM l), .int .i64 0])) w' := fun w' h hb => ⟨by rw [getB_ok H16.out (by rw [HA.out]; exact h), HA.out], hb⟩
          rw [et, em]
          generalize getT l = xt at *
          generalize getM l = xm at *
          have HP1 := Lib.hid hp1
          have HP2 := Lib.hid hp2
          clear et em hp1 hp2
          by_cases hbig : 4611686018427387904 < xa
          · go_wp2
            exact bodyPost_ret (v := .tuple #[stv 0 0 0, .int .i64 10]) (by simp [results, Tryd.results51, go_sem]) rfl (HP1.out _ hbig (by go_grown))
          · have hsm : xa ≤ 4611686018427387904 := by omega
            clear hbig
            go_wp2
            exact bodyPost_ret (v := .tuple #[stv xa xt xm, .int .i64 0]) (by simp [results, Tryd.results51, go_sem]) rfl (HP2.out _ hsm (by go_grown))
end Go.Proofs.YtojkbndaleiaaaaDoor
