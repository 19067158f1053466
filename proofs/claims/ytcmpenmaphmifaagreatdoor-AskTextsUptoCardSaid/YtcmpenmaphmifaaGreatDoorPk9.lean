/- The shelf's contract of strings.HasPrefix, laid at this program. -/
import Derived.Test.YtcmpenmaphmifaaGreatDoorPk8
import Derived.WalkSpells
import Derived.Shelf.Strings.Prefix
import Derived.Test.YtcmpenmaphmifaaGreatDoorProg
namespace Go.Proofs.YtcmpenmaphmifaaGreatDoor
open Go.RowKit

set_option maxHeartbeats 1600000 in
theorem getv_any (K : Nat) (A : Option Addr) (n cap : Nat) (l : List Pp) (s : ByteArray) (w : World) (hln : l.length = n) (hp : Lr w K A cap l) (hK : K ≤ w.heap.size) :
    Calls Tryz.prog 118 #[.slice A n cap, .string s] w (NewStr w (getL l s)) := by
  subst hln
  have hle := hp.le
  have hmax := hp.max
  unfold maxLen at hmax
  go_enter Tryz.func118, Tryz.ntmps118
  go_wp2
  go_loopw [9] (fun i wr => ∃ k : Nat, k ≤ l.length ∧ i = .int .i64 k ∧ Hid (getL l s = getL (l.drop k) s) ∧ Below w.heap.size w wr) (fun i _ => l.length - (intOf i).toNat)
  case atStart => exact ⟨0, Nat.zero_le _, rfl, Lib.hid rfl, Below.refl _ _⟩
  case round =>
    obtain ⟨k, hk, rfl, HT, hbl⟩ := hrel
    have z := hbl.size
    by_cases hlt : k < l.length
    · obtain ⟨ad, rfl, hadK, h1, h2⟩ := lr_at (hp.below (hbl.mono hK)) hlt
      have hstep := getL_drop hlt s
      generalize (l.getD k nilP).1 = xn at *
      generalize (l.getD k nilP).2 = xv at *
      by_cases hq : (xn.toList == s.toList) = true
      · have HF : Hid (getL l s = xv) := Lib.hid (by rw [HT.out, hstep, if_pos hq])
        clear hstep
        go_wp2_with fail
        go_ret
        exact ⟨by rw [HF.out]; rfl, by go_grown⟩
      · have hq : (xn.toList == s.toList) = false := by simpa using hq
        have HN : Hid (getL l s = getL (l.drop (k + 1)) s) := Lib.hid (by rw [HT.out, hstep, hq]; rfl)
        clear hstep
        go_wp2_with fail
        go_roundw
        case rel => exact ⟨k + 1, by omega, by go_num, HN, by go_grown⟩
        case measure => simp [intOf]; omega
    · have hks : k = l.length := by omega
      have HF : Hid (getL l s = ⟨#[]⟩) := Lib.hid (by rw [HT.out, hks, List.drop_length]; rfl)
      clear hks
      go_wp2_with fail
      go_ret
      exact ⟨by rw [HF.out]; rfl, hbl⟩
set_option maxHeartbeats 1600000 in
theorem rGet_any (K : Nat) (A : Option Addr) (n cap : Nat) (l : List Pp) (s : ByteArray) (w : World) (hln : l.length = n) (hp : Lr w K A cap l) (hK : K ≤ w.heap.size) :
    Calls Tryz.prog 119 #[.slice A n cap, .string s] w (NewStr w (getL l s)) := by
  subst hln
  have hle := hp.le
  have hmax := hp.max
  unfold maxLen at hmax
  go_enter Tryz.func119, Tryz.ntmps119
  go_wp2
  go_loopw [5] (fun i wr => ∃ k : Nat, k ≤ l.length ∧ i = .int .i64 k ∧ Hid (getL l s = getL (l.drop k) s) ∧ Below w.heap.size w wr) (fun i _ => l.length - (intOf i).toNat)
  case atStart => exact ⟨0, Nat.zero_le _, rfl, Lib.hid rfl, Below.refl _ _⟩
  case round =>
    obtain ⟨k, hk, rfl, HT, hbl⟩ := hrel
    have z := hbl.size
    by_cases hlt : k < l.length
    · obtain ⟨ad, rfl, hadK, h1, h2⟩ := lr_at (hp.below (hbl.mono hK)) hlt
      have hstep := getL_drop hlt s
      generalize (l.getD k nilP).1 = xn at *
      generalize (l.getD k nilP).2 = xv at *
      by_cases hq : (xn.toList == s.toList) = true
      · have HF : Hid (getL l s = xv) := Lib.hid (by rw [HT.out, hstep, if_pos hq])
        clear hstep
        go_wp2_with fail
        go_ret
        exact ⟨by rw [HF.out]; rfl, hbl⟩
      · have hq : (xn.toList == s.toList) = false := by simpa using hq
        have HN : Hid (getL l s = getL (l.drop (k + 1)) s) := Lib.hid (by rw [HT.out, hstep, hq]; rfl)
        clear hstep
        go_wp2_with fail
        go_roundw
        case rel => exact ⟨k + 1, by omega, by go_num, HN, hbl⟩
        case measure => simp [intOf]; omega
    · have hks : k = l.length := by omega
      have HF : Hid (getL l s = ⟨#[]⟩) := Lib.hid (by rw [HT.out, hks, List.drop_length]; rfl)
      clear hks
      go_wp2_with fail
      go_ret
      exact ⟨by rw [HF.out]; rfl, hbl⟩
end Go.Proofs.YtcmpenmaphmifaaGreatDoor
namespace Go.Proofs.YtcmpenmaphmifaaGreatDoor
open Go.Shelf Go.RowKit
def sh_lays99_ren : Go.Shelf.Ren := ⟨fun | 99 => 62 | 206 => 91 | n => n, fun | 9 => 9 | 4 => 4 | 3 => 3 | n => n, fun | n => n⟩
theorem sh_lays99 : Go.Proofs.Lays.n99 Tryz.prog sh_lays99_ren := {
  mixed := by kernel_rfl
  f99 := Tryz.func62.trans (congrArg some (by kernel_rfl))
  f206 := Tryz.func91.trans (congrArg some (by kernel_rfl))
  t3 := Tryz.underlying3
  a3 := Tryz.isAgg3
  z3 := Tryz.sizeOf3
  v3 := Tryz.zeroValue3
  t4 := Tryz.underlying4
  a4 := Tryz.isAgg4
  z4 := Tryz.sizeOf4
  v4 := Tryz.zeroValue4
  t9 := Tryz.underlying9
  a9 := Tryz.isAgg9
  z9 := Tryz.sizeOf9
  v9 := Tryz.zeroValue9 }
theorem hasPrefix_any (s p : ByteArray) (w : World) : Calls Tryz.prog 62 #[.string s, .string p] w fun e w' => e = .returned (.bool (Lib.hasPrefix s.data.toList p.data.toList)) ∧ w = w' :=
  (Any.strings_HasPrefix sh_lays99 s p w).mono fun _ _ h => ⟨h.1, h.2.symm⟩
end Go.Proofs.YtcmpenmaphmifaaGreatDoor
