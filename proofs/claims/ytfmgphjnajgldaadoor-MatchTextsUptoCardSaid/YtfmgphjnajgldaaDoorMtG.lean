/- Get of labels: the program's and the document's. -/
import Derived.Test.YtfmgphjnajgldaaDoorLbR
import Derived.Test.YtfmgphjnajgldaaDoorLbQ
import Derived.WalkSpells
namespace Go.Proofs.YtfmgphjnajgldaaDoor
open Go.RowKit

set_option maxHeartbeats 1600000 in
theorem getv_any (K : Nat) (A : Option Addr) (n cap : Nat) (l : List Pp) (s : ByteArray) (w : World) (hln : l.length = n) (hp : Lr w K A cap l) (hK : K ≤ w.heap.size) :
    Calls Tryd.prog 21 #[.slice A n cap, .string s] w (NewStr w (getL l s)) := by
  subst hln
  have hle := hp.le
  have hmax := hp.max
  unfold maxLen at hmax
  go_enter Tryd.func21, Tryd.ntmps21
  go_wp2
  go_loopw [9] (fun i wr => ∃ k : Nat, k ≤ l.length ∧ i = .int .i64 k ∧ Hid (getL l s = getL (l.drop k) s) ∧ Below w.heap.size w wr) (fun i _ => l.length - (intOf i).toNat)
  case atStart => exact ⟨0, Nat.zero_le _, rfl, Lib.hid rfl, Below.refl _ _⟩
  case round =>
    obtain ⟨k, hk, rfl, HT, hbl⟩ := hrel
    have z := hbl.size
    by_cases hlt : k < l.length
    · obtain ⟨ad, rfl, hadK, h1, h2⟩ := lr_at (hp.below (hbl.mono hK)) hlt
      have hstep := getL_drop hlt s
      generalize (l.getD k nilP).1 = xn at *
      generalize (l.getD k nilP).2 = xv at *
      by_cases hq : (xn.toList == s.toList) = true
      · have HF : Hid (getL l s = xv) := Lib.hid (by rw [HT.out, hstep, if_pos hq])
        clear hstep
        go_wp2_with fail
        go_ret
        exact ⟨by rw [HF.out]; rfl, by go_grown⟩
      · have hq : (xn.toList == s.toList) = false := by simpa using hq
        have HN : Hid (getL l s = getL (l.drop (k + 1)) s) := Lib.hid (by rw [HT.out, hstep, hq]; rfl)
        clear hstep
        go_wp2_with fail
        go_roundw
        case rel => exact ⟨k + 1, by omega, by go_num, HN, by go_grown⟩
        case measure => simp [intOf]; omega
    · have hks : k = l.length := by omega
      have HF : Hid (getL l s = ⟨#[]⟩) := Lib.hid (by rw [HT.out, hks, List.drop_length]; rfl)
      clear hks
      go_wp2_with fail
      go_ret
      exact ⟨by rw [HF.out]; rfl, hbl⟩
set_option maxHeartbeats 1600000 in
theorem rGet_any (K : Nat) (A : Option Addr) (n cap : Nat) (l : List Pp) (s : ByteArray) (w : World) (hln : l.length = n) (hp : Lr w K A cap l) (hK : K ≤ w.heap.size) :
    Calls Tryd.prog 42 #[.slice A n cap, .string s] w (NewStr w (getL l s)) := by
  subst hln
  have hle := hp.le
  have hmax := hp.max
  unfold maxLen at hmax
  go_enter Tryd.func42, Tryd.ntmps42
  go_wp2
  go_loopw [5] (fun i wr => ∃ k : Nat, k ≤ l.length ∧ i = .int .i64 k ∧ Hid (getL l s = getL (l.drop k) s) ∧ Below w.heap.size w wr) (fun i _ => l.length - (intOf i).toNat)
  case atStart => exact ⟨0, Nat.zero_le _, rfl, Lib.hid rfl, Below.refl _ _⟩
  case round =>
    obtain ⟨k, hk, rfl, HT, hbl⟩ := hrel
    have z := hbl.size
    by_cases hlt : k < l.length
    · obtain ⟨ad, rfl, hadK, h1, h2⟩ := lr_at (hp.below (hbl.mono hK)) hlt
      have hstep := getL_drop hlt s
      generalize (l.getD k nilP).1 = xn at *
      generalize (l.getD k nilP).2 = xv at *
      by_cases hq : (xn.toList == s.toList) = true
      · have HF : Hid (getL l s = xv) := Lib.hid (by rw [HT.out, hstep, if_pos hq])
        clear hstep
        go_wp2_with fail
        go_ret
        exact ⟨by rw [HF.out]; rfl, hbl⟩
      · have hq : (xn.toList == s.toList) = false := by simpa using hq
        have HN : Hid (getL l s = getL (l.drop (k + 1)) s) := Lib.hid (by rw [HT.out, hstep, hq]; rfl)
        clear hstep
        go_wp2_with fail
        go_roundw
        case rel => exact ⟨k + 1, by omega, by go_num, HN, hbl⟩
        case measure => simp [intOf]; omega
    · have hks : k = l.length := by omega
      have HF : Hid (getL l s = ⟨#[]⟩) := Lib.hid (by rw [HT.out, hks, List.drop_length]; rfl)
      clear hks
      go_wp2_with fail
      go_ret
      exact ⟨by rw [HF.out]; rfl, hbl⟩
end Go.Proofs.YtfmgphjnajgldaaDoor
