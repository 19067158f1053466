/- The law's From. -/
import Derived.Test.YtpkadghdnlkfiaaLbT
namespace Go.Proofs.Ytpkadghdnlkfiaa
open Go.RowKit

set_option maxHeartbeats 1600000 in
theorem from_any (K : Nat) (A : Option Addr) (n cap : Nat) (l : List Pp) (w : World) (hln : l.length = n) (hp : Lr w K A cap l) (hK : K ≤ w.heap.size) (hl : l.length * 32 ≤ 140737488355328) :
    Calls Try.prog 17 #[.slice A n cap] w (NewD w l) := by
  subst hln
  have hle := hp.le
  have hmax := hp.max
  unfold maxLen at hmax
  go_enter Try.func17, Try.ntmps17
  go_wp2
  go_loopw [3, 8] (fun v i wr => ∃ (k c : Nat) (B : Option Addr), k ≤ l.length ∧ i = .int .i64 k ∧ v = .slice B k c ∧ Ld wr w.heap.size (.slice B k c) (l.take k) ∧ Below w.heap.size w wr) (fun _ i _ => l.length - (intOf i).toNat)
  case atStart => exact ⟨0, 0, none, Nat.zero_le _, rfl, rfl, by simpa using So.empty _ _ _ _ _, Below.refl _ _⟩
  case round =>
    obtain ⟨k, c, B, hk, rfl, rfl, hps, hbl⟩ := hrel
    have z := hbl.size
    by_cases hlt : k < l.length
    · obtain ⟨ad, rfl, hadK, h1, h2⟩ := lr_cells (hp.below (hbl.mono hK)) hlt
      have htk : l.take (k + 1) = l.take k ++ [l[k]] := List.take_succ_eq_append_getElem hlt
      have hln : (l.take k).length = k := by simp; omega
      generalize l[k] = x at *
      obtain ⟨xn, xv⟩ := x
      simp only at h1 h2
      have HT := Lib.hid htk
      have HL := Lib.hid hln
      have hps1 := hps.alloc (.cells #[.string xn, .string xv] 49)
      clear htk hln
      go_wp2_with (at_builtin; refine wpList_pushE Try.underlying24 info_rp rfl (by decide) (wr.alloc (.cells #[.string xn, .string xv] 49)) rfl (.tmp 12) (.tmp 18) rfl w.heap.size (.slice B k c) (l.take k) rfl hps1 (xn, xv) _ rfl rfl (encP_one _) _ (wr.heap.size + 1) (by simp) rfl (k + 1) (by rw [HL.out]) (by unfold maxLen; omega) (by omega) (by omega) ?_; intro A2 cap2 w2 hps2 hgrow2 hat2; have B2 : Below w.heap.size w w2 := grown_belowE (hbl.alloc z _) hgrow2 (by simp; omega) (fun _ h => (hps1.lt _ h).1))
      go_roundw
      case rel => exact ⟨k + 1, cap2, A2, by omega, by go_num, rfl, by rw [HT.out]; exact hps2, B2⟩
      case measure => simp [intOf]; omega
    · have hkl : k = l.length := by omega
      subst hkl
      rw [List.take_length] at hps
      go_wp2
      go_ret
      exact ⟨B, c, rfl, hps, hbl⟩
end Go.Proofs.Ytpkadghdnlkfiaa
