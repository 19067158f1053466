/- The law's To: samples as the program's. -/
import Derived.Test.YtckbpajphfbaoaaTyM
import Derived.LoopTactic
namespace Go.Proofs.Ytckbpajphfbaoaa
open Go.RowKit

theorem info_ts : (Try.prog.info? 46).map (fun i => (i.zero, i.size, i.bytes)) = some (some (.agg #[.int .i64 0, .int .i64 0]), 2, 16) := by kernel_rfl
theorem grown_belowE {W w w1 : World} {v : Value} {B : Nat} (h : Below B W w) (hg : w.grownBy w1 v.ownBlock) (hB : B ≤ w.heap.size) (ho : ∀ k, v.ownBlock = some k → B ≤ k) : Below B W w1 := h.grown hg hB ho
theorem s_cells {w : World} {K cap : Nat} {A : Option Addr} {l : List Smp} (h : Sr encS 2 w K A cap l) {i : Nat} (hi : i < l.length) : ∃ ad : Addr, A = some ad ∧ ad.block < K ∧ w.cell? (ad.add (i * 2)) = some (.int .i64 l[i].1) ∧ w.cell? ⟨(ad.add (i * 2)).block, (ad.add (i * 2)).off + 1, none⟩ = some (.int .i64 l[i].2) := by
  obtain ⟨ad, e, hb, h0, h1⟩ := h.get2 hi
  exact ⟨ad, e, hb, h0 _ rfl, h1 1 _ (by decide) rfl⟩

def NewS (w : World) (l : List Smp) (e : Ending) (w' : World) : Prop :=
  ∃ A' cap', e = .returned (.slice A' l.length cap') ∧ So encS 2 w' w.heap.size 46 (.slice A' l.length cap') l ∧ Below w.heap.size w w'
set_option maxHeartbeats 1600000 in
theorem to_any (K : Nat) (A : Option Addr) (n cap : Nat) (l : List Smp) (w : World) (hln : l.length = n) (hp : Sr encS 2 w K A cap l) (hK : K ≤ w.heap.size) (hl : l.length * 16 ≤ 140737488355328) :
    Calls Try.prog 10 #[.slice A n cap] w (NewS w l) := by
  subst hln
  have hle := hp.le
  have hmax := hp.max
  unfold maxLen at hmax
  go_enter Try.func10, Try.ntmps10
  go_wp2
  go_loopw [3, 8] (fun v i wr => ∃ (k c : Nat) (B : Option Addr), k ≤ l.length ∧ i = .int .i64 k ∧ v = .slice B k c ∧ So encS 2 wr w.heap.size 46 (.slice B k c) (l.take k) ∧ Below w.heap.size w wr) (fun _ i _ => l.length - (intOf i).toNat)
  case atStart => exact ⟨0, 0, none, Nat.zero_le _, rfl, rfl, by simpa using So.empty _ _ _ _ _, Below.refl _ _⟩
  case round =>
    obtain ⟨k, c, B, hk, rfl, rfl, hps, hbl⟩ := hrel
    have z := hbl.size
    by_cases hlt : k < l.length
    · obtain ⟨ad, rfl, hadK, h1, h2⟩ := s_cells (hp.below (hbl.mono hK)) hlt
      have htk : l.take (k + 1) = l.take k ++ [l[k]] := List.take_succ_eq_append_getElem hlt
      have hln : (l.take k).length = k := by simp; omega
      generalize l[k] = x at *
      obtain ⟨xn, xv⟩ := x
      simp only at h1 h2
      have HT := Lib.hid htk
      have HL := Lib.hid hln
      have hps1 := hps.alloc (.cells #[.int .i64 xn, .int .i64 xv] 48)
      clear htk hln
      go_wp2_with (at_builtin; refine wpList_pushE Try.underlying26 info_ts rfl (by decide) (wr.alloc (.cells #[.int .i64 xn, .int .i64 xv] 48)) rfl (.tmp 12) (.tmp 18) rfl w.heap.size (.slice B k c) (l.take k) rfl hps1 (xn, xv) _ rfl rfl (encS_one _) _ (wr.heap.size + 1) (by simp) rfl (k + 1) (by rw [HL.out]) (by unfold maxLen; omega) (by omega) (by omega) ?_; intro A2 cap2 w2 hps2 hgrow2 hat2; have B2 : Below w.heap.size w w2 := grown_belowE (hbl.alloc z _) hgrow2 (by simp; omega) (fun _ h => (hps1.lt _ h).1))
      go_roundw
      case rel => exact ⟨k + 1, cap2, A2, by omega, by go_num, rfl, by rw [HT.out]; exact hps2, B2⟩
      case measure => simp [intOf]; omega
    · have hkl : k = l.length := by omega
      subst hkl
      rw [List.take_length] at hps
      go_wp2
      go_ret
      exact ⟨B, c, rfl, hps, hbl⟩
end Go.Proofs.Ytckbpajphfbaoaa
