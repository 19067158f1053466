/- Rules in memory; the law's To and From. -/
import Derived.Test.YtfmgphjnajgldaaDoorEl
import Derived.Test.YtfmgphjnajgldaaDoorLbT
import Derived.Test.YtfmgphjnajgldaaDoorMtM
import Derived.Test.YtfmgphjnajgldaaDoorRows
import Derived.LoopTactic
namespace Go.Proofs.YtfmgphjnajgldaaDoor
open Go.RowKit

/-- A rule's three cells. -/
def encR (x : Rp) : List Value := [.string x.1, .int .i64 x.2.1, .string x.2.2]
theorem encR_len (x : Rp) : (encR x).length = 3 := rfl
theorem encR_one (x : Rp) : ∀ u ∈ encR x, u.oneCell' = true := by intro u hu; simp [encR] at hu; rcases hu with rfl | rfl | rfl <;> rfl
theorem info_ar : (Tryd.prog.info? 44).map (fun i => (i.zero, i.size, i.bytes)) = some (some (.agg #[.string ⟨#[]⟩, .int .i64 0, .string ⟨#[]⟩]), 3, 40) := by kernel_rfl
theorem info_dr : (Tryd.prog.info? 51).map (fun i => (i.zero, i.size, i.bytes)) = some (some (.agg #[.string ⟨#[]⟩, .int .i64 0, .string ⟨#[]⟩]), 3, 40) := by kernel_rfl

abbrev Rr (w : World) (K : Nat) (A : Option Addr) (cap : Nat) (l : List Rp) : Prop := Sr encR 3 w K A cap l
abbrev Ra (w : World) (K : Nat) (v : Value) (l : List Rp) : Prop := So encR 3 w K 44 v l
abbrev Rd (w : World) (K : Nat) (v : Value) (l : List Rp) : Prop := So encR 3 w K 51 v l
theorem rr_cells {w : World} {K cap : Nat} {A : Option Addr} {l : List Rp} (h : Rr w K A cap l) {i : Nat} (hi : i < l.length) : ∃ ad : Addr, A = some ad ∧ ad.block < K ∧ w.cell? (ad.add (i * 3)) = some (.string l[i].1) ∧ w.cell? ⟨(ad.add (i * 3)).block, (ad.add (i * 3)).off + 1, none⟩ = some (.int .i64 l[i].2.1) ∧ w.cell? ⟨(ad.add (i * 3)).block, (ad.add (i * 3)).off + 2, none⟩ = some (.string l[i].2.2) := by
  obtain ⟨ad, e, hb, h0, h1⟩ := h.get2 hi
  exact ⟨ad, e, hb, h0 _ rfl, h1 1 _ (by decide) rfl, h1 2 _ (by decide) rfl⟩
theorem rr_at {w : World} {K cap : Nat} {A : Option Addr} {l : List Rp} (h : Rr w K A cap l) {i : Nat} (hi : i < l.length) : ∃ ad : Addr, A = some ad ∧ ad.block < K ∧ w.cell? (ad.add (i * 3)) = some (.string (l.getD i nilR).1) ∧ w.cell? ⟨(ad.add (i * 3)).block, (ad.add (i * 3)).off + 1, none⟩ = some (.int .i64 (l.getD i nilR).2.1) ∧ w.cell? ⟨(ad.add (i * 3)).block, (ad.add (i * 3)).off + 2, none⟩ = some (.string (l.getD i nilR).2.2) := by
  rw [getR_eq hi]
  exact rr_cells h hi

/-- A new slice of the rules l; nothing else has turned. -/
def NewR (w : World) (l : List Rp) (e : Ending) (w' : World) : Prop :=
  ∃ A' cap', e = .returned (.slice A' l.length cap') ∧ Ra w' w.heap.size (.slice A' l.length cap') l ∧ Below w.heap.size w w'
def NewRd (w : World) (l : List Rp) (e : Ending) (w' : World) : Prop :=
  ∃ A' cap', e = .returned (.slice A' l.length cap') ∧ Rd w' w.heap.size (.slice A' l.length cap') l ∧ Below w.heap.size w w'

set_option maxHeartbeats 1600000 in
theorem toR_any (K : Nat) (A : Option Addr) (n cap : Nat) (l : List Rp) (w : World) (hln : l.length = n) (hp : Rr w K A cap l) (hK : K ≤ w.heap.size) (hl : l.length * 40 ≤ 140737488355328) :
    Calls Tryd.prog 10 #[.slice A n cap] w (NewR w l) := by
  subst hln
  have hle := hp.le
  have hmax := hp.max
  unfold maxLen at hmax
  go_enter Tryd.func10, Tryd.ntmps10
  go_wp2
  go_loopw [3, 8] (fun v i wr => ∃ (k c : Nat) (B : Option Addr), k ≤ l.length ∧ i = .int .i64 k ∧ v = .slice B k c ∧ Ra wr w.heap.size (.slice B k c) (l.take k) ∧ Below w.heap.size w wr) (fun _ i _ => l.length - (intOf i).toNat)
  case atStart => exact ⟨0, 0, none, Nat.zero_le _, rfl, rfl, by simpa using So.empty _ _ _ _ _, Below.refl _ _⟩
  case round =>
    obtain ⟨k, c, B, hk, rfl, rfl, hps, hbl⟩ := hrel
    have z := hbl.size
    by_cases hlt : k < l.length
    · obtain ⟨ad, rfl, hadK, h1, h2, h3⟩ := rr_cells (hp.below (hbl.mono hK)) hlt
      have htk : l.take (k + 1) = l.take k ++ [l[k]] := List.take_succ_eq_append_getElem hlt
      have hln : (l.take k).length = k := by simp; omega
      generalize l[k] = x at *
      obtain ⟨xn, xo, xv⟩ := x
      simp only at h1 h2 h3
      have HT := Lib.hid htk
      have HL := Lib.hid hln
      have hps1 := hps.alloc (.cells #[.string xn, .int .i64 xo, .string xv] 51)
      clear htk hln
      go_wp2_with (at_builtin; refine wpList_pushE Tryd.underlying26 info_ar rfl (by decide) (wr.alloc (.cells #[.string xn, .int .i64 xo, .string xv] 51)) rfl (.tmp 12) (.tmp 20) rfl w.heap.size (.slice B k c) (l.take k) rfl hps1 (xn, xo, xv) _ rfl rfl (encR_one _) _ (wr.heap.size + 1) (by simp) rfl (k + 1) (by rw [HL.out]) (by unfold maxLen; omega) (by omega) (by omega) ?_; intro A2 cap2 w2 hps2 hgrow2 hat2; have B2 : Below w.heap.size w w2 := grown_belowE (hbl.alloc z _) hgrow2 (by simp; omega) (fun _ h => (hps1.lt _ h).1))
      go_roundw
      case rel => exact ⟨k + 1, cap2, A2, by omega, by go_num, rfl, by rw [HT.out]; exact hps2, B2⟩
      case measure => simp [intOf]; omega
    · have hkl : k = l.length := by omega
      subst hkl
      rw [List.take_length] at hps
      go_wp2
      go_ret
      exact ⟨B, c, rfl, hps, hbl⟩
end Go.Proofs.YtfmgphjnajgldaaDoor
