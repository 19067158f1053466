/- A number behind bytes: the long form. -/
import Derived.Test.YtojkbndaleiaaaaDoorNum
import Derived.LoopTactic
namespace Go.Proofs.YtojkbndaleiaaaaDoor
open Go.RowKit

theorem u64N_cast {n : Nat} (h : n ≤ 18446744073709551615) : u64N (n : Int) = n := by unfold u64N; omega

set_option maxRecDepth 100000 in
set_option maxHeartbeats 3200000 in
theorem appendNum_high (n : Nat) (h0 : 247 < n) (h1 : n ≤ 18446744073709551615) (K : Nat) (A : Option Addr) (n0 cap : Nat) (l : List UInt8) (w : World) (ho : Ob w K (.slice A n0 cap) l) (hK : K ≤ w.heap.size) (hsz : l.length + 9 ≤ 140737488355328) :
    Calls Tryd.prog 35 #[.slice A n0 cap, .int .u64 (n : Int)] w (App w K (.slice A n0 cap) (l ++ numB n)) := by
  have hc := behind_any n w h1
  have hk8 := kN_le n
  have hk1 := kN_pos h0 (by omega)
  have hlen : (l ++ numB n).length = l.length + 1 + kN n := by rw [List.length_append, numB_length]; omega
  have hfin : l ++ numB n = (l ++ [UInt8.ofNat (247 + kN n)]) ++ beTo (u64N n) (kN n) (kN n) := by rw [numB_high h0, u64N_cast h1, beTo_all, List.append_assoc]
  have hcell0 : [Value.int .u8 (247 + (kN n : Int))] = [UInt8.ofNat (247 + kN n)].map bv := by simp [bv]; omega
  generalize kN n = k at *
  have HC := Lib.hid hc
  have HLEN := Lib.hid hlen
  have HFIN := Lib.hid hfin
  have HCELL := Lib.hid hcell0
  have hn0 := ho.bs.2
  have HN0 := Lib.hid hn0
  clear hc hlen hfin hcell0 hn0
  have hkz : ¬ ((k : Int) = 0) := by omega
  go_enter Tryd.func35, Tryd.ntmps35
  go_wp2_with (first
    | (go_at_call 38; refine HC.out.mono ?_; rintro e w' ⟨rfl, rfl⟩)
    | (at_builtin; refine wpList_app _ rfl (.tmp 16) (.tmp 20) rfl K (.slice A n0 cap) l rfl (ho.alloc _) (some ⟨w.heap.size, 0, none⟩) 1 1 [UInt8.ofNat (247 + k)] rfl rfl _ (lit_bsH w _ w.heap.size rfl _ 1 _ (show [Value.int .u8 (247 + (k : Int))] = _ from HCELL.out) rfl (by decide)) (l.length + 1) rfl (by simp; omega) (by simp; omega) ?_; intro A6 c6 w6 hown6 hgrow6 hat6))
  have G6 : Gr w w6 (.slice A n0 cap) (.slice A6 (l.length + 1) c6) := (Gr.refl _ _).step _ hgrow6 hat6
  have hl1 : (l ++ [UInt8.ofNat (247 + k)]).length = l.length + 1 := by rw [List.length_append]; rfl
  generalize l ++ [UInt8.ofNat (247 + k)] = m at *
  have HL1 := Lib.hid hl1
  clear hgrow6 hat6 ho hl1
  go_loopw [0, 6] (fun v s wr => ∃ (j nn c5 : Nat) (A5 : Option Addr) (sI : Int), j ≤ k ∧ s = .int .i64 sI ∧ sI ≤ 8 * (k : Int) - 8 - 8 * (j : Int) ∧ 8 * (k : Int) - 8 - 8 * (j : Int) ≤ sI ∧ v = .slice A5 nn c5 ∧ Ob wr K (.slice A5 nn c5) (m ++ beTo (u64N n) k j) ∧ Gr w wr (.slice A n0 cap) (.slice A5 nn c5)) (fun _ s _ => (intOf s + 8).toNat)
  case atStart => exact ⟨0, l.length + 1, c6, A6, _, by omega, rfl, by omega, by omega, rfl, by rw [beTo_zero, List.append_nil]; exact hown6, G6⟩
  case round =>
    obtain ⟨j, nn, c5, A5, sI, hj, rfl, hs1, hs2, rfl, hob5, hg5⟩ := hrel
    have z5 := hg5.g.size
    have hnn := hob5.bs.2
    have hnb : nn = l.length + 1 + j := by rw [hnn, List.length_append, beTo_length, HL1.out]
    have HNN := Lib.hid hnn
    have HNB := Lib.hid hnb
    clear hnn hnb hown6 G6
    by_cases hlt : j < k
    · have q0 : (0 : Int) ≤ sI := by omega
      have q1 : sI ≤ 56 := by omega
      have hsc := shift_cell (n : Int) sI j k hk8 hlt hs1 hs2
      have HSC := Lib.hid hsc
      clear hsc
      go_wp2_with (at_builtin; go_loud (refine wpList_app _ rfl (.tmp 29) (.tmp 34) rfl K (.slice A5 nn c5) (m ++ beTo (u64N n) k j) rfl (hob5.alloc _) (some ⟨wr.heap.size, 0, none⟩) 1 1 [UInt8.ofNat (u64N n / 256 ^ (k - 1 - j))] rfl rfl _ (lit_bsH wr _ wr.heap.size rfl _ 1 _ (show [Value.int .u8 ((n : Int) / 2 ^ sI.toNat % 256)] = _ by rw [HSC.out]; rfl) rfl (by decide)) (nn + 1) (by rw [← HNN.out]; rfl) (by rw [← HNN.out, HNB.out]; simp; omega) (by simp; omega) ?_; intro A7 c7 w7 hown7 hgrow7 hat7))
      go_roundw
      case rel => first | exact ⟨j + 1, nn + 1, c7, A7, _, by omega, rfl, by omega, by omega, rfl, by rw [beTo_succ, ← List.append_assoc]; exact hown7, hg5.step _ hgrow7 hat7⟩ | ((repeat apply Exists.intro); exact ⟨⟨j + 1, nn + 1, c7, A7, sI - 8, by omega, rfl, by omega, by omega, rfl, by rw [beTo_succ, ← List.append_assoc]; exact hown7, hg5.step _ hgrow7 hat7⟩, rfl⟩)
      case measure => simp [intOf]; omega
    · have hj8 : j = k := by omega
      subst hj8
      have q0 : sI < 0 := by omega
      go_wp2
      go_ret
      rw [← HFIN.out] at hob5
      have e : nn = (l ++ numB n).length := hob5.bs.2
      subst e
      exact ⟨A5, c5, rfl, hob5, hg5⟩

/-- A number behind bytes. -/
theorem appendNum_any (n : Nat) (h1 : n ≤ 18446744073709551615) (K : Nat) (A : Option Addr) (n0 cap : Nat) (l : List UInt8) (w : World) (ho : Ob w K (.slice A n0 cap) l) (hK : K ≤ w.heap.size) (hsz : l.length + 9 ≤ 140737488355328) :
    Calls Tryd.prog 35 #[.slice A n0 cap, .int .u64 (n : Int)] w (App w K (.slice A n0 cap) (l ++ numB n)) := by
  rcases Nat.lt_or_ge 247 n with h | h
  · exact appendNum_high n h h1 K A n0 cap l w ho hK hsz
  · exact appendNum_low n h K A n0 cap l w ho hK hsz

/-- A nil writer lays nothing. -/
theorem wnum_nil (n : Int) (w : World) : Calls Tryd.prog 25 #[.pointer none, .int .u64 n] w fun e w' => e = .returned (.tuple #[]) ∧ w = w' := by
  go_enter Tryd.func25, Tryd.ntmps25
  go_wp2
  go_end0
  exact ⟨rfl, rfl⟩
end Go.Proofs.YtojkbndaleiaaaaDoor
