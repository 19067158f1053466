/- The document's Seal. -/
import Derived.Test.YtldflhledobfnaaSeal
import Derived.Test.YtldflhledobfnaaRefCrc
import Derived.LoopTactic
namespace Go.Proofs.Ytldflhledobfnaa
open Go.RowKit

theorem hd4_cells (k : UInt8) (n : Nat) (h : n ≤ 1048576) : [bv k, .int .u8 ((n : Int) / 65536), .int .u8 ((n : Int) / 256 % 256), .int .u8 ((n : Int) % 256)] = (hd4 k n).map bv := by
  have := head_cells k n h
  simp only [List.map_cons, List.cons.injEq] at this
  exact this.2
theorem le4_step (c j : Nat) (hj : j < 4) : (le4 c).take j ++ [UInt8.ofNat (c / 256 ^ j)] = (le4 c).take (j + 1) := by
  match j, hj with
  | 0, _ => simp [le4]
  | 1, _ => simp [le4]
  | 2, _ => simp [le4]
  | 3, _ => simp [le4]
theorem le4_byte (x : Nat) : [Value.int .u8 ((x : Int) % 256)] = [UInt8.ofNat x].map bv := by simp [bv]
theorem le4_len (c j : Nat) (hj : j ≤ 4) : ((le4 c).take j).length = j := by simp [le4]; omega

theorem refCrc_zero (K : Nat) (A : Option Addr) (n cap : Nat) (l : List UInt8) (w : World) (hn : l.length = n) (hb : Bs w K A cap l) :
    Calls Try.prog 9 #[.int .u32 0, .slice A n cap] w fun e w' => e = .returned (.int .u32 (crcN 0 l : Int)) ∧ w = w' := by
  subst hn
  exact refCrc_any 0 (by omega) K A cap l w hb

set_option maxHeartbeats 1600000 in
theorem refSeal_ok (k : UInt8) (K : Nat) (A : Option Addr) (cap : Nat) (l : List UInt8) (w : World) (hb : Bs w K A cap l) (hK : K ≤ w.heap.size) (hl : l.length ≤ 1048576) :
    Calls Try.prog 11 #[bv k, .slice A l.length cap] w (SealPost w k l) := by
  have hle := hb.le
  have hmax := hb.max
  unfold maxLen at hmax
  have hs := sumB_lt k l
  have in1 := fun cs hcs => lit_bsH w 5 w.heap.size rfl cs 4 (hd4 k l.length) hcs rfl (by decide)
  have IN1 := Lib.hid in1
  clear in1
  have H1 : w.heap.size < w.heap.size + 1 := by omega
  go_enter Try.func11, Try.ntmps11
  go_wp2_with (first
    | (at_builtin; refine wpList_app _ rfl (.tmp 28) (.tmp 29) rfl (w.heap.size + 1) (.slice (some ⟨w.heap.size + 1, 0, none⟩) 0 0) [] rfl (lit_ob _ (w.heap.size + 1) (w.heap.size + 1) (by simp) (by omega) _ 0 [] rfl rfl (by decide)) (some ⟨w.heap.size, 0, none⟩) 4 4 (hd4 k l.length) rfl rfl (w.heap.size + 1) (Bs.alloc (IN1.out _ (hd4_cells k _ hl)) (by simp) _) 4 rfl (by simp [hd4]) (by simp) ?_; intro A2 cap2 w2 hown2 hgrow2 hat2; have B2 : Below (w.heap.size + 1) (w.alloc (.cells _ _)) w2 := grown_below ((Below.refl _ _).alloc (by simp) _) hgrow2 (by simp) (by simp [Value.ownBlock]); have z2 := B2.size; have IN2 := (IN1.out _ (hd4_cells k _ hl)).below B2; have BB2 : Below w.heap.size w w2 := ((Below.refl _ w).alloc (Nat.le_refl _) _).trans (B2.mono (by omega)); simp at z2)
    | (at_builtin; refine wpList_app _ rfl (.tmp 30) (.tmp 31) rfl (w.heap.size + 1) _ (hd4 k l.length) rfl hown2 A l.length cap l rfl rfl _ (hb.below (BB2.mono hK)) (4 + l.length) (by simp [hd4]) (by simp [hd4]; omega) (by omega) ?_; intro A3 cap3 w3 hown3 hgrow3 hat3; have B3 : Below (w.heap.size + 1) w2 w3 := grown_below (Below.refl _ _) hgrow3 (by omega) (fun _ h => (hown2.lt _ h).1); have z3 := B3.size; have IN3 := IN2.below B3; have BB3 : Below w.heap.size w w3 := BB2.trans (B3.mono (by omega)))
    | (go_at_call 9; refine (refCrc_zero _ A3 _ cap3 (hd4 k l.length ++ l) _ (by simp [hd4]; omega) hown3.bs.1).mono ?_; rintro e w' ⟨rfl, rfl⟩)
    | (at_builtin; refine wpList_app _ rfl (.tmp 36) (.tmp 37) rfl w.heap.size (.slice (some ⟨w3.heap.size, 0, none⟩) 1 1) [167] rfl (lit_ob w3 w.heap.size _ rfl (by omega) _ 1 [167] rfl rfl (by decide)) (some ⟨w.heap.size, 0, none⟩) 4 4 (hd4 k l.length) rfl rfl (w.heap.size + 1) (IN3.alloc (by omega) _) 5 rfl (by simp [hd4]) (by simp; omega) ?_; intro A4 cap4 w4 hown4 hgrow4 hat4; have BB4 : Below w.heap.size w w4 := grown_below (BB3.alloc (by omega) _) hgrow4 (by simp; omega) (by simp [Value.ownBlock]; omega)))
  change Ob w4 w.heap.size (.slice A4 5 cap4) (167 :: hd4 k l.length) at hown4
  have es : crcN 0 (hd4 k l.length ++ l) = sumB k l := rfl
  rw [es]
  clear es hown2 hown3 hgrow2 hgrow3 hgrow4 hat2 hat3 hat4 B2 B3 IN1 IN2 IN3 BB2 BB3 z2 z3
  generalize hc : sumB k l = c at hs ⊢
  have Hc := Lib.hid hc
  clear hc
  go_loopw [9, 10, 11] (fun cv v i wr => ∃ j A' cap', j ≤ 4 ∧ i = .int .i64 (j : Nat) ∧ cv = .int .u32 ((c / 256 ^ j : Nat) : Int) ∧ v = .slice A' (5 + j) cap' ∧ Ob wr w.heap.size (.slice A' (5 + j) cap') (167 :: hd4 k l.length ++ (le4 c).take j) ∧ Below w.heap.size w wr) (fun _ _ i _ => 4 - (intOf i).toNat)
  case atStart => exact ⟨0, A4, cap4, by omega, rfl, by simp, rfl, by simpa using hown4, BB4⟩
  case round =>
    obtain ⟨j, A5, cap5, hj, rfl, rfl, rfl, hown5, BB5⟩ := hrel
    have z5 := BB5.size
    by_cases hlt : j < 4
    · have hd : c / 256 ^ j / 256 = c / 256 ^ (j + 1) := by rw [Nat.div_div_eq_div_mul, Nat.pow_succ]
      have hst := le4_step c j hlt
      have hx : c / 256 ^ j < 4294967296 := Nat.lt_of_le_of_lt (Nat.div_le_self _ _) hs
      have hln := le4_len c j hj
      generalize c / 256 ^ j = x at *
      have Hd := Lib.hid hd
      have Hst := Lib.hid hst
      have Hln := Lib.hid hln
      clear hd hst hln
      go_wp2_with (at_builtin; refine wpList_app _ rfl (.tmp 43) (.tmp 47) rfl w.heap.size _ (167 :: hd4 k l.length ++ (le4 c).take j) rfl (hown5.alloc _) (some ⟨wr.heap.size, 0, none⟩) 1 1 [UInt8.ofNat x] rfl rfl _ (lit_bsH wr _ wr.heap.size rfl _ 1 _ (le4_byte x) rfl (by decide)) (5 + j + 1) (by simp [hd4, Hln.out]; omega) (by simp [hd4, Hln.out]; omega) (by simp; omega) ?_; intro A6 cap6 w6 hown6 hgrow6 hat6; have BB6 : Below w.heap.size w w6 := grown_below (BB5.alloc z5 _) hgrow6 (by simp; omega) (fun _ h => (hown5.lt _ h).1))
      go_roundw
      case rel => exact ⟨j + 1, A6, cap6, by omega, by go_num, by rw [← Hd.out]; go_num, by rw [Nat.add_assoc], by rw [← Nat.add_assoc, ← Hst.out, ← List.append_assoc]; exact hown6, BB6⟩
      case measure => simp [intOf]; omega
    · have hj4 : j = 4 := by omega
      subst hj4
      have hl4 : (le4 c).take 4 = le4 c := rfl
      rw [hl4] at hown5
      clear hl4
      generalize c / 256 ^ 4 = y
      go_wp2_with (at_builtin; refine wpList_app _ rfl (.tmp 51) (.tmp 52) rfl w.heap.size _ (167 :: hd4 k l.length ++ le4 c) rfl hown5 A l.length cap l rfl rfl _ (hb.below (BB5.mono hK)) (9 + l.length) (by simp [hd4, le4] <;> omega) (by simp [hd4, le4] <;> omega) z5 ?_; intro A6 cap6 w6 hown6 hgrow6 hat6; have BB6 : Below w.heap.size w w6 := grown_below BB5 hgrow6 z5 (fun _ h => (hown5.lt _ h).1))
      go_ret2
      refine ⟨A6, cap6, rfl, ?_, BB6⟩
      have := Hc.out
      subst this
      exact hown6
end Go.Proofs.Ytldflhledobfnaa
