/- A reader's other methods. -/
import Derived.Test.YtcgkbpjfbahleaaRows
import Derived.Test.YtcgkbpjfbahleaaChZ
import Derived.Test.YtcgkbpjfbahleaaProg
import Derived.Shelf.Small.Bits
import Derived.Lib.BitFns
import Derived.WalkSpells
import Derived.LoopTactic
import Derived.Maps.Range
import Derived.Handy
import Derived.BigRegion
import Derived.Laws.BitsLemmas
import Derived.Laws.Bits64b
import Derived.Lib.Zigzag
import Derived.Lib.AppendStr
import Derived.Deep.RegionLaw
namespace Go.Proofs.Ytcgkbpjfbahleaa
open Go.RowKit
open Go.Shelf
def sh_lays129_ren : Go.Shelf.Ren := ⟨fun | 129 => 54 | n => n, fun | 53 => 80 | 3 => 3 | 4 => 4 | 46 => 90 | 5 => 5 | 9 => 9 | n => n, fun | n => n⟩
theorem sh_lays129 : Go.Proofs.Lays.n129 Try.prog sh_lays129_ren := {
  mixed := by kernel_rfl
  f129 := Try.func54.trans (congrArg some (by kernel_rfl))
  t3 := Try.underlying3
  a3 := Try.isAgg3
  z3 := Try.sizeOf3
  v3 := Try.zeroValue3
  t4 := Try.underlying4
  a4 := Try.isAgg4
  z4 := Try.sizeOf4
  v4 := Try.zeroValue4
  t5 := Try.underlying5
  a5 := Try.isAgg5
  z5 := Try.sizeOf5
  v5 := Try.zeroValue5
  t9 := Try.underlying9
  a9 := Try.isAgg9
  z9 := Try.sizeOf9
  v9 := Try.zeroValue9
  t46 := Try.underlying90
  a46 := Try.isAgg90
  z46 := Try.sizeOf90
  v46 := Try.zeroValue90
  t53 := Try.underlying80
  a53 := Try.isAgg80
  z53 := Try.sizeOf80
  v53 := Try.zeroValue80 }

theorem len64_any (x : Nat) (w : World) (h1 : x ≤ 18446744073709551615) :
    Calls Try.prog 54 #[.int .u64 (x : Int)] w fun e w' => e = .returned (.int .i64 (Lib.bitLen x)) ∧ w = w' := (Any.bits_Len64 sh_lays129 x w (by omega) (by omega)).mono fun _ _ h => ⟨h.1, h.2.symm⟩
end Go.Proofs.Ytcgkbpjfbahleaa
/- A stamp's bytes, as plain lists. -/
namespace Go.Proofs.Ytcgkbpjfbahleaa

/-- A number's k bytes, the highest first. -/
def beN (u k : Nat) : List UInt8 := (List.range k).map fun i => UInt8.ofNat (u / 256 ^ (k - 1 - i))
/-- The first j of them. -/
def beTo (u k j : Nat) : List UInt8 := (List.range j).map fun i => UInt8.ofNat (u / 256 ^ (k - 1 - i))
theorem beTo_all (u k : Nat) : beTo u k k = beN u k := rfl
theorem beTo_zero (u k : Nat) : beTo u k 0 = [] := rfl
theorem beTo_succ (u k j : Nat) : beTo u k (j + 1) = beTo u k j ++ [UInt8.ofNat (u / 256 ^ (k - 1 - j))] := by
  simp [beTo, List.range_succ]
theorem beN_length (u k : Nat) : (beN u k).length = k := by simp [beN]
theorem beTo_length (u k j : Nat) : (beTo u k j).length = j := by simp [beTo]
theorem beN_get (u k i : Nat) (h : i < k) : (beN u k).getD i 0 = UInt8.ofNat (u / 256 ^ (k - 1 - i)) := by simp [beN, h]
/-- Sixty-four bits of an int. -/
def u64N (a : Int) : Nat := (a % 18446744073709551616).toNat
theorem u64N_lt (a : Int) : u64N a < 18446744073709551616 := by unfold u64N; omega
def putB (a b c : Int) : List UInt8 := beN (u64N a) 8 ++ beN (u64N b) 4 ++ beN (u64N c) 4
theorem putB_length (a b c : Int) : (putB a b c).length = 16 := by simp [putB, beN_length]

theorem byte_shift (a : Int) (q : Nat) (h : q ≤ 7) : a / (2 ^ (8 * q) : Int) % 256 = ((UInt8.ofNat (u64N a / 256 ^ q)).toNat : Int) := by
  have e : ((UInt8.ofNat (u64N a / 256 ^ q)).toNat : Int) = ((u64N a / 256 ^ q : Nat) : Int) % 256 := by simp
  rw [e]
  unfold u64N
  rcases (show q = 0 ∨ q = 1 ∨ q = 2 ∨ q = 3 ∨ q = 4 ∨ q = 5 ∨ q = 6 ∨ q = 7 by omega) with rfl | rfl | rfl | rfl | rfl | rfl | rfl | rfl <;> simp only [Nat.reduceMul, Nat.reducePow, Int.reducePow] <;> omega
end Go.Proofs.Ytcgkbpjfbahleaa
namespace Go.Proofs.Ytcgkbpjfbahleaa

theorem bitLenAux_le : ∀ (f x : Nat), Lib.bitLenAux f x ≤ f
  | 0, _ => Nat.le_refl _
  | f + 1, x => by
    unfold Lib.bitLenAux
    split
    · omega
    · have := bitLenAux_le f (x / 2); omega
theorem bitLen_le (x : Nat) : Lib.bitLen x ≤ 64 := bitLenAux_le 64 x
/-- How many bytes stand behind a number's first one. -/
def kN (n : Nat) : Nat := if n ≤ 247 then 0 else (Lib.bitLen n + 7) / 8
theorem kN_le (n : Nat) : kN n ≤ 8 := by
  have := bitLen_le n
  unfold kN; split <;> omega
theorem kN_low {n : Nat} (h : n ≤ 247) : kN n = 0 := if_pos h
theorem kN_high {n : Nat} (h : 247 < n) : kN n = (Lib.bitLen n + 7) / 8 := if_neg (by omega)
theorem kN_pos {n : Nat} (h : 247 < n) (h2 : n < 18446744073709551616) : 1 ≤ kN n := by
  rw [kN_high h]
  have := Lib.bitLen_half n (by omega) h2
  omega
def numB (n : Nat) : List UInt8 := if n ≤ 247 then [UInt8.ofNat n] else UInt8.ofNat (247 + kN n) :: beN n (kN n)
theorem numB_low {n : Nat} (h : n ≤ 247) : numB n = [UInt8.ofNat n] := if_pos h
theorem numB_high {n : Nat} (h : 247 < n) : numB n = [UInt8.ofNat (247 + kN n)] ++ beN n (kN n) := if_neg (by omega)
theorem numB_length (n : Nat) : (numB n).length = 1 + kN n := by
  unfold numB
  by_cases h : n ≤ 247
  · rw [if_pos h, kN_low h]; rfl
  · rw [if_neg h]; simp [beN_length]; omega
end Go.Proofs.Ytcgkbpjfbahleaa
namespace Go.Proofs.Ytcgkbpjfbahleaa
open Go.RowKit

theorem grown_below {W w w1 : World} {v : Value} {B : Nat} (h : Below B W w) (hg : w.grownBy w1 v.ownBlock) (hB : B ≤ w.heap.size) (ho : ∀ k, v.ownBlock = some k → B ≤ k) : Below B W w1 := h.grown hg hB ho
/-- A new slice with the bytes l; nothing else has turned. -/
def NewBytes (w : World) (l : List UInt8) (e : Ending) (w' : World) : Prop :=
  ∃ A' cap', e = .returned (.slice A' l.length cap') ∧ Ob w' w.heap.size (.slice A' l.length cap') l ∧ Below w.heap.size w w'

theorem clone_any (K : Nat) (A : Option Addr) (n cap : Nat) (l : List UInt8) (w : World) (hn : l.length = n) (hb : Bs w K A cap l) (hK : K ≤ w.heap.size) (hsz : l.length ≤ 140737488355328) :
    Calls Try.prog 39 #[.slice A n cap] w (NewBytes w l) := by
  subst hn
  have hle := hb.le
  have hmax := hb.max
  unfold maxLen at hmax
  cases A with
  | none =>
    have hc := hb.nil rfl
    have hl : l = [] := List.eq_nil_of_length_eq_zero (by omega)
    subst hl hc
    have hq := Lib.run_eql_slice_nil (P := Try.prog) w 53 5 none 0 0 0 0 Try.underlying53
    go_enter Try.func39, Try.ntmps39
    go_wp2
    go_ret
    exact ⟨none, 0, rfl, Ob.empty _ _, Below.refl _ _⟩
  | some ad =>
    have hq := Lib.run_eql_slice_nil (P := Try.prog) w 53 5 (some ad) l.length cap 0 0 Try.underlying53
    go_enter Try.func39, Try.ntmps39
    go_wp2_with (at_builtin; refine wpList_app _ rfl (.tmp 5) (.tmp 6) rfl w.heap.size (.slice (some ⟨w.heap.size, 0, none⟩) 0 0) [] rfl (lit_ob _ w.heap.size w.heap.size rfl (Nat.le_refl _) _ 0 [] rfl rfl (by decide)) (some ad) l.length cap l rfl rfl K (hb.alloc hK _) l.length (by simp) (by simpa using hsz) (by simp) ?_; intro A2 cap2 w2 hown2 hgrow2 hat2; have B2 : Below w.heap.size w w2 := grown_below ((Below.refl _ _).alloc (Nat.le_refl _) _) hgrow2 (by simp) (by simp [Value.ownBlock]))
    go_ret
    exact ⟨A2, cap2, rfl, hown2, B2⟩
end Go.Proofs.Ytcgkbpjfbahleaa
namespace Go.Proofs.Ytcgkbpjfbahleaa
open Go.RowKit

def preB (a b c : Int) : Nat → List UInt8
  | 0 => []
  | 1 => beN (u64N a) 8
  | 2 => beN (u64N a) 8 ++ beN (u64N b) 4
  | _ => putB a b c

theorem shift_cell (n sI : Int) (j wd : Nat) (hw : wd ≤ 8) (hj : j < wd) (h1 : sI ≤ 8 * (wd : Int) - 8 - 8 * (j : Int)) (h2 : 8 * (wd : Int) - 8 - 8 * (j : Int) ≤ sI) :
    n / 2 ^ sI.toNat % 256 = ((UInt8.ofNat (u64N n / 256 ^ (wd - 1 - j))).toNat : Int) := by
  have e : sI.toNat = 8 * (wd - 1 - j) := by omega
  rw [e]
  exact byte_shift n _ (by omega)

end Go.Proofs.Ytcgkbpjfbahleaa
namespace Go.Proofs.Ytcgkbpjfbahleaa
open Go.RowKit

theorem behind_any (n : Nat) (w : World) (h1 : n ≤ 18446744073709551615) :
    Calls Try.prog 52 #[.int .u64 (n : Int)] w fun e w' => e = .returned (.int .i64 (kN n : Int)) ∧ w = w' := by
  have hc := len64_any n w h1
  have HC := Lib.hid hc
  have hb := bitLen_le n
  by_cases h : n ≤ 247
  · have hk := kN_low h
    rw [hk]
    clear hc hk hb
    go_enter Try.func52, Try.ntmps52
    go_wp2_with fail
    go_ret
    exact ⟨rfl, rfl⟩
  · have hk := kN_high (n := n) (by omega)
    rw [hk]
    clear hc hk
    generalize Lib.bitLen n = b at *
    have hn : ¬ ((n : Int) ≤ 247) := by omega
    go_enter Try.func52, Try.ntmps52
    go_wp2_with (go_at_call 54; refine HC.out.mono ?_; rintro e w' ⟨rfl, rfl⟩)
    go_ret
    exact ⟨ret_int (by omega), rfl⟩

/-- What an append did: the old row may have grown in place, or the new one is new. -/
structure Gr (w w' : World) (v v' : Value) : Prop where
  g : w.grownBy w' v.ownBlock
  o : v'.ownBlock = v.ownBlock ∨ ∃ j, v'.ownBlock = some j ∧ w.heap.size ≤ j
theorem Gr.refl (w : World) (v : Value) : Gr w w v v := ⟨⟨rfl, rfl, rfl, Nat.le_refl _, fun _ _ _ => rfl⟩, .inl rfl⟩
theorem Gr.step {w w1 w2 : World} {v v1 v2 : Value} (h : Gr w w1 v v1) (o : Obj) (k : (w1.alloc o).grownBy w2 v1.ownBlock) (ho : v2.ownBlock = v1.ownBlock ∨ v2.ownBlock = some (w1.alloc o).heap.size) : Gr w w2 v v2 := by
  have h1 : w.grownBy (w1.alloc o) v.ownBlock := h.g.andThen (World.grownBy_alloc w1 o none) (fun _ e => by cases e)
  refine ⟨h1.andThen k fun j hj => ?_, ?_⟩
  · rcases h.o with e | ⟨i, e, hi⟩
    · exact .inr (e ▸ hj)
    · rw [e] at hj; cases hj; exact .inl hi
  · rcases ho with e | e
    · rw [e]; exact h.o
    · exact .inr ⟨_, e, h1.size⟩
def App (w : World) (K : Nat) (v : Value) (l : List UInt8) (e : Ending) (w' : World) : Prop :=
  ∃ A' c', e = .returned (.slice A' l.length c') ∧ Ob w' K (.slice A' l.length c') l ∧ Gr w w' v (.slice A' l.length c')

set_option maxHeartbeats 1600000 in
theorem appendNum_low (n : Nat) (h1 : n ≤ 247) (K : Nat) (A : Option Addr) (n0 cap : Nat) (l : List UInt8) (w : World) (ho : Ob w K (.slice A n0 cap) l) (hK : K ≤ w.heap.size) (hsz : l.length + 9 ≤ 140737488355328) :
    Calls Try.prog 49 #[.slice A n0 cap, .int .u64 (n : Int)] w (App w K (.slice A n0 cap) (l ++ numB n)) := by
  have hc := behind_any n w (by omega)
  rw [kN_low h1] at hc
  rw [numB_low h1]
  have HC := Lib.hid hc
  clear hc
  have hcell : [Value.int .u8 (n : Int)] = [UInt8.ofNat n].map bv := by simp [bv]; omega
  have HCELL := Lib.hid hcell
  clear hcell
  have hn0 := ho.bs.2
  have HN0 := Lib.hid hn0
  clear hn0
  go_enter Try.func49, Try.ntmps49
  go_wp2_with (first
    | (go_at_call 52; refine HC.out.mono ?_; rintro e w' ⟨rfl, rfl⟩)
    | (at_builtin; refine wpList_app _ rfl (.tmp 11) (.tmp 14) rfl K (.slice A n0 cap) l rfl (ho.alloc _) (some ⟨w.heap.size, 0, none⟩) 1 1 [UInt8.ofNat n] rfl rfl _ (lit_bsH w _ w.heap.size rfl _ 1 _ (show [Value.int .u8 (n : Int)] = _ from HCELL.out) rfl (by decide)) (l ++ [UInt8.ofNat n]).length (by simp) (by simp; omega) (by simp; omega) ?_; intro A6 c6 w6 hown6 hgrow6 hat6))
  go_ret
  exact ⟨A6, c6, by rw [List.length_append]; rfl, hown6, (Gr.refl _ _).step _ hgrow6 hat6⟩
end Go.Proofs.Ytcgkbpjfbahleaa
namespace Go.Proofs.Ytcgkbpjfbahleaa
open Go.RowKit

theorem u64N_cast {n : Nat} (h : n ≤ 18446744073709551615) : u64N (n : Int) = n := by unfold u64N; omega

set_option maxRecDepth 100000 in
set_option maxHeartbeats 3200000 in
theorem appendNum_high (n : Nat) (h0 : 247 < n) (h1 : n ≤ 18446744073709551615) (K : Nat) (A : Option Addr) (n0 cap : Nat) (l : List UInt8) (w : World) (ho : Ob w K (.slice A n0 cap) l) (hK : K ≤ w.heap.size) (hsz : l.length + 9 ≤ 140737488355328) :
    Calls Try.prog 49 #[.slice A n0 cap, .int .u64 (n : Int)] w (App w K (.slice A n0 cap) (l ++ numB n)) := by
  have hc := behind_any n w h1
  have hk8 := kN_le n
  have hk1 := kN_pos h0 (by omega)
  have hlen : (l ++ numB n).length = l.length + 1 + kN n := by rw [List.length_append, numB_length]; omega
  have hfin : l ++ numB n = (l ++ [UInt8.ofNat (247 + kN n)]) ++ beTo (u64N n) (kN n) (kN n) := by rw [numB_high h0, u64N_cast h1, beTo_all, List.append_assoc]
  have hcell0 : [Value.int .u8 (247 + (kN n : Int))] = [UInt8.ofNat (247 + kN n)].map bv := by simp [bv]; omega
  generalize kN n = k at *
  have HC := Lib.hid hc
  have HLEN := Lib.hid hlen
  have HFIN := Lib.hid hfin
  have HCELL := Lib.hid hcell0
  have hn0 := ho.bs.2
  have HN0 := Lib.hid hn0
  clear hc hlen hfin hcell0 hn0
  have hkz : ¬ ((k : Int) = 0) := by omega
  go_enter Try.func49, Try.ntmps49
  go_wp2_with (first
    | (go_at_call 52; refine HC.out.mono ?_; rintro e w' ⟨rfl, rfl⟩)
    | (at_builtin; refine wpList_app _ rfl (.tmp 16) (.tmp 20) rfl K (.slice A n0 cap) l rfl (ho.alloc _) (some ⟨w.heap.size, 0, none⟩) 1 1 [UInt8.ofNat (247 + k)] rfl rfl _ (lit_bsH w _ w.heap.size rfl _ 1 _ (show [Value.int .u8 (247 + (k : Int))] = _ from HCELL.out) rfl (by decide)) (l.length + 1) rfl (by simp; omega) (by simp; omega) ?_; intro A6 c6 w6 hown6 hgrow6 hat6))
  have G6 : Gr w w6 (.slice A n0 cap) (.slice A6 (l.length + 1) c6) := (Gr.refl _ _).step _ hgrow6 hat6
  have hl1 : (l ++ [UInt8.ofNat (247 + k)]).length = l.length + 1 := by rw [List.length_append]; rfl
  generalize l ++ [UInt8.ofNat (247 + k)] = m at *
  have HL1 := Lib.hid hl1
  clear hgrow6 hat6 ho hl1
  go_loopw [0, 6] (fun v s wr => ∃ (j nn c5 : Nat) (A5 : Option Addr) (sI : Int), j ≤ k ∧ s = .int .i64 sI ∧ sI ≤ 8 * (k : Int) - 8 - 8 * (j : Int) ∧ 8 * (k : Int) - 8 - 8 * (j : Int) ≤ sI ∧ v = .slice A5 nn c5 ∧ Ob wr K (.slice A5 nn c5) (m ++ beTo (u64N n) k j) ∧ Gr w wr (.slice A n0 cap) (.slice A5 nn c5)) (fun _ s _ => (intOf s + 8).toNat)
  case atStart => exact ⟨0, l.length + 1, c6, A6, _, by omega, rfl, by omega, by omega, rfl, by rw [beTo_zero, List.append_nil]; exact hown6, G6⟩
  case round =>
    obtain ⟨j, nn, c5, A5, sI, hj, rfl, hs1, hs2, rfl, hob5, hg5⟩ := hrel
    have z5 := hg5.g.size
    have hnn := hob5.bs.2
    have hnb : nn = l.length + 1 + j := by rw [hnn, List.length_append, beTo_length, HL1.out]
    have HNN := Lib.hid hnn
    have HNB := Lib.hid hnb
    clear hnn hnb hown6 G6
    by_cases hlt : j < k
    · have q0 : (0 : Int) ≤ sI := by omega
      have q1 : sI ≤ 56 := by omega
      have hsc := shift_cell (n : Int) sI j k hk8 hlt hs1 hs2
      have HSC := Lib.hid hsc
      clear hsc
      go_wp2_with (at_builtin; go_loud (refine wpList_app _ rfl (.tmp 29) (.tmp 34) rfl K (.slice A5 nn c5) (m ++ beTo (u64N n) k j) rfl (hob5.alloc _) (some ⟨wr.heap.size, 0, none⟩) 1 1 [UInt8.ofNat (u64N n / 256 ^ (k - 1 - j))] rfl rfl _ (lit_bsH wr _ wr.heap.size rfl _ 1 _ (show [Value.int .u8 ((n : Int) / 2 ^ sI.toNat % 256)] = _ by rw [HSC.out]; rfl) rfl (by decide)) (nn + 1) (by rw [← HNN.out]; rfl) (by rw [← HNN.out, HNB.out]; simp; omega) (by simp; omega) ?_; intro A7 c7 w7 hown7 hgrow7 hat7))
      go_roundw
      case rel => first | exact ⟨j + 1, nn + 1, c7, A7, _, by omega, rfl, by omega, by omega, rfl, by rw [beTo_succ, ← List.append_assoc]; exact hown7, hg5.step _ hgrow7 hat7⟩ | ((repeat apply Exists.intro); exact ⟨⟨j + 1, nn + 1, c7, A7, sI - 8, by omega, rfl, by omega, by omega, rfl, by rw [beTo_succ, ← List.append_assoc]; exact hown7, hg5.step _ hgrow7 hat7⟩, rfl⟩)
      case measure => simp [intOf]; omega
    · have hj8 : j = k := by omega
      subst hj8
      have q0 : sI < 0 := by omega
      go_wp2
      go_ret
      rw [← HFIN.out] at hob5
      have e : nn = (l ++ numB n).length := hob5.bs.2
      subst e
      exact ⟨A5, c5, rfl, hob5, hg5⟩

/-- A number behind bytes. -/
theorem appendNum_any (n : Nat) (h1 : n ≤ 18446744073709551615) (K : Nat) (A : Option Addr) (n0 cap : Nat) (l : List UInt8) (w : World) (ho : Ob w K (.slice A n0 cap) l) (hK : K ≤ w.heap.size) (hsz : l.length + 9 ≤ 140737488355328) :
    Calls Try.prog 49 #[.slice A n0 cap, .int .u64 (n : Int)] w (App w K (.slice A n0 cap) (l ++ numB n)) := by
  rcases Nat.lt_or_ge 247 n with h | h
  · exact appendNum_high n h h1 K A n0 cap l w ho hK hsz
  · exact appendNum_low n h K A n0 cap l w ho hK hsz

/-- A nil writer lays nothing. -/
theorem wnum_nil (n : Int) (w : World) : Calls Try.prog 38 #[.pointer none, .int .u64 n] w fun e w' => e = .returned (.tuple #[]) ∧ w = w' := by
  go_enter Try.func38, Try.ntmps38
  go_wp2
  go_end0
  exact ⟨rfl, rfl⟩
end Go.Proofs.Ytcgkbpjfbahleaa
namespace Go.Proofs.Ytcgkbpjfbahleaa
open Go.RowKit

theorem Ob.form {w : World} {K : Nat} {v : Value} {l : List UInt8} (h : Ob w K v l) : ∃ A c, v = .slice A l.length c := by
  rcases h.2 with ⟨he, h0⟩ | ⟨g, cap', cur, he, _⟩
  · exact ⟨none, 0, by rw [he, h0]⟩
  · exact ⟨_, _, he⟩

/-- A writer at block b that has laid the bytes l; its slice is v. -/
structure Wr (w : World) (K b : Nat) (v : Value) (l : List UInt8) : Prop where
  cell : w.cell? ⟨b, 0, none⟩ = some v
  fro : w.frozen? ⟨b, 0, none⟩ = false
  ob : Ob w K v l
  ne : v.ownBlock ≠ some b
  kb : K ≤ b
/-- A slice that was appended to is where it was, or new. -/
def OwnOr (w : World) (v v' : Value) : Prop := v'.ownBlock = v.ownBlock ∨ ∃ j, v'.ownBlock = some j ∧ w.heap.size ≤ j
theorem OwnOr.refl (w : World) (v : Value) : OwnOr w v v := .inl rfl
theorem OwnOr.trans {w w1 : World} {v v1 v2 : Value} (h : OwnOr w v v1) (h2 : OwnOr w1 v1 v2) (hz : w.heap.size ≤ w1.heap.size) : OwnOr w v v2 := by
  rcases h2 with e | ⟨j, e, hj⟩
  · rcases h with e' | ⟨i, e', hi⟩
    · exact .inl (e.trans e')
    · exact .inr ⟨i, e.trans e', hi⟩
  · exact .inr ⟨j, e, Nat.le_trans hz hj⟩
theorem Wr.lt {w : World} {K b : Nat} {v : Value} {l : List UInt8} (h : Wr w K b v l) : b < w.heap.size := World.block_lt_of_cell? w _ h.cell
/-- What a writer's method did: the writer's block and its slice's have turned. -/
structure Wst (w : World) (K b : Nat) (v : Value) (l : List UInt8) (e : Ending) (w' : World) (v' : Value) : Prop where
  e : e = .returned (.tuple #[])
  wr : Wr w' K b v' l
  tn : Tn (fun k => k = b ∨ v.ownBlock = some k) w w'
  own : OwnOr w v v'
theorem Wr.put {w w1 : World} {K b : Nat} {v v1 : Value} {l l1 : List UInt8} (h : Wr w K b v l) (ho : Ob w1 K v1 l1) (ht : Tn (fun k => k = b ∨ v.ownBlock = some k) w w1) (hc : w1.cell? ⟨b, 0, none⟩ = some v) (hf : w1.frozen? ⟨b, 0, none⟩ = false) (hown : OwnOr w v v1) :
    Wst w K b v l1 (.returned (.tuple #[])) (w1.setCell ⟨b, 0, none⟩ v1) v1 := by
  have hne : v1.ownBlock ≠ some b := by
    rcases hown with e | ⟨j, e, hj⟩
    · rw [e]; exact h.ne
    · rw [e]; intro e2; injection e2 with e2; have := h.lt; omega
  refine ⟨rfl, ⟨World.cell?_setCell_same' _ _ _ (by rw [hc]; rfl), ?_, ?_, hne, h.kb⟩, ht.thenQ (Tn.setCell w1 b 0 v1) (fun k _ e => .inl e), hown⟩
  · rw [World.frozen?_setCell]; exact hf
  · exact (Tn.setCell w1 b 0 v1).ob ho fun k hk e => hne (by rw [hk, e])
theorem Gr.tn {w w' : World} {v v' : Value} {b : Nat} (h : Gr w w' v v') : Tn (fun k => k = b ∨ v.ownBlock = some k) w w' :=
  ⟨h.g.os, h.g.tape, h.g.output, h.g.size, fun k hk hn => h.g.block k hk fun e => hn (.inr e.symm)⟩
theorem Wr.kept {w w1 : World} {K b : Nat} {v v' : Value} {l : List UInt8} (h : Wr w K b v l) (g : Gr w w1 v v') : w1.cell? ⟨b, 0, none⟩ = some v ∧ w1.frozen? ⟨b, 0, none⟩ = false :=
  have hb : w1.heap[b]? = w.heap[b]? := g.g.block b h.lt fun e => h.ne e.symm
  ⟨(World.cell?_of_block hb).trans h.cell, (World.frozen?_of_block hb).trans h.fro⟩

theorem Wr.tn {P : Nat → Prop} {w w' : World} {K b : Nat} {v : Value} {l : List UInt8} (h : Wr w K b v l) (t : Tn P w w') (hb : ¬ P b) (ho : ∀ k, v.ownBlock = some k → ¬ P k) : Wr w' K b v l :=
  ⟨t.cell h.cell hb, (t.frozen (p := ⟨b, 0, none⟩) h.lt hb).trans h.fro, t.ob h.ob ho, h.ne, h.kb⟩
theorem Wr.alloc {w : World} {K b : Nat} {v : Value} {l : List UInt8} (h : Wr w K b v l) (o : Obj) : Wr (w.alloc o) K b v l := h.tn (Tn.alloc (P := fun _ => False) w o) id fun _ _ h => h
theorem Wr.below {w w' : World} {K b : Nat} {v : Value} {l : List UInt8} (h : Wr w K b v l) (hb : Below w.heap.size w w') : Wr w' K b v l := h.tn (Tn.ofNew (P := fun _ => False) hb) id fun _ _ h => h
theorem Gr.belowNil {w w' : World} {v' : Value} (h : Gr w w' (.slice none 0 0) v') : Below w.heap.size w w' :=
  ⟨h.g.os, h.g.tape, h.g.output, h.g.size, fun k hk => h.g.block k hk (by simp [Value.ownBlock])⟩
theorem Gr.newNil {w w' : World} {v' : Value} {K : Nat} {l : List UInt8} (h : Gr w w' (.slice none 0 0) v') (ho : Ob w' K v' l) : Ob w' w.heap.size v' l := by
  rcases ho.2 with ⟨he, h0⟩ | ⟨g, cap', cur, he, hb, hg⟩
  · exact ⟨ho.1, .inl ⟨he, h0⟩⟩
  · refine ⟨ho.1, .inr ⟨g, cap', cur, he, ?_, hg⟩⟩
    subst he
    rcases h.o with e | ⟨j, e, hj⟩
    · cases e
    · have e' : some g = some j := e
      injection e' with e'
      omega

theorem new_any (w : World) : Calls Try.prog 22 #[] w fun e w' => e = .returned (.pointer (some ⟨w.heap.size, 0, none⟩)) ∧ w' = w.alloc (.cells #[.slice none 0 0] 77) := by
  go_enter Try.func22, Try.ntmps22
  go_wp2
  go_ret
  exact ⟨rfl, rfl⟩
theorem wr_new (w : World) (K : Nat) (hK : K ≤ w.heap.size) : Wr (w.alloc (.cells #[.slice none 0 0] 77)) K w.heap.size (.slice none 0 0) [] :=
  ⟨by simp, by simp, Ob.empty _ _, by simp [Value.ownBlock], hK⟩

set_option maxHeartbeats 800000 in
theorem wnum_any (n : Nat) (h1 : n ≤ 18446744073709551615) (K b : Nat) (v : Value) (l : List UInt8) (w : World) (h : Wr w K b v l) (hsz : l.length + 9 ≤ 140737488355328) :
    Calls Try.prog 38 #[.pointer (some ⟨b, 0, none⟩), .int .u64 (n : Int)] w fun e w' => ∃ v', Wst w K b v (l ++ numB n) e w' v' := by
  obtain ⟨A, c, rfl⟩ := h.ob.form
  have hlt := h.lt
  have hc0 := h.cell
  have hf0 := h.fro
  have hkb := h.kb
  have HX := Lib.hid h
  have HA := Lib.hid (fun w' (ho : Ob w' K (.slice A l.length c) l) (hK : K ≤ w'.heap.size) => appendNum_any n h1 K A l.length c l w' ho hK hsz)
  clear h
  generalize l ++ numB n = m at *
  go_enter Try.func38, Try.ntmps38
  go_wp2_with (go_at_call 49; refine (HA.out _ HX.out.ob (by omega)).mono ?_; rintro e w1 ⟨A', c', rfl, ho1, hg1⟩; have hk1 := HX.out.kept hg1; have hk1c := hk1.1; have hk1f := hk1.2)
  go_end0
  exact ⟨_, HX.out.put ho1 hg1.tn hk1c hk1f hg1.o⟩
end Go.Proofs.Ytcgkbpjfbahleaa
namespace Go.Proofs.Ytcgkbpjfbahleaa

def ofBE (l : List UInt8) : Nat := l.foldl (fun n b => n * 256 + b.toNat) 0
theorem ofBE_snoc (l : List UInt8) (b : UInt8) : ofBE (l ++ [b]) = ofBE l * 256 + b.toNat := by simp [ofBE]
theorem ofBE_go : ∀ (l : List UInt8) (n m : Nat), n < 256 ^ m → l.foldl (fun n b => n * 256 + b.toNat) n < 256 ^ (m + l.length)
  | [], _, _, h => h
  | b :: l, n, m, h => by
    have hb := b.toNat_lt
    have := ofBE_go l (n * 256 + b.toNat) (m + 1) (by rw [Nat.pow_succ]; omega)
    rw [show m + 1 + l.length = m + (b :: l).length by simp; omega] at this
    exact this
theorem ofBE_lt (l : List UInt8) : ofBE l < 256 ^ l.length := by
  have := ofBE_go l 0 0 (by decide)
  rwa [Nat.zero_add] at this
/-- j bytes from o on. -/
def cutN (l : List UInt8) (o j : Nat) : Nat := ofBE ((l.drop o).take j)
theorem cutN_zero (l : List UInt8) (o : Nat) : cutN l o 0 = 0 := by simp [cutN, ofBE]
theorem cutN_succ {l : List UInt8} {o j : Nat} (h : o + j < l.length) : cutN l o (j + 1) = cutN l o j * 256 + (l[o + j]).toNat := by
  have hd : j < (l.drop o).length := by simp; omega
  unfold cutN
  rw [List.take_succ_eq_append_getElem hd, ofBE_snoc]
  simp
theorem cutN_lt (l : List UInt8) (o j : Nat) : cutN l o j < 256 ^ j := by
  have := ofBE_lt ((l.drop o).take j)
  have h2 : ((l.drop o).take j).length ≤ j := List.length_take_le _ _
  exact Nat.lt_of_lt_of_le this (Nat.pow_le_pow_right (by omega) h2)
def getA (l : List UInt8) : Nat := cutN l 0 8
def getT (l : List UInt8) : Nat := cutN l 8 4
def getM (l : List UInt8) : Nat := cutN l 12 4
theorem getA_lt (l : List UInt8) : getA l < 18446744073709551616 := cutN_lt l 0 8
theorem getT_lt (l : List UInt8) : getT l < 4294967296 := cutN_lt l 8 4
theorem getM_lt (l : List UInt8) : getM l < 4294967296 := cutN_lt l 12 4
/-- Wall, Tick, Mark, error. -/
def getB (l : List UInt8) : Int × Int × Int × Int :=
  if l.length ≠ 16 then (0, 0, 0, 9) else if 4611686018427387904 < getA l then (0, 0, 0, 10) else ((getA l : Int), (getT l : Int), (getM l : Int), 0)
theorem getB_short {l : List UInt8} (h : l.length ≠ 16) : getB l = (0, 0, 0, 9) := by simp [getB, h]
theorem getB_form {l : List UInt8} (h : l.length = 16) (ha : 4611686018427387904 < getA l) : getB l = (0, 0, 0, 10) := by simp [getB, h, ha]
theorem getB_ok {l : List UInt8} (h : l.length = 16) (ha : getA l ≤ 4611686018427387904) : getB l = ((getA l : Int), (getT l : Int), (getM l : Int), 0) := by
  unfold getB; rw [if_neg (by omega), if_neg (by omega)]
end Go.Proofs.Ytcgkbpjfbahleaa
namespace Go.Proofs.Ytcgkbpjfbahleaa
open Go.RowKit

abbrev stv (a b c : Int) : Value := .agg #[.int .i64 a, .int .u32 b, .int .u32 c]

def rightB (a : Int) : Bool := decide (0 ≤ a ∧ a ≤ 4611686018427387904)

def cmpS (a b c x y z : Int) : Int := if a < x then -1 else if x < a then 1 else if b < y then -1 else if y < b then 1 else if c < z then -1 else if z < c then 1 else 0

end Go.Proofs.Ytcgkbpjfbahleaa
namespace Go.Proofs.Ytcgkbpjfbahleaa

theorem foldl_be (l : List UInt8) : ∀ n : Nat, l.foldl (fun n b => n * 256 + b.toNat) n = n * 256 ^ l.length + ofBE l := by
  induction l with
  | nil => intro n; simp [ofBE]
  | cons b l ih =>
    intro n
    unfold ofBE
    simp only [List.foldl_cons, List.length_cons]
    rw [ih, ih (0 * 256 + b.toNat), Nat.pow_succ, Nat.add_mul, Nat.mul_assoc, Nat.mul_comm 256, Nat.zero_mul, Nat.zero_add]
    omega
theorem ofBE_cons (b : UInt8) (l : List UInt8) : ofBE (b :: l) = b.toNat * 256 ^ l.length + ofBE l := by
  have := foldl_be l (0 * 256 + b.toNat)
  unfold ofBE at *
  rw [List.foldl_cons, this, Nat.zero_mul, Nat.zero_add]
theorem ofBE_append (l m : List UInt8) : ofBE (l ++ m) = ofBE l * 256 ^ m.length + ofBE m := by
  unfold ofBE
  rw [List.foldl_append, foldl_be]
  rfl
theorem less_be : ∀ (l m : List UInt8), l.length = m.length → Op.bytesLess l m = decide (ofBE l < ofBE m)
  | [], [], _ => by simp [Op.bytesLess, ofBE]
  | [], _ :: _, h => by simp at h
  | _ :: _, [], h => by simp at h
  | a :: l, b :: m, h => by
    have hl : l.length = m.length := by simpa using h
    have hlt := ofBE_lt l
    have hmt := ofBE_lt m
    rw [hl] at hlt
    rw [Op.bytesLess, less_be l m hl, ofBE_cons, ofBE_cons, hl]
    generalize ofBE l = x at *
    generalize ofBE m = y at *
    generalize 256 ^ m.length = P at *
    rw [Bool.eq_iff_iff]
    simp only [Bool.or_eq_true, Bool.and_eq_true, decide_eq_true_eq, beq_iff_eq, UInt8.lt_iff_toNat_lt]
    rw [← UInt8.toNat_inj]
    generalize a.toNat = p
    generalize b.toNat = q
    constructor
    · rintro (h | ⟨rfl, h⟩)
      · have : (p + 1) * P ≤ q * P := Nat.mul_le_mul_right _ h
        rw [Nat.add_mul, Nat.one_mul] at this
        omega
      · omega
    · intro h
      rcases Nat.lt_trichotomy p q with h1 | h1 | h1
      · exact .inl h1
      · subst h1; exact .inr ⟨rfl, by omega⟩
      · have : (q + 1) * P ≤ p * P := Nat.mul_le_mul_right _ h1
        rw [Nat.add_mul, Nat.one_mul] at this
        omega
theorem inj_be : ∀ (l m : List UInt8), l.length = m.length → ofBE l = ofBE m → l = m
  | [], [], _, _ => rfl
  | [], _ :: _, h, _ => by simp at h
  | _ :: _, [], h, _ => by simp at h
  | a :: l, b :: m, h, e => by
    have hl : l.length = m.length := by simpa using h
    have hlt := ofBE_lt l
    have hmt := ofBE_lt m
    rw [hl] at hlt
    rw [ofBE_cons, ofBE_cons, hl] at e
    have key : a.toNat = b.toNat ∧ ofBE l = ofBE m := by
      generalize ofBE l = x at *
      generalize ofBE m = y at *
      generalize 256 ^ m.length = P at *
      generalize a.toNat = p at *
      generalize b.toNat = q at *
      rcases Nat.lt_trichotomy p q with h1 | h1 | h1
      · have : (p + 1) * P ≤ q * P := Nat.mul_le_mul_right _ h1
        rw [Nat.add_mul, Nat.one_mul] at this
        omega
      · subst h1; exact ⟨rfl, by omega⟩
      · have : (q + 1) * P ≤ p * P := Nat.mul_le_mul_right _ h1
        rw [Nat.add_mul, Nat.one_mul] at this
        omega
    rw [UInt8.toNat_inj.1 key.1, inj_be l m hl key.2]

theorem ofBE_to (u k : Nat) : ∀ j, j ≤ k → ofBE (beTo u k j) = u / 256 ^ (k - j) % 256 ^ j
  | 0, _ => by simp [beTo_zero, ofBE, Nat.mod_one]
  | j + 1, h => by
    rw [beTo_succ, ofBE_snoc, ofBE_to u k j (by omega)]
    have e : k - j = (k - 1 - j) + 1 := by omega
    have e2 : k - (j + 1) = k - 1 - j := by omega
    rw [e, e2, Nat.pow_succ, ← Nat.div_div_eq_div_mul]
    generalize u / 256 ^ (k - 1 - j) = z
    have hb : (UInt8.ofNat z).toNat = z % 256 := by simp
    rw [hb, Nat.pow_succ, Nat.mul_comm (256 ^ j) 256, Nat.mod_mul]
    omega
theorem ofBE_beN (u k : Nat) : ofBE (beN u k) = u % 256 ^ k := by
  rw [← beTo_all, ofBE_to u k k (Nat.le_refl _), Nat.sub_self, Nat.pow_zero, Nat.div_one]

theorem u64N_of {a : Int} (h0 : 0 ≤ a) (h1 : a ≤ 4611686018427387904) : u64N a = a.toNat := by unfold u64N; omega
theorem ofBE_putB {a b c : Int} (ha : 0 ≤ a ∧ a ≤ 4611686018427387904) (hb : 0 ≤ b ∧ b ≤ 4294967295) (hc : 0 ≤ c ∧ c ≤ 4294967295) :
    ofBE (putB a b c) = (a.toNat * 4294967296 + b.toNat) * 4294967296 + c.toNat := by
  unfold putB
  rw [ofBE_append, ofBE_append, ofBE_beN, ofBE_beN, ofBE_beN, beN_length, beN_length, u64N_of ha.1 ha.2, u64N_of hb.1 (by omega), u64N_of hc.1 (by omega)]
  have e1 : a.toNat % 256 ^ 8 = a.toNat := Nat.mod_eq_of_lt (by simp only [Nat.reducePow]; omega)
  have e2 : b.toNat % 256 ^ 4 = b.toNat := Nat.mod_eq_of_lt (by simp only [Nat.reducePow]; omega)
  have e3 : c.toNat % 256 ^ 4 = c.toNat := Nat.mod_eq_of_lt (by simp only [Nat.reducePow]; omega)
  rw [e1, e2, e3]

section
variable {a b c x y z : Int} (ha : 0 ≤ a ∧ a ≤ 4611686018427387904) (hb : 0 ≤ b ∧ b ≤ 4294967295) (hc : 0 ≤ c ∧ c ≤ 4294967295)
  (hx : 0 ≤ x ∧ x ≤ 4611686018427387904) (hy : 0 ≤ y ∧ y ≤ 4294967295) (hz : 0 ≤ z ∧ z ≤ 4294967295)
include ha hb hc hx hy hz
theorem put_less : Op.bytesLess (putB a b c) (putB x y z) = decide (cmpS a b c x y z < 0) := by
  rw [less_be _ _ (by rw [putB_length, putB_length]), ofBE_putB ha hb hc, ofBE_putB hx hy hz]
  rw [Bool.eq_iff_iff, decide_eq_true_eq, decide_eq_true_eq]
  unfold cmpS
  (repeat' split) <;> omega
theorem put_inj : putB a b c = putB x y z ↔ (a = x ∧ b = y ∧ c = z) := by
  constructor
  · intro h
    have := congrArg ofBE h
    rw [ofBE_putB ha hb hc, ofBE_putB hx hy hz] at this
    omega
  · rintro ⟨rfl, rfl, rfl⟩; rfl
end
theorem get_put {a b c : Int} (ha : 0 ≤ a ∧ a ≤ 4611686018427387904) (hb : 0 ≤ b ∧ b ≤ 4294967295) (hc : 0 ≤ c ∧ c ≤ 4294967295) : getB (putB a b c) = (a, b, c, 0) := by
  have h8 : (beN (u64N a) 8).length = 8 := beN_length _ _
  have h4 : (beN (u64N b) 4).length = 4 := beN_length _ _
  have h4' : (beN (u64N c) 4).length = 4 := beN_length _ _
  have eA : getA (putB a b c) = a.toNat := by
    unfold getA cutN putB
    rw [List.drop_zero, List.append_assoc, List.take_append_of_le_length (by omega), List.take_of_length_le (by omega), ofBE_beN, u64N_of ha.1 ha.2]
    exact Nat.mod_eq_of_lt (by simp only [Nat.reducePow]; omega)
  have eT : getT (putB a b c) = b.toNat := by
    unfold getT cutN putB
    rw [List.append_assoc, List.drop_append_of_le_length (by omega), List.drop_of_length_le (by omega), List.nil_append, List.take_append_of_le_length (by omega), List.take_of_length_le (by omega), ofBE_beN, u64N_of hb.1 (by omega)]
    exact Nat.mod_eq_of_lt (by simp only [Nat.reducePow]; omega)
  have eM : getM (putB a b c) = c.toNat := by
    unfold getM cutN putB
    rw [List.drop_append, List.length_append, h8, h4, List.drop_of_length_le (by rw [List.length_append, h8, h4]; omega), List.nil_append, List.drop_zero, List.take_of_length_le (by omega), ofBE_beN, u64N_of hc.1 (by omega)]
    exact Nat.mod_eq_of_lt (by simp only [Nat.reducePow]; omega)
  rw [getB_ok (putB_length _ _ _) (by rw [eA]; omega), eA, eT, eM]
  have h1 : ((a.toNat : Nat) : Int) = a := by omega
  have h2 : ((b.toNat : Nat) : Int) = b := by omega
  have h3 : ((c.toNat : Nat) : Int) = c := by omega
  rw [h1, h2, h3]
end Go.Proofs.Ytcgkbpjfbahleaa
namespace Go.Proofs.Ytcgkbpjfbahleaa

theorem bl_hi : ∀ f x : Nat, x < 2 ^ f → x < 2 ^ (Lib.bitLenAux f x)
  | 0, x, h => by simpa [Lib.bitLenAux] using h
  | f + 1, x, h => by
    unfold Lib.bitLenAux
    split
    · next e => subst e; simp
    · have h2 : x / 2 < 2 ^ f := by rw [Nat.pow_succ] at h; omega
      have := bl_hi f (x / 2) h2
      rw [Nat.add_comm, Nat.pow_succ]
      omega
theorem bitLen_hi {x : Nat} (h : x ≤ 18446744073709551615) : x < 2 ^ Lib.bitLen x := bl_hi 64 x (by simp only [Nat.reducePow]; omega)
theorem bitLen_mono {a b : Nat} (h : a ≤ b) (hb : b ≤ 18446744073709551615) : Lib.bitLen a ≤ Lib.bitLen b :=
  Lib.bitLen_le a _ (bitLen_le b) (Nat.lt_of_le_of_lt h (bitLen_hi hb))
theorem kN_mono {a b : Nat} (ha : 247 < a) (h : a ≤ b) (hb : b ≤ 18446744073709551615) : kN a ≤ kN b := by
  have := bitLen_mono h hb
  rw [kN_high ha, kN_high (by omega)]
  omega
theorem kN_hi {a : Nat} (ha : 247 < a) (hb : a ≤ 18446744073709551615) : a < 256 ^ kN a := by
  have h := bitLen_hi hb
  rw [kN_high ha]
  generalize Lib.bitLen a = b at *
  have e : (256 : Nat) ^ ((b + 7) / 8) = 2 ^ (8 * ((b + 7) / 8)) := by rw [Nat.pow_mul]
  rw [e]
  exact Nat.lt_of_lt_of_le h (Nat.pow_le_pow_right (by decide) (by omega))

theorem cons_lt {x y : UInt8} {l m : List UInt8} (h : x.toNat < y.toNat) : Op.bytesLess (x :: l) (y :: m) = true := by
  simp [Op.bytesLess, UInt8.lt_iff_toNat_lt, h]
theorem cons_gt {x y : UInt8} {l m : List UInt8} (h : y.toNat < x.toNat) : Op.bytesLess (x :: l) (y :: m) = false := by
  have h1 : ¬ x.toNat < y.toNat := by omega
  have h2 : x ≠ y := by rintro rfl; omega
  simp [Op.bytesLess, UInt8.lt_iff_toNat_lt, h1, h2]
theorem cons_eq {x : UInt8} {l m : List UInt8} : Op.bytesLess (x :: l) (x :: m) = Op.bytesLess l m := by
  simp [Op.bytesLess]
theorem ofNat_toNat {n : Nat} (h : n ≤ 255) : (UInt8.ofNat n).toNat = n := by
  simp; omega

theorem numB_less {a b : Nat} (ha : a ≤ 18446744073709551615) (hb : b ≤ 18446744073709551615) : Op.bytesLess (numB a) (numB b) = decide (a < b) := by
  have ka := kN_le a
  have kb := kN_le b
  rcases Nat.lt_or_ge 247 a with h1 | h1 <;> rcases Nat.lt_or_ge 247 b with h2 | h2
  · rw [numB_high h1, numB_high h2, List.singleton_append, List.singleton_append]
    rcases Nat.lt_trichotomy (kN a) (kN b) with h | h | h
    · have hlt : a < b := by
        rcases Nat.lt_or_ge a b with h3 | h3
        · exact h3
        · have := kN_mono h2 h3 ha; omega
      rw [cons_lt (by rw [ofNat_toNat (by omega), ofNat_toNat (by omega)]; omega)]
      simp [hlt]
    · have ha' := kN_hi h1 ha
      have hb' := kN_hi h2 hb
      rw [h] at ha' ⊢
      rw [cons_eq, less_be _ _ (by rw [beN_length, beN_length]), ofBE_beN, ofBE_beN, Nat.mod_eq_of_lt ha', Nat.mod_eq_of_lt hb']
    · have hlt : ¬ a < b := by
        intro h3
        have := kN_mono h1 (Nat.le_of_lt h3) hb; omega
      rw [cons_gt (by rw [ofNat_toNat (by omega), ofNat_toNat (by omega)]; omega)]
      simp [hlt]
  · have hlt : ¬ a < b := by omega
    rw [numB_high h1, numB_low h2, List.singleton_append, cons_gt (by rw [ofNat_toNat (by omega), ofNat_toNat (by omega)]; have := kN_pos h1 (by omega); omega)]
    simp [hlt]
  · have hlt : a < b := by omega
    rw [numB_low h1, numB_high h2, List.singleton_append, cons_lt (by rw [ofNat_toNat (by omega), ofNat_toNat (by omega)]; have := kN_pos h2 (by omega); omega)]
    simp [hlt]
  · rw [numB_low h1, numB_low h2]
    rcases Nat.lt_trichotomy a b with h | h | h
    · rw [cons_lt (by rw [ofNat_toNat (by omega), ofNat_toNat (by omega)]; omega)]; simp [h]
    · subst h; rw [cons_eq]; simp [Op.bytesLess]
    · rw [cons_gt (by rw [ofNat_toNat (by omega), ofNat_toNat (by omega)]; omega)]; simp; omega
theorem numB_inj {a b : Nat} (ha : a ≤ 18446744073709551615) (hb : b ≤ 18446744073709551615) : numB a = numB b ↔ a = b := by
  constructor
  · intro h
    have h1 := numB_less ha hb
    have h2 := numB_less hb ha
    have h3 := numB_less ha ha
    rw [← h] at h1 h2
    rw [h3] at h1 h2
    simp at h1 h2
    omega
  · rintro rfl; rfl
end Go.Proofs.Ytcgkbpjfbahleaa
namespace Go.Proofs.Ytcgkbpjfbahleaa
open Go.RowKit

/-- The first j bytes of a number, the lowest first. -/
def leN (n j : Nat) : List UInt8 := (List.range j).map fun i => UInt8.ofNat (n / 256 ^ i)
theorem leN_zero (n : Nat) : leN n 0 = [] := rfl
theorem leN_succ (n j : Nat) : leN n (j + 1) = leN n j ++ [UInt8.ofNat (n / 256 ^ j)] := by simp [leN, List.range_succ]
theorem leN_length (n j : Nat) : (leN n j).length = j := by simp [leN]
theorem leN_get (n j i : Nat) (h : i < j) : (leN n j)[i]? = some (UInt8.ofNat (n / 256 ^ i)) := by simp [leN, h]
theorem bl_lo : ∀ f x : Nat, 0 < x → 2 ^ Lib.bitLenAux f x ≤ 2 * x
  | 0, x, h => by simp [Lib.bitLenAux]; omega
  | f + 1, x, h => by
    unfold Lib.bitLenAux
    rw [if_neg (by omega)]
    by_cases h2 : x / 2 = 0
    · have : Lib.bitLenAux f (x / 2) = 0 := by rw [h2]; cases f <;> simp [Lib.bitLenAux]
      rw [this]; omega
    · have := bl_lo f (x / 2) (by omega)
      rw [Nat.add_comm, Nat.pow_succ]
      omega
theorem kN_lo {a : Nat} (ha : 247 < a) (h1 : a ≤ 18446744073709551615) : 256 ^ (kN a - 1) ≤ a := by
  have h := bl_lo 64 a (by omega)
  have hp := kN_pos ha (by omega)
  have e0 : Lib.bitLenAux 64 a = Lib.bitLen a := rfl
  rw [e0] at h
  rw [kN_high ha] at hp ⊢
  generalize Lib.bitLen a = b at *
  have e : (256 : Nat) ^ ((b + 7) / 8 - 1) = 2 ^ (8 * ((b + 7) / 8 - 1)) := by rw [Nat.pow_mul]
  rw [e]
  have h2 : 2 ^ (8 * ((b + 7) / 8 - 1)) ≤ 2 ^ (b - 1) := Nat.pow_le_pow_right (by decide) (by omega)
  have h3 : 2 ^ (b - 1) * 2 = 2 ^ b := by rw [← Nat.pow_succ]; congr 1; omega
  omega
theorem num_more {a j : Nat} (ha : 247 < a) (h1 : a ≤ 18446744073709551615) (hj : j < kN a) : 0 < a / 256 ^ j := by
  have h := kN_lo ha h1
  have h2 : 256 ^ j ≤ 256 ^ (kN a - 1) := Nat.pow_le_pow_right (by decide) (by omega)
  exact Nat.div_pos (by omega) (Nat.pow_pos (by decide))
theorem num_end {a : Nat} (ha : 247 < a) (h1 : a ≤ 18446744073709551615) : a / 256 ^ kN a = 0 := Nat.div_eq_of_lt (kN_hi ha h1)
theorem num_next (a j : Nat) : a / 256 ^ j / 256 = a / 256 ^ (j + 1) := by rw [Nat.div_div_eq_div_mul, Nat.pow_succ]
theorem Gr.after {w W w' : World} {v v' : Value} (hb : Below w.heap.size w W) (h : Gr W w' v v') : Gr w w' v v' :=
  ⟨⟨h.g.os.trans hb.os, h.g.tape.trans hb.tape, h.g.output.trans hb.output, Nat.le_trans hb.size h.g.size, fun k hk hn => (h.g.block k (Nat.lt_of_lt_of_le hk hb.size) hn).trans (hb.block k hk)⟩,
    h.o.imp id fun ⟨j, e, hj⟩ => ⟨j, e, Nat.le_trans hb.size hj⟩⟩

set_option maxRecDepth 100000 in
set_option maxHeartbeats 1600000 in
theorem refNum_low (n : Nat) (h1 : n ≤ 247) (K : Nat) (A : Option Addr) (n0 cap : Nat) (l : List UInt8) (w : World) (ho : Ob w K (.slice A n0 cap) l) (hK : K ≤ w.heap.size) (hsz : l.length + 9 ≤ 140737488355328) :
    Calls Try.prog 46 #[.slice A n0 cap, .int .u64 (n : Int)] w (App w K (.slice A n0 cap) (l ++ numB n)) := by
  rw [numB_low h1]
  have hcell : [Value.int .u8 (n : Int)] = [UInt8.ofNat n].map bv := by simp [bv]; omega
  have HCELL := Lib.hid hcell
  clear hcell
  have hn0 := ho.bs.2
  have HN0 := Lib.hid hn0
  clear hn0
  go_enter Try.func46, Try.ntmps46
  go_wp2_with (first
    | (at_builtin; go_loud (refine wpList_app _ rfl (.tmp 10) (.tmp 13) rfl K (.slice A n0 cap) l rfl (ho.alloc _) (some ⟨w.heap.size, 0, none⟩) 1 1 [UInt8.ofNat n] rfl rfl _ (lit_bsH w _ w.heap.size rfl _ 1 _ (show [Value.int .u8 (n : Int)] = _ from HCELL.out) rfl (by decide)) (l ++ [UInt8.ofNat n]).length (by simp) (by simp; omega) (by simp; omega) ?_; intro A6 c6 w6 hown6 hgrow6 hat6)))
  go_ret
  exact ⟨A6, c6, by rw [List.length_append]; rfl, hown6, (Gr.refl _ _).step _ hgrow6 hat6⟩

set_option maxRecDepth 100000 in
set_option maxHeartbeats 3200000 in
theorem refNum_high (n : Nat) (h0 : 247 < n) (h1 : n ≤ 18446744073709551615) (K : Nat) (A : Option Addr) (n0 cap : Nat) (l : List UInt8) (w : World) (ho : Ob w K (.slice A n0 cap) l) (hK : K ≤ w.heap.size) (hsz : l.length + 9 ≤ 140737488355328) :
    Calls Try.prog 46 #[.slice A n0 cap, .int .u64 (n : Int)] w (App w K (.slice A n0 cap) (l ++ numB n)) := by
  have hk8 := kN_le n
  have hk1 := kN_pos h0 (by omega)
  have hlen : (l ++ numB n).length = l.length + 1 + kN n := by rw [List.length_append, numB_length]; omega
  have hfin : l ++ numB n = (l ++ [UInt8.ofNat (247 + kN n)]) ++ beTo n (kN n) (kN n) := by rw [numB_high h0, beTo_all, List.append_assoc]
  have hmore := fun j => num_more (j := j) h0 h1
  have hend := num_end h0 h1
  have hcell0 : [Value.int .u8 (247 + (kN n : Int))] = [UInt8.ofNat (247 + kN n)].map bv := by simp [bv]; omega
  generalize kN n = k at *
  have HLEN := Lib.hid hlen
  have HFIN := Lib.hid hfin
  have HCELL := Lib.hid hcell0
  have HM := Lib.hid hmore
  have HE := Lib.hid hend
  have hn0 := ho.bs.2
  have HN0 := Lib.hid hn0
  clear hlen hfin hcell0 hn0 hmore hend
  go_enter Try.func46, Try.ntmps46
  go_wp2_with fail
  go_loopw [5, 6] (fun v s wr => ∃ (j m c5 : Nat) (A5 : Option Addr), j ≤ k ∧ s = .int .u64 (m : Int) ∧ m = n / 256 ^ j ∧ v = .slice A5 j c5 ∧ Ob wr w.heap.size (.slice A5 j c5) (leN n j) ∧ Below w.heap.size w wr) (fun _ s _ => (intOf s).toNat)
  case atStart => exact ⟨0, n, 0, none, by omega, rfl, by simp, rfl, Ob.empty _ _, Below.refl _ _⟩
  case round =>
    obtain ⟨j, m, c5, A5, hj, rfl, hm, rfl, hob5, hb5⟩ := hrel
    have z5 := hb5.size
    have hm1 : m ≤ 18446744073709551615 := by rw [hm]; exact Nat.le_trans (Nat.div_le_self _ _) h1
    have HMJ := Lib.hid hm
    by_cases hlt : j < k
    · have hpos : 0 < m := by rw [hm]; exact HM.out j hlt
      have hdec : (m / 256 : Nat) < m := by omega
      clear hm
      go_wp2_with (at_builtin; go_loud (refine wpList_app _ rfl (.tmp 20) (.tmp 24) rfl w.heap.size (.slice A5 j c5) (leN n j) rfl (hob5.alloc _) (some ⟨wr.heap.size, 0, none⟩) 1 1 [UInt8.ofNat (n / 256 ^ j)] rfl rfl _ (lit_bsH wr _ wr.heap.size rfl _ 1 _ (show [Value.int .u8 ((m : Int) % 256)] = _ by rw [← HMJ.out]; simp [bv]) rfl (by decide)) (j + 1) (by rw [leN_length]; rfl) (by rw [leN_length]; simp; omega) (by simp; omega) ?_; intro A7 c7 w7 hown7 hgrow7 hat7))
      go_roundw
      case rel => exact ⟨j + 1, m / 256, c7, A7, by omega, by simp, by rw [HMJ.out, num_next], rfl, by rw [leN_succ]; exact hown7, hb5.trans (((Tn.alloc (P := fun k => w.heap.size ≤ k) wr _).thenQ (Tn.ofGrown hgrow7) (fun k _ e => (hob5.lt k e.symm).1)).below z5 (fun _ _ h => h))⟩
      case measure => simp [intOf]; omega
    · have hj8 : j = k := by omega
      subst hj8
      have hz : m = 0 := by rw [hm]; exact HE.out
      subst hz
      clear hm HMJ
      go_wp2_with (at_builtin; go_loud (refine wpList_app _ rfl (.tmp 26) (.tmp 31) rfl K (.slice A n0 cap) l rfl ((ho.below hb5).alloc _) (some ⟨wr.heap.size, 0, none⟩) 1 1 [UInt8.ofNat (247 + j)] rfl rfl _ (lit_bsH wr _ wr.heap.size rfl _ 1 _ (show [Value.int .u8 (247 + (j : Int))] = _ from HCELL.out) rfl (by decide)) (l.length + 1) rfl (by simp; omega) (by simp; omega) ?_; intro A6 c6 w6 hown6 hgrow6 hat6))
      have G6 : Gr wr w6 (.slice A n0 cap) (.slice A6 (l.length + 1) c6) := (Gr.refl _ _).step _ hgrow6 hat6
      have hne5 : (Value.slice A5 j c5).ownBlock = none ∨ (Value.slice A5 j c5).ownBlock ≠ (Value.slice A n0 cap).ownBlock := by
        cases e : (Value.slice A5 j c5).ownBlock with
        | none => exact .inl rfl
        | some g =>
          refine .inr fun e2 => ?_
          have h1 := (hob5.lt g e).1
          have h2 := (ho.lt g e2.symm).2
          omega
      have HNE := Lib.hid hne5
      have HFR := Lib.hid hb5
      obtain ⟨g, rfl, hg1, hg2⟩ := hob5.addr (by omega)
      have hl1 : (l ++ [UInt8.ofNat (247 + j)]).length = l.length + 1 := by rw [List.length_append]; rfl
      have HL1 := Lib.hid hl1
      generalize l ++ [UInt8.ofNat (247 + j)] = m at *
      have HLOW := Lib.hid hob5
      clear hgrow6 hat6 hl1 hne5 hb5 hob5
      go_loopw [0, 7] (fun v s wx => ∃ (q nn c2 : Nat) (A2 : Option Addr) (sI : Int), q ≤ j ∧ s = .int .i64 sI ∧ sI + 1 + (q : Int) = j ∧ v = .slice A2 nn c2 ∧ nn = l.length + 1 + q ∧ Ob wx K (.slice A2 nn c2) (m ++ beTo n j q) ∧ Gr wr wx (.slice A n0 cap) (.slice A2 nn c2)) (fun _ s _ => (intOf s + 1).toNat)
      case atStart => exact ⟨0, l.length + 1, c6, A6, _, by omega, rfl, by omega, rfl, by omega, by rw [beTo_zero, List.append_nil]; exact hown6, G6⟩
      case round =>
        obtain ⟨q, nn, c2, A2, sI, hq, rfl, hsI, rfl, hnn, hob2, hg2'⟩ := hrel
        rename World => W0
        have z2 := hg2'.g.size
        have HG2 := Lib.hid hg2'
        have HOB2 := Lib.hid hob2
        have HNN := Lib.hid hnn
        clear hown6 G6 hg2' hnn
        by_cases hlt : q < j
        · obtain ⟨i, hi⟩ : ∃ i : Nat, i + q + 1 = j := ⟨j - 1 - q, by omega⟩
          have e : sI = (i : Int) := by omega
          subst e
          have hlow := HLOW.out.keep HG2.out.g HNE.out
          have hsl := hlow.slot (k := i) (by rw [leN_length]; omega)
          have hcell := hsl.1
          have hcap := hsl.2.2.2
          have hval : (leN n j)[i]'(by rw [leN_length]; omega) = UInt8.ofNat (n / 256 ^ (j - 1 - q)) := by
            have := leN_get n j i (by omega)
            rw [List.getElem?_eq_getElem (by rw [leN_length]; omega)] at this
            rw [Option.some.inj this, show j - 1 - q = i by omega]
          rw [hval] at hcell
          have hcell' := hcell
          simp only [bv] at hcell'
          clear hlow hsl hval
          go_wp2_with (at_builtin; go_loud (refine wpList_app _ rfl (.tmp 40) (.tmp 45) rfl K (.slice A2 nn c2) (m ++ beTo n j q) rfl (HOB2.out.alloc _) (some ⟨W0.heap.size, 0, none⟩) 1 1 [UInt8.ofNat (n / 256 ^ (j - 1 - q))] rfl rfl _ (lit_bsH W0 _ W0.heap.size rfl _ 1 _ (by rfl) rfl (by decide)) (nn + 1) (by rw [List.length_append, beTo_length, HL1.out, HNN.out]; rfl) (by rw [List.length_append, beTo_length, HL1.out]; simp; omega) (by simp; omega) ?_; intro A7 c7 w7 hown7 hgrow7 hat7))
          go_roundw
          case rel => exact ⟨q + 1, nn + 1, c7, A7, _, by omega, rfl, by omega, rfl, by rw [HNN.out]; omega, by rw [beTo_succ, ← List.append_assoc]; exact hown7, HG2.out.step _ hgrow7 hat7⟩
          case measure => simp [intOf]
        · have hqj : q = j := by omega
          subst hqj
          have q0 : sI < 0 := by omega
          go_wp2
          go_ret
          rw [← HFIN.out] at hob2
          have e : nn = (l ++ numB n).length := hob2.bs.2
          clear HNN
          subst e
          exact ⟨A2, c2, rfl, hob2, HG2.out.after HFR.out⟩

/-- The document's number behind bytes. -/
theorem refNum_any (n : Nat) (h1 : n ≤ 18446744073709551615) (K : Nat) (A : Option Addr) (n0 cap : Nat) (l : List UInt8) (w : World) (ho : Ob w K (.slice A n0 cap) l) (hK : K ≤ w.heap.size) (hsz : l.length + 9 ≤ 140737488355328) :
    Calls Try.prog 46 #[.slice A n0 cap, .int .u64 (n : Int)] w (App w K (.slice A n0 cap) (l ++ numB n)) := by
  rcases Nat.lt_or_ge 247 n with h | h
  · exact refNum_high n h h1 K A n0 cap l w ho hK hsz
  · exact refNum_low n h K A n0 cap l w ho hK hsz
end Go.Proofs.Ytcgkbpjfbahleaa
namespace Go.Proofs.Ytcgkbpjfbahleaa
open Go.RowKit

set_option maxHeartbeats 800000 in
theorem wbytes_any (K b : Nat) (v : Value) (l : List UInt8) (w : World) (h : Wr w K b v l) (hsz : l.length ≤ 140737488355328) :
    Calls Try.prog 28 #[.pointer (some ⟨b, 0, none⟩)] w (NewBytes w l) := by
  obtain ⟨A, c, rfl⟩ := h.ob.form
  have hc0 := h.cell
  have HC := Lib.hid (clone_any w.heap.size A l.length c l w rfl h.ob.bs.1 (Nat.le_refl _) hsz)
  clear h
  go_enter Try.func28, Try.ntmps28
  go_wp2_with (go_at_call 39; refine HC.out.mono ?_; rintro e w1 ⟨A', c', rfl, ho1, hb1⟩)
  go_ret
  exact ⟨A', c', rfl, ho1, hb1⟩

/-- The cells of one number among things. -/
structure It1 (w : World) (g n : Nat) : Prop where
  c0 : w.cell? ⟨g, 0, none⟩ = some (.int .i64 0)
  c1 : w.cell? ⟨g, 1, none⟩ = some (.int .u64 (n : Int))
  c2 : w.cell? ⟨g, 2, none⟩ = some (.int .i64 0)
  c3 : w.cell? ⟨g, 3, none⟩ = some (.bool false)
  c4 : w.cell? ⟨g, 4, none⟩ = some (.string ⟨#[]⟩)
  c5 : w.cell? ⟨g, 5, none⟩ = some (.int .i64 0)
  c6 : w.cell? ⟨g, 6, none⟩ = some (.int .u32 0)
  c7 : w.cell? ⟨g, 7, none⟩ = some (.int .u32 0)
  c8 : w.cell? ⟨g, 8, none⟩ = some (.int .i64 0)
/-- Two new rows with the same bytes. -/
def Two (w : World) (l : List UInt8) (e : Ending) (w' : World) : Prop :=
  ∃ A c A' c', e = .returned (.tuple #[.slice A l.length c, .slice A' l.length c']) ∧ Ob w' w.heap.size (.slice A l.length c) l ∧ Ob w' w.heap.size (.slice A' l.length c') l ∧ Below w.heap.size w w'

end Go.Proofs.Ytcgkbpjfbahleaa
namespace Go.Proofs.Ytcgkbpjfbahleaa
open Go.RowKit

theorem elemBs : Try.prog.elem 53 = 5 := by unfold Program.elem; rw [Try.underlying53]
theorem underBs : Try.prog.underlying 53 = some (.slice (Try.prog.elem 53)) := by rw [elemBs]; exact Try.underlying53
theorem size_u8 (w : World) : (sizeOf 5).run Try.prog w = .ok 1 w := by
  obtain ⟨i0, hi, hz0, hz1, hz2⟩ := info_parts info_u8
  simp [sizeOf, typeInfo, hi, hz1]
theorem slice_from (A : Option Addr) (n cap j : Nat) (hj : j ≤ n) (w : World) :
    (Instr.slice 53 (.slice A n cap) (some (.int .i64 (j : Int))) none none).run Try.prog w = .ok (.slice (if cap = j then A else A.map (·.add j)) (n - j) (cap - j)) w := by
  have h := run_slice_l (P := Try.prog) (w := w) (t := 53) (a := A) (len := n) (cap := cap) underBs .i64 (j : Int) (by omega) (by omega)
  rw [h, elemBs, size_u8]
  simp [Result.andThen, sliced]
theorem slice_to (A : Option Addr) (n cap j : Nat) (hj : j ≤ cap) (w : World) :
    (Instr.slice 53 (.slice A n cap) none (some (.int .i64 (j : Int))) none).run Try.prog w = .ok (.slice A j cap) w := by
  have h := run_slice_h (P := Try.prog) (w := w) (t := 53) (a := A) (len := n) (cap := cap) underBs .i64 (j : Int) (by omega) (by omega)
  rw [h, elemBs, size_u8]
  have : ∀ a : Addr, a.add 0 = a := fun a => by unfold Addr.add; rw [if_pos rfl]
  cases A <;> simp [Result.andThen, sliced, this]
end Go.Proofs.Ytcgkbpjfbahleaa
namespace Go.Proofs.Ytcgkbpjfbahleaa
open Go.RowKit

theorem wint_nil (n : Int) (w : World) : Calls Try.prog 37 #[.pointer none, .int .i64 n] w fun e w' => e = .returned (.tuple #[]) ∧ w = w' := by
  go_enter Try.func37, Try.ntmps37
  go_wp2_with (go_at_call 38; refine (wnum_nil _ _).mono ?_; rintro e w' ⟨rfl, rfl⟩)
  go_end0
  exact ⟨rfl, rfl⟩
theorem wbytes_nil (w : World) : Calls Try.prog 28 #[.pointer none] w fun e w' => e = .returned (.slice none 0 0) ∧ w = w' := by
  go_enter Try.func28, Try.ntmps28
  go_wp2
  go_ret
  exact ⟨rfl, rfl⟩
theorem rerr_nil (w : World) : Calls Try.prog 42 #[.pointer none] w fun e w' => e = .returned (.int .i64 2) ∧ w = w' := by
  go_enter Try.func42, Try.ntmps42
  go_wp2
  go_ret
  exact ⟨rfl, rfl⟩
theorem rtake_nil (n : Int) (w : World) : Calls Try.prog 53 #[.pointer none, .int .i64 n] w fun e w' => e = .returned (.slice none 0 0) ∧ w = w' := by
  go_enter Try.func53, Try.ntmps53
  go_wp2_with (go_at_call 42; refine (rerr_nil _).mono ?_; rintro e w' ⟨rfl, rfl⟩)
  go_ret
  exact ⟨rfl, rfl⟩
theorem rnum_nil (w : World) : Calls Try.prog 50 #[.pointer none] w fun e w' => e = .returned (.int .u64 0) ∧ w = w' := by
  go_enter Try.func50, Try.ntmps50
  go_wp2_with (go_at_call 53; refine (rtake_nil _ _).mono ?_; rintro e w' ⟨rfl, rfl⟩)
  go_ret
  exact ⟨rfl, rfl⟩
theorem rint_nil (w : World) : Calls Try.prog 40 #[.pointer none] w fun e w' => e = .returned (.int .i64 0) ∧ w = w' := by
  go_enter Try.func40, Try.ntmps40
  go_wp2_with (go_at_call 50; refine (rnum_nil _).mono ?_; rintro e w' ⟨rfl, rfl⟩)
  go_ret
  exact ⟨ret_int (by decide +kernel), rfl⟩
theorem rend_nil (w : World) : Calls Try.prog 30 #[.pointer none] w fun e w' => e = .returned (.int .i64 2) ∧ w = w' := by
  go_enter Try.func30, Try.ntmps30
  go_wp2_with (go_at_call 42; refine (rerr_nil _).mono ?_; rintro e w' ⟨rfl, rfl⟩)
  go_ret
  exact ⟨rfl, rfl⟩
end Go.Proofs.Ytcgkbpjfbahleaa
namespace Go.Proofs.Ytcgkbpjfbahleaa
open Go.RowKit

/-- A reader at block b with the bytes l left, and the error e. -/
structure Rd (w : World) (K b : Nat) (l : List UInt8) (e : Int) : Prop where
  out : ∃ A cap, w.cell? ⟨b, 0, none⟩ = some (.slice A l.length cap) ∧ w.cell? ⟨b, 1, none⟩ = some (.int .i64 e) ∧ w.frozen? ⟨b, 0, none⟩ = false ∧ w.frozen? ⟨b, 1, none⟩ = false ∧ Bs w K A cap l
  kb : K ≤ b
  lt : b < w.heap.size
section
variable {w w' : World} {K b : Nat} {l l' : List UInt8} {e e' : Int}
theorem Rd.below (h : Rd w K b l e) (hb : Below w.heap.size w w') : Rd w' K b l e := by
  obtain ⟨A, cap, h0, h1, f0, f1, hs⟩ := h.out
  have hlt := h.lt
  have hz := hb.size
  exact ⟨⟨A, cap, kept hb h0, kept hb h1, (hb.frozen (p := ⟨b, 0, none⟩) hlt).trans f0, (hb.frozen (p := ⟨b, 1, none⟩) hlt).trans f1, hs.keep fun p hp => hb.cell (by have := h.kb; omega)⟩, h.kb, by omega⟩
theorem Rd.alloc (h : Rd w K b l e) (o : Obj) : Rd (w.alloc o) K b l e := h.below ((Below.refl _ _).alloc (Nat.le_refl _) _)
theorem Rd.err (h : Rd w K b l e) (x : Int) : Rd (w.setCell ⟨b, 1, none⟩ (.int .i64 x)) K b l x := by
  obtain ⟨A, cap, h0, h1, f0, f1, hs⟩ := h.out
  refine ⟨⟨A, cap, (World.cell?_setCell_other _ _ _ _ (by simp)).trans h0, World.cell?_setCell_same' _ _ _ (by rw [h1]; rfl), by rw [World.frozen?_setCell]; exact f0, by rw [World.frozen?_setCell]; exact f1, hs.keep fun p hp => ?_⟩, h.kb, by simpa [World.setCell] using h.lt⟩
  exact World.cell?_setCell_other _ _ _ _ (by intro e2; have := h.kb; subst e2; simp at hp; omega)
theorem Rd.left (h : Rd w K b l e) {A : Option Addr} {cap : Nat} (hs : Bs w K A cap l') : Rd (w.setCell ⟨b, 0, none⟩ (.slice A l'.length cap)) K b l' e := by
  obtain ⟨A0, cap0, h0, h1, f0, f1, _⟩ := h.out
  refine ⟨⟨A, cap, World.cell?_setCell_same' _ _ _ (by rw [h0]; rfl), (World.cell?_setCell_other _ _ _ _ (by simp)).trans h1, by rw [World.frozen?_setCell]; exact f0, by rw [World.frozen?_setCell]; exact f1, hs.keep fun p hp => ?_⟩, h.kb, by simpa [World.setCell] using h.lt⟩
  exact World.cell?_setCell_other _ _ _ _ (by intro e2; have := h.kb; subst e2; simp at hp; omega)
end
/-- What a reader's method did: its block has turned; it is a reader with these bytes left and this error. -/
structure Rst (w : World) (K b : Nat) (l : List UInt8) (e : Int) (w' : World) : Prop where
  rd : Rd w' K b l e
  tn : Tn (· = b) w w'
theorem Rst.refl {w : World} {K b : Nat} {l : List UInt8} {e : Int} (h : Rd w K b l e) : Rst w K b l e w := ⟨h, Tn.refl _ _⟩
theorem Rst.trans {w w1 w' : World} {K b : Nat} {l l1 : List UInt8} {e e1 : Int} (h : Rst w K b l1 e1 w1) (g : Rst w1 K b l e w') : Rst w K b l e w' := ⟨g.rd, h.tn.then g.tn⟩

theorem rerr_any (K b : Nat) (l : List UInt8) (e : Int) (w : World) (h : Rd w K b l e) : Calls Try.prog 42 #[.pointer (some ⟨b, 0, none⟩)] w fun en w' => en = .returned (.int .i64 e) ∧ w = w' := by
  obtain ⟨A, cap, h0, h1, f0, f1, hs⟩ := h.out
  go_enter Try.func42, Try.ntmps42
  go_wp2
  go_ret
  exact ⟨rfl, rfl⟩
set_option maxHeartbeats 800000 in
theorem read_any (A : Option Addr) (cap : Nat) (l : List UInt8) (w : World) (hb : Bs w w.heap.size A cap l) (hsz : l.length ≤ 140737488355328) :
    Calls Try.prog 25 #[.slice A l.length cap] w fun en w' => ∃ b, en = .returned (.pointer (some ⟨b, 0, none⟩)) ∧ Rd w' b b l 0 ∧ Below w.heap.size w w' ∧ w.heap.size ≤ b := by
  have HC := Lib.hid (clone_any w.heap.size A l.length cap l w rfl hb (Nat.le_refl _) hsz)
  go_enter Try.func25, Try.ntmps25
  go_wp2_with (go_at_call 39; refine HC.out.mono ?_; rintro e w1 ⟨A', c', rfl, ho1, hb1⟩)
  go_ret
  refine ⟨w1.heap.size, rfl, ⟨⟨A', c', by simp, by simp, by simp, by simp, ho1.bs.1.alloc (Nat.le_refl _) _⟩, Nat.le_refl _, by simp⟩, hb1.alloc hb1.size _, hb1.size⟩

/-- What take gives, what is left, and the error. -/
def tkB (n : Nat) (l : List UInt8) (e : Int) : List UInt8 := if e ≠ 0 then [] else if l.length < n then [] else l.take n
def tkL (n : Nat) (l : List UInt8) (e : Int) : List UInt8 := if e ≠ 0 then l else if l.length < n then l else l.drop n
def tkE (n : Nat) (l : List UInt8) (e : Int) : Int := if e ≠ 0 then e else if l.length < n then 9 else 0
theorem Bs.none0 (w : World) (K : Nat) : Bs w K none 0 [] := ⟨Nat.le_refl _, Nat.zero_le _, fun _ => rfl, fun h => absurd h (by simp)⟩

set_option maxRecDepth 100000 in
set_option maxHeartbeats 1600000 in
theorem take_any (n : Nat) (K b : Nat) (l : List UInt8) (e : Int) (w : World) (h : Rd w K b l e) (hn : n ≤ 9223372036854775807) :
    Calls Try.prog 53 #[.pointer (some ⟨b, 0, none⟩), .int .i64 (n : Int)] w fun en w' => (∃ A c, en = .returned (.slice A (tkB n l e).length c) ∧ Bs w' K A c (tkB n l e)) ∧ Rst w K b (tkL n l e) (tkE n l e) w' := by
  have HX := Lib.hid h
  have HE := Lib.hid (rerr_any K b l e w h)
  obtain ⟨A, cap, h0, h1, f0, f1, hs⟩ := h.out
  have hle := hs.le
  have hmx := hs.max
  unfold maxLen at hmx
  unfold tkB tkL tkE
  by_cases he : e ≠ 0
  · rw [if_pos he, if_pos he, if_pos he]
    clear h hs
    go_enter Try.func53, Try.ntmps53
    go_wp2_with (go_at_call 42; refine HE.out.mono ?_; rintro en w' ⟨rfl, rfl⟩)
    go_ret
    exact ⟨⟨none, 0, rfl, Bs.none0 _ _⟩, Rst.refl HX.out⟩
  · have he0 : e = 0 := by omega
    subst he0
    rw [if_neg he, if_neg he, if_neg he]
    clear he
    by_cases hlt : l.length < n
    · rw [if_pos hlt, if_pos hlt, if_pos hlt]
      clear h hs
      go_enter Try.func53, Try.ntmps53
      go_wp2_with (go_at_call 42; refine HE.out.mono ?_; rintro en w' ⟨rfl, rfl⟩)
      go_ret
      exact ⟨⟨none, 0, rfl, Bs.none0 _ _⟩, HX.out.err 9, Tn.setCell _ _ _ _⟩
    · rw [if_neg hlt, if_neg hlt, if_neg hlt]
      have s1 := slice_to A l.length cap n (by omega) w
      have s2 := slice_from A l.length cap n (by omega) w
      have k1 := hs.cut (i := 0) (j := n) (by omega) (by omega)
      have k2 := hs.cut (i := n) (j := l.length) (by omega) (Nat.le_refl _)
      have e0 : ∀ a : Addr, a.add 0 = a := fun a => by unfold Addr.add; rw [if_pos rfl]
      have k1' : Bs w K A cap (l.take n) := by
        have e1 : (if cap = 0 then A else A.map (·.add 0)) = A := by
          split
          · rfl
          · cases A <;> simp [e0]
        rw [e1] at k1
        simpa using k1
      have k2' : Bs w K (if cap = n then A else A.map (·.add n)) (cap - n) (l.drop n) := by
        have e2 : (l.drop n).take (l.length - n) = l.drop n := List.take_of_length_le (by simp)
        rwa [e2] at k2
      have hl1 : (l.take n).length = n := by simp; omega
      have hl2 : (l.drop n).length = l.length - n := by simp
      have K1 := Lib.hid k1'
      have K2 := Lib.hid k2'
      have L1 := Lib.hid hl1
      have L2 := Lib.hid hl2
      generalize (if cap = n then A else A.map (·.add n)) = A2 at *
      clear h hs k1 k2 k1' k2' hl1 hl2 e0
      go_enter Try.func53, Try.ntmps53
      go_wp2_with (go_at_call 42; refine HE.out.mono ?_; rintro en w' ⟨rfl, rfl⟩)
      go_ret
      have hr := HX.out.left K2.out
      rw [L2.out] at hr
      refine ⟨⟨A, cap, by rw [L1.out]; rfl, K1.out.keep fun p hp => ?_⟩, hr, Tn.setCell _ _ _ _⟩
      exact World.cell?_setCell_other _ _ _ _ (by intro e2; have := HX.out.kb; subst e2; simp at hp; omega)
end Go.Proofs.Ytcgkbpjfbahleaa
namespace Go.Proofs.Ytcgkbpjfbahleaa
open Go.RowKit

def GetPost (w : World) (l : List UInt8) (e : Ending) (w' : World) : Prop :=
  e = .returned (.tuple #[stv (getB l).1 (getB l).2.1 (getB l).2.2.1, .int .i64 (getB l).2.2.2]) ∧ Below w.heap.size w w'

theorem u64_step {x b : Nat} (hx : x < 72057594037927936) (hb : b < 256) : IntKind.u64.wrap (IntKind.u64.wrap ((x : Int) * 256) + (b : Int)) = ((x * 256 + b : Nat) : Int) := by
  have e : ∀ n : Int, IntKind.u64.wrap n = n % 18446744073709551616 := fun n => by simp [IntKind.wrap, IntKind.bits, IntKind.signed]
  rw [e, e]; omega
theorem u32_step {x b : Nat} (hx : x < 16777216) (hb : b < 256) : IntKind.u32.wrap (IntKind.u32.wrap ((x : Int) * 256) + (b : Int)) = ((x * 256 + b : Nat) : Int) := by
  have e : ∀ n : Int, IntKind.u32.wrap n = n % 4294967296 := fun n => by simp [IntKind.wrap, IntKind.bits, IntKind.signed]
  rw [e, e]; omega

end Go.Proofs.Ytcgkbpjfbahleaa
namespace Go.Proofs.Ytcgkbpjfbahleaa
open Go.RowKit

theorem keptF {W w1 : World} {p : Addr} (hb : Below W.heap.size W w1) (hp : p.block < W.heap.size) (h : W.frozen? p = false) : w1.frozen? p = false := (hb.frozen hp).trans h

theorem three {X : World} {b : Nat} {r0 r1 r2 : Value} (h0 : X.cell? ⟨b, 0, none⟩ = some r0) (h1 : X.cell? ⟨b, 1, none⟩ = some r1) (h2 : X.cell? ⟨b, 2, none⟩ = some r2) :
    (∀ u, (X.setCell ⟨b, 0, none⟩ u).cell? ⟨b, 0, none⟩ = some u) ∧ (∀ u v, ((X.setCell ⟨b, 0, none⟩ u).setCell ⟨b, 1, none⟩ v).cell? ⟨b, 1, none⟩ = some v) ∧
    (∀ u v y, (((X.setCell ⟨b, 0, none⟩ u).setCell ⟨b, 1, none⟩ v).setCell ⟨b, 2, none⟩ y).cell? ⟨b, 2, none⟩ = some y) := by
  have g1 : ∀ u, (X.setCell ⟨b, 0, none⟩ u).cell? ⟨b, 1, none⟩ = some r1 := fun u => by
    rw [World.cell?_setCell_other]
    · exact h1
    · simp
  have g2 : ∀ u v, ((X.setCell ⟨b, 0, none⟩ u).setCell ⟨b, 1, none⟩ v).cell? ⟨b, 2, none⟩ = some r2 := fun u v => by
    rw [World.cell?_setCell_other]
    · rw [World.cell?_setCell_other]
      · exact h2
      · simp
    · simp
  exact ⟨fun u => World.cell?_setCell_same (w := X) (a := ⟨b, 0, none⟩) (v := u) h0, fun u v => World.cell?_setCell_same (w := X.setCell ⟨b, 0, none⟩ u) (a := ⟨b, 1, none⟩) (v := v) (g1 u), fun u v y => World.cell?_setCell_same (w := (X.setCell ⟨b, 0, none⟩ u).setCell ⟨b, 1, none⟩ v) (a := ⟨b, 2, none⟩) (v := y) (g2 u v)⟩

def sg (v : Nat) : Int := if v < 9223372036854775808 then v else v - 18446744073709551616
theorem sg_low {v : Nat} (h : v < 9223372036854775808) : sg v = v := if_pos h
theorem or_sg {x b : Nat} (hx : x < 72057594037927936) (hb : b < 256) : bits .or .i64 (IntKind.i64.wrap ((x : Int) * 256)) (b : Int) = sg (x * 256 + b) := by
  have hw : (BitVec.ofInt 64 (IntKind.i64.wrap ((x : Int) * 256))).toNat = x * 256 := by
    rw [IntKind.wrap_i64, BitVec.toNat_ofInt]; omega
  have hb' : (BitVec.ofInt 64 (b : Int)).toNat = b := by rw [BitVec.toNat_ofInt]; omega
  show IntKind.i64.wrap ((BitVec.ofInt 64 (IntKind.i64.wrap ((x : Int) * 256)) ||| BitVec.ofInt 64 (b : Int)).toNat : Int) = _
  rw [BitVec.toNat_or, hw, hb', nat_join 8 (x * 256) b (by omega) (by omega), IntKind.wrap_i64]
  unfold sg; split <;> omega

/-- What is known of the call's own memory in Get's loops: its result's variable, and its three parts. -/
structure GetW (w : World) (x0 x1 x2 : Int) (wr : World) : Prop where
  bl : Below w.heap.size w wr
  sz : w.heap.size + 2 ≤ wr.heap.size
  r0 : wr.cell? ⟨w.heap.size, 0, none⟩ = some (.int .i64 0)
  r1 : wr.cell? ⟨w.heap.size, 1, none⟩ = some (.int .u32 0)
  r2 : wr.cell? ⟨w.heap.size, 2, none⟩ = some (.int .u32 0)
  rf : ∀ i, wr.frozen? ⟨w.heap.size, i, none⟩ = false
  p0 : wr.cell? ⟨w.heap.size + 1, 0, none⟩ = some (.int .i64 x0)
  p1 : wr.cell? ⟨w.heap.size + 1, 1, none⟩ = some (.int .i64 x1)
  p2 : wr.cell? ⟨w.heap.size + 1, 2, none⟩ = some (.int .i64 x2)
  pf : ∀ i, wr.frozen? ⟨w.heap.size + 1, i, none⟩ = false

theorem or_sg64 {x b : Nat} (hx : x < 72057594037927936) (hb : b < 256) : bits .or .i64 (wrap64 ((x : Int) * 256)) (b : Int) = sg (x * 256 + b) := by
  have : wrap64 ((x : Int) * 256) = IntKind.i64.wrap ((x : Int) * 256) := by rw [IntKind.wrap_i64]; unfold wrap64; omega
  rw [this]; exact or_sg hx hb
section
variable {w wr : World} {x0 x1 x2 y : Int}
theorem GetW.set_ (J : GetW w x0 x1 x2 wr) (i : Nat) (y : Int) : Below w.heap.size w (wr.setCell ⟨w.heap.size + 1, i, none⟩ (.int .i64 y)).drew ∧ w.heap.size + 2 ≤ (wr.setCell ⟨w.heap.size + 1, i, none⟩ (.int .i64 y)).drew.heap.size ∧
    (∀ b j v, (b ≠ w.heap.size + 1 ∨ j ≠ i) → wr.cell? ⟨b, j, none⟩ = some v → (wr.setCell ⟨w.heap.size + 1, i, none⟩ (.int .i64 y)).drew.cell? ⟨b, j, none⟩ = some v) ∧
    (∀ v, wr.cell? ⟨w.heap.size + 1, i, none⟩ = some v → (wr.setCell ⟨w.heap.size + 1, i, none⟩ (.int .i64 y)).drew.cell? ⟨w.heap.size + 1, i, none⟩ = some (.int .i64 y)) ∧
    (∀ b j, wr.frozen? ⟨b, j, none⟩ = false → (wr.setCell ⟨w.heap.size + 1, i, none⟩ (.int .i64 y)).drew.frozen? ⟨b, j, none⟩ = false) := by
  refine ⟨(J.bl.setCell (by simp) _).drew, by simpa using J.sz, fun b j v hne h => ?_, fun v h => ?_, fun b j h => ?_⟩
  · show (wr.setCell ⟨w.heap.size + 1, i, none⟩ (.int .i64 y)).cell? _ = _
    rw [World.cell?_setCell_other]
    · exact h
    · intro e
      injection e with e1 e2
      rcases hne with h' | h'
      · exact h' e1.symm
      · exact h' e2.symm
  · show (wr.setCell ⟨w.heap.size + 1, i, none⟩ (.int .i64 y)).cell? _ = _
    exact World.cell?_setCell_same (w := wr) (a := ⟨w.heap.size + 1, i, none⟩) (v := .int .i64 y) h
  · simpa using h
theorem GetW.set0 (J : GetW w x0 x1 x2 wr) (y : Int) : GetW w y x1 x2 (wr.setCell ⟨w.heap.size + 1, 0, none⟩ (.int .i64 y)).drew := by
  obtain ⟨h1, h2, h3, h4, h5⟩ := J.set_ 0 y
  exact ⟨h1, h2, h3 _ _ _ (.inl (by omega)) J.r0, h3 _ _ _ (.inl (by omega)) J.r1, h3 _ _ _ (.inl (by omega)) J.r2, fun i => h5 _ _ (J.rf i), h4 _ J.p0, h3 _ _ _ (.inr (by omega)) J.p1, h3 _ _ _ (.inr (by omega)) J.p2, fun i => h5 _ _ (J.pf i)⟩
theorem GetW.set1 (J : GetW w x0 x1 x2 wr) (y : Int) : GetW w x0 y x2 (wr.setCell ⟨w.heap.size + 1, 1, none⟩ (.int .i64 y)).drew := by
  obtain ⟨h1, h2, h3, h4, h5⟩ := J.set_ 1 y
  exact ⟨h1, h2, h3 _ _ _ (.inl (by omega)) J.r0, h3 _ _ _ (.inl (by omega)) J.r1, h3 _ _ _ (.inl (by omega)) J.r2, fun i => h5 _ _ (J.rf i), h3 _ _ _ (.inr (by omega)) J.p0, h4 _ J.p1, h3 _ _ _ (.inr (by omega)) J.p2, fun i => h5 _ _ (J.pf i)⟩
theorem GetW.set2 (J : GetW w x0 x1 x2 wr) (y : Int) : GetW w x0 x1 y (wr.setCell ⟨w.heap.size + 1, 2, none⟩ (.int .i64 y)).drew := by
  obtain ⟨h1, h2, h3, h4, h5⟩ := J.set_ 2 y
  exact ⟨h1, h2, h3 _ _ _ (.inl (by omega)) J.r0, h3 _ _ _ (.inl (by omega)) J.r1, h3 _ _ _ (.inl (by omega)) J.r2, fun i => h5 _ _ (J.rf i), h3 _ _ _ (.inr (by omega)) J.p0, h3 _ _ _ (.inr (by omega)) J.p1, h4 _ J.p2, fun i => h5 _ _ (J.pf i)⟩
end

end Go.Proofs.Ytcgkbpjfbahleaa
namespace Go.Proofs.Ytcgkbpjfbahleaa
open Go.RowKit

/-- The number that is read, what is left, and the error. -/
def nuR (l : List UInt8) (e : Int) : Nat × List UInt8 × Int :=
  if e ≠ 0 then (0, l, e) else match l with
    | [] => (0, [], 9)
    | c :: r => if c.toNat ≤ 247 then (c.toNat, r, 0) else if r.length < c.toNat - 247 then (0, r, 9) else if kN (ofBE (r.take (c.toNat - 247))) ≠ c.toNat - 247 then (0, r.drop (c.toNat - 247), 10) else (ofBE (r.take (c.toNat - 247)), r.drop (c.toNat - 247), 0)
theorem nuR_err {l : List UInt8} {e : Int} (he : e ≠ 0) : nuR l e = (0, l, e) := by unfold nuR; rw [if_pos he]
theorem or_u {x b : Nat} (hx : x < 72057594037927936) (hb : b < 256) : bits .or .u64 (IntKind.u64.wrap ((x : Int) * 256)) (b : Int) = ((x * 256 + b : Nat) : Int) := by
  have e1 : IntKind.u64.wrap ((x : Int) * 256) = ((x * 256 : Nat) : Int) := by rw [IntKind.wrap_u64]; omega
  rw [e1, bits_or_u64_nat _ _ (by omega) (by omega), nat_join 8 (x * 256) b (by omega) (by omega)]

theorem Bs.one {w : World} {K c : Nat} {A : Option Addr} {x : UInt8} (h : Bs w K A c [x]) : ∃ ad, A = some ad ∧ w.cell? ad = some (.int .u8 (x.toNat : Int)) ∧ 1 ≤ c ∧ c ≤ 9223372036854775807 := by
  obtain ⟨ad, rfl, _⟩ := h.some_ (by simp)
  have hc := h.c0 (by simp)
  have h1 := h.le
  have h2 := h.max
  unfold maxLen at h2
  exact ⟨ad, rfl, hc, h1, by omega⟩
set_option maxRecDepth 100000 in
set_option maxHeartbeats 3200000 in
theorem rnum_any (K b : Nat) (l : List UInt8) (e : Int) (w : World) (h : Rd w K b l e) :
    Calls Try.prog 50 #[.pointer (some ⟨b, 0, none⟩)] w fun en w' => en = .returned (.int .u64 ((nuR l e).1 : Int)) ∧ Rst w K b (nuR l e).2.1 (nuR l e).2.2 w' := by
  have HT := take_any 1 K b l e w h (by decide)
  by_cases he : e ≠ 0
  · rw [nuR_err he]
    have e1 : tkB 1 l e = [] := if_pos he
    have e2 : tkL 1 l e = l := if_pos he
    have e3 : tkE 1 l e = e := if_pos he
    rw [e1, e2, e3] at HT
    have HH := Lib.hid HT
    clear HT h e1 e2 e3 he
    go_enter Try.func50, Try.ntmps50
    go_wp2_with (go_at_call 53; refine HH.out.mono ?_; rintro en w1 ⟨⟨A, c, rfl, hs⟩, hr⟩)
    go_ret
    exact ⟨rfl, hr⟩
  · have he0 : e = 0 := by omega
    subst he0
    clear he
    match l, h, HT with
    | [], h, HT =>
      have HH := Lib.hid HT
      clear HT h
      go_enter Try.func50, Try.ntmps50
      go_wp2_with (go_at_call 53; refine HH.out.mono ?_; rintro en w1 ⟨⟨A, c, rfl, hs⟩, hr⟩)
      go_ret
      exact ⟨rfl, hr⟩
    | x :: r, h, HT =>
      have e1 : tkB 1 (x :: r) 0 = [x] := by simp [tkB]
      have e2 : tkL 1 (x :: r) 0 = r := by simp [tkL]
      have e3 : tkE 1 (x :: r) 0 = 0 := by simp [tkE]
      rw [e1, e2, e3] at HT
      have HH := Lib.hid HT
      have hx8 : x.toNat < 256 := x.toNat_lt
      by_cases hx : x.toNat ≤ 247
      · have e4 : nuR (x :: r) 0 = (x.toNat, r, 0) := by simp [nuR, hx]
        rw [e4]
        clear HT h e1 e2 e3 e4
        go_enter Try.func50, Try.ntmps50
        go_wp2_with (go_at_call 53; go_loud (refine HH.out.mono ?_; rintro en w1 ⟨⟨A, c, rfl, hs⟩, hr⟩; obtain ⟨ad, rfl, hc, hcap, hmx⟩ := hs.one))
        go_ret
        exact ⟨rfl, hr⟩
      · obtain ⟨k, hk⟩ : ∃ k, x.toNat = 247 + k := ⟨x.toNat - 247, by omega⟩
        have hk0 : 0 < k := by omega
        have hk8 : k ≤ 8 := by omega
        have hsub : x.toNat - 247 = k := by omega
        have hT2 := fun w (h : Rd w K b r 0) => take_any k K b r 0 w h (by omega)
        by_cases hlen : r.length < k
        · have e4 : nuR (x :: r) 0 = (0, r, 9) := by simp [nuR, hx, hsub, hlen]
          have t1 : tkB k r 0 = [] := by simp [tkB, hlen]
          have t2 : tkL k r 0 = r := by simp [tkL, hlen]
          have t3 : tkE k r 0 = 9 := by simp [tkE, hlen]
          rw [e4]
          rw [t1, t2, t3] at hT2
          have H2 := Lib.hid hT2
          clear HT h e1 e2 e3 e4 t1 t2 t3 hT2 hlen
          go_enter Try.func50, Try.ntmps50
          go_wp2_with fail
          refine HH.out.mono ?_
          rintro en w1 ⟨⟨A, c, rfl, hs⟩, hr⟩
          obtain ⟨ad, rfl, hc, hcap, hmx⟩ := hs.one
          rw [hk] at hc
          have H3 := Lib.hid (H2.out w1 hr.rd)
          clear HH H2 hs
          go_wp2_with fail
          have ek : (247 : Int) + (k : Int) - 247 = k := by omega
          rw [ek]
          clear ek
          refine H3.out.mono ?_
          rintro en w2 ⟨⟨A2, c2, rfl, hs2⟩, hr2⟩
          obtain ⟨A4, c4, g0, g1, f0, f1, _⟩ := hr2.rd.out
          have HR := Lib.hid (hr.trans hr2)
          clear hr hr2 hs2 H3
          go_wp2_with fail
          refine wp_loop_rounds 1 ?_
          rw [rounds_succ]
          go_wp2
          go_ret
          exact ⟨rfl, HR.out⟩
        · have t1 : tkB k r 0 = r.take k := by simp [tkB, hlen]
          have t2 : tkL k r 0 = r.drop k := by simp [tkL, hlen]
          have t3 : tkE k r 0 = 0 := by simp [tkE, hlen]
          have e4 : nuR (x :: r) 0 = if kN (ofBE (r.take k)) ≠ k then (0, r.drop k, 10) else (ofBE (r.take k), r.drop k, 0) := by simp [nuR, hx, hsub, hlen]
          rw [e4]
          rw [t1, t2, t3] at hT2
          have hsl : (r.take k).length = k := by simp; omega
          generalize r.take k = seg at *
          generalize r.drop k = rest at *
          subst hsl
          have hcut : cutN seg 0 seg.length = ofBE seg := by unfold cutN; rw [List.drop_zero, List.take_length]
          have hlt64 : ofBE seg < 18446744073709551616 := Nat.lt_of_lt_of_le (ofBE_lt seg) (Nat.le_trans (Nat.pow_le_pow_right (by decide) hk8) (by decide))
          have hbe := behind_any (ofBE seg)
          have H2 := Lib.hid hT2
          have HC := Lib.hid hcut
          have HB := Lib.hid (fun w => behind_any (ofBE seg) w (by omega))
          clear HT h e1 e2 e3 e4 t1 t2 t3 hT2 hlen hcut hbe
          have key : ∀ (v : Nat) (e9 : Int), (if kN (ofBE seg) ≠ seg.length then ((0 : Nat), rest, (10 : Int)) else (ofBE seg, rest, 0)) = (v, rest, e9) → Calls Try.prog 50 #[.pointer (some ⟨b, 0, none⟩)] w fun en w' => en = .returned (.int .u64 (v : Int)) ∧ Rst w K b rest e9 w' := by
            intro v e9 hv
            have HV := Lib.hid hv
            clear hv
            go_enter Try.func50, Try.ntmps50
            go_wp2_with fail
            refine HH.out.mono ?_
            rintro en w1 ⟨⟨A, c, rfl, hs⟩, hr⟩
            obtain ⟨ad, rfl, hc, hcap, hmx⟩ := hs.one
            rw [hk] at hc
            have H3 := Lib.hid (H2.out w1 hr.rd)
            clear HH H2 hs
            go_wp2_with fail
            have ek : (247 : Int) + (seg.length : Int) - 247 = seg.length := by omega
            rw [ek]
            clear ek
            refine H3.out.mono ?_
            rintro en w2 ⟨⟨A2, c2, rfl, hs2⟩, hr2⟩
            obtain ⟨A4, c4, g0, g1, f0, f1, _⟩ := hr2.rd.out
            have HR := Lib.hid (hr.trans hr2)
            have HS := Lib.hid hs2
            clear hr hr2 hs2 H3
            go_wp2_with fail
            go_loopw [5, 30] (fun n s wr => ∃ j : Nat, j ≤ seg.length ∧ n = .int .u64 ((cutN seg 0 j : Nat) : Int) ∧ s = .int .i64 (j : Int) ∧ w2 = wr) (fun _ s _ => seg.length - (intOf s).toNat)
            case atStart => exact ⟨0, by omega, by rw [cutN_zero]; rfl, rfl, rfl⟩
            case round =>
              obtain ⟨j, hj, rfl, rfl, rfl⟩ := hrel
              by_cases hlt : j < seg.length
              · obtain ⟨ad2, rfl, _, hc2⟩ := HS.out.get hlt
                have hb8 : (seg[j]).toNat < 256 := (seg[j]).toNat_lt
                have hx7 : cutN seg 0 j < 72057594037927936 := Nat.lt_of_lt_of_le (cutN_lt seg 0 j) (Nat.le_trans (Nat.pow_le_pow_right (by decide) (show j ≤ 7 by omega)) (by decide))
                have hn := cutN_succ (l := seg) (o := 0) (j := j) (by omega)
                simp only [Nat.zero_add] at hn
                have hor := or_u hx7 hb8
                rw [← hn] at hor
                have hle := HS.out.le
                have hmx2 := HS.out.max
                unfold maxLen at hmx2
                have HOR := Lib.hid hor
                clear hn hx7 hor
                generalize cutN seg 0 j = X at *
                generalize (seg[j]).toNat = B at *
                go_wp2
                go_roundw
                case rel => exact ⟨j + 1, by omega, by rw [HOR.out], rfl, trivial⟩
                case measure => simp [intOf]; omega
              · have hjl : j = seg.length := by omega
                subst hjl
                rw [HC.out]
                by_cases hkk : kN (ofBE seg) = seg.length
                · have hv := HV.out
                  rw [if_neg (by simp [hkk])] at hv
                  simp only [Prod.mk.injEq] at hv
                  obtain ⟨rfl, _, rfl⟩ := hv
                  go_wp2_with (go_at_call 52; go_loud (refine (HB.out _).mono ?_; rintro en w3 ⟨rfl, rfl⟩; rw [hkk]))
                  go_ret
                  exact ⟨rfl, HR.out⟩
                · have hv := HV.out
                  rw [if_pos hkk] at hv
                  simp only [Prod.mk.injEq] at hv
                  obtain ⟨rfl, _, rfl⟩ := hv
                  have hne : ((kN (ofBE seg) : Int) != (seg.length : Int)) = true := by rw [bne_iff_ne]; omega
                  go_wp2_with (go_at_call 52; go_loud (refine (HB.out _).mono ?_; rintro en w3 ⟨rfl, rfl⟩))
                  go_ret
                  exact ⟨rfl, HR.out.rd.err 10, HR.out.tn.then (Tn.setCell _ _ _ _)⟩
          by_cases hkk : kN (ofBE seg) = seg.length
          · have e : (if kN (ofBE seg) ≠ seg.length then ((0 : Nat), rest, (10 : Int)) else (ofBE seg, rest, 0)) = (ofBE seg, rest, 0) := if_neg (by simp [hkk])
            rw [e]; exact key _ _ e
          · have e : (if kN (ofBE seg) ≠ seg.length then ((0 : Nat), rest, (10 : Int)) else (ofBE seg, rest, 0)) = (0, rest, 10) := if_pos hkk
            rw [e]; exact key _ _ e
end Go.Proofs.Ytcgkbpjfbahleaa
namespace Go.Proofs.Ytcgkbpjfbahleaa
open Go.RowKit

/-- A number that may be below 0, as one that may not. -/
def zz (n : Int) : Nat := if 0 ≤ n then (2 * n).toNat else (-2 * n - 1).toNat
theorem zz_le {n : Int} (h0 : -9223372036854775808 ≤ n) (h1 : n ≤ 9223372036854775807) : zz n ≤ 18446744073709551615 := by unfold zz; split <;> omega

theorem ezp {n : Int} (h0 : 0 ≤ n) (h1 : n ≤ 9223372036854775807) : bits .xor .u64 (IntKind.u64.wrap (wrap64 (n * 2))) (n / 9223372036854775808) = ((zz n : Nat) : Int) := by
  have e1 : IntKind.u64.wrap (wrap64 (n * 2)) = (((2 * n).toNat : Nat) : Int) := by
    rw [IntKind.wrap_u64]; unfold wrap64; omega
  have e2 : n / 9223372036854775808 = ((0 : Nat) : Int) := by omega
  rw [e1, e2, bits_xor_u64_nat _ _ (by omega) (by decide), Nat.xor_zero]
  unfold zz
  rw [if_pos h0]
theorem ezn {n : Int} (h0 : -9223372036854775808 ≤ n) (h1 : n < 0) : bits .xor .u64 (IntKind.u64.wrap (wrap64 (n * 2))) (IntKind.u64.wrap (n / 9223372036854775808)) = ((zz n : Nat) : Int) := by
  have e1 : IntKind.u64.wrap (wrap64 (n * 2)) = (((2 * n + 18446744073709551616).toNat : Nat) : Int) := by
    rw [IntKind.wrap_u64]; unfold wrap64; omega
  have e2 : IntKind.u64.wrap (n / 9223372036854775808) = ((2 ^ 64 - 1 : Nat) : Int) := by
    rw [IntKind.wrap_u64]; omega
  rw [e1, e2, bits_xor_u64_nat _ _ (by omega) (by decide), Nat.xor_comm, Lib.xor_ones64 _ (by omega)]
  unfold zz
  rw [if_neg (by omega)]
  omega
theorem Gr.thenTn {w w1 w2 : World} {v v1 : Value} {b : Nat} (h : Gr w w1 v v1) (g : w1.grownBy w2 v1.ownBlock) : Tn (fun k => k = b ∨ v.ownBlock = some k) w w2 :=
  h.tn.thenQ (Tn.ofGrown g) fun k hk e => by
    rcases h.o with e1 | ⟨j, e1, hj⟩
    · exact .inr (by rw [← e1, e])
    · rw [e1] at e; injection e with e; omega
theorem Gr.ne2 {w w' : World} {v v' : Value} {b : Nat} (h : Gr w w' v v') (hne : v.ownBlock ≠ some b) (hb : b < w.heap.size) : v'.ownBlock ≠ some b := by
  rcases h.o with e | ⟨j, e, hj⟩
  · rw [e]; exact hne
  · rw [e]; intro e2; injection e2 with e2; omega
theorem Wst.mk1 {w : World} {K b : Nat} {v : Value} {l : List UInt8} {e : Ending} {w' : World} (h : ∃ v', Wst w K b v l e w' v') : e = .returned (.tuple #[]) ∧ ∃ v', Wst w K b v l e w' v' := by
  obtain ⟨v', h⟩ := h
  exact ⟨h.e, v', h⟩
set_option maxHeartbeats 800000 in
theorem wint_any (n : Int) (h0 : -9223372036854775808 ≤ n) (h1 : n ≤ 9223372036854775807) (K b : Nat) (v : Value) (l : List UInt8) (w : World) (h : Wr w K b v l) (hsz : l.length + 9 ≤ 140737488355328) :
    Calls Try.prog 37 #[.pointer (some ⟨b, 0, none⟩), .int .i64 n] w fun e w' => ∃ v', Wst w K b v (l ++ numB (zz n)) e w' v' := by
  have HN := Lib.hid (wnum_any (zz n) (zz_le h0 h1) K b v l w h hsz)
  clear h
  by_cases hn : 0 ≤ n
  · go_enter Try.func37, Try.ntmps37
    go_wp2_with fail
    rw [ezp hn h1]
    refine HN.out.mono ?_
    intro e w1 he
    obtain ⟨rfl, he⟩ := Wst.mk1 he
    go_wp2_with fail
    go_end0
    exact he
  · go_enter Try.func37, Try.ntmps37
    go_wp2_with fail
    rw [ezn h0 (by omega)]
    refine HN.out.mono ?_
    intro e w1 he
    obtain ⟨rfl, he⟩ := Wst.mk1 he
    go_wp2_with fail
    go_end0
    exact he
theorem info_parts8 : ∃ i0, Try.prog.info? 5 = some i0 ∧ i0.zero = some (.int .u8 0) ∧ i0.size = 1 ∧ i0.bytes = 1 := info_parts info_u8
theorem strCells_bv (s : ByteArray) : Lib.strCells s = s.data.toList.map bv := by
  simp [Lib.strCells]
theorem run_appS (w : World) (ty : TypeId) (K : Nat) (v : Value) (l : List UInt8) (hown : Ob w K v l) (t : ByteArray) (hsz : l.length + t.size ≤ 140737488355328) (hbase : K ≤ w.heap.size) :
    ∃ A' cap' w', (Builtin.append_ #[53, 9] ty #[v, .string t]).run Try.prog w = .ok (.slice A' (l ++ t.data.toList).length cap') w' ∧ Ob w' K (.slice A' (l ++ t.data.toList).length cap') (l ++ t.data.toList) ∧ w.grownBy w' v.ownBlock ∧ OwnOr w v (.slice A' (l ++ t.data.toList).length cap') := by
  obtain ⟨i0, hi, hz, h1, hb⟩ := info_parts8
  have hml : l.length + t.size ≤ maxLen := by unfold maxLen; omega
  have htl : t.data.toList.length = t.size := by simp
  obtain ⟨v', w', hr, ho, hg, hnil⟩ := Lib.run_append_own_string (P := Try.prog) w K 53 9 ty 5 i0 Try.underlying53 Try.underlying9 hi hz h1 hb v l.length (l.map bv) hown t hml hsz hbase
  have ho' : Ob w' K v' (l ++ t.data.toList) := by
    unfold Ob
    rw [List.map_append, List.length_append, htl, ← strCells_bv]
    exact ho
  obtain ⟨A', cap', hv⟩ := ho'.form
  subst hv
  refine ⟨A', cap', w', hr, ho', hg, ?_⟩
  rcases hown.2 with ⟨he, h0⟩ | ⟨g, cap, cur, he, hKg, hblk, hn, hc, hs, ht⟩
  · subst he
    by_cases hm : t.size = 0
    · have := hnil.2 ⟨rfl, hm⟩
      rw [this]
      exact .inl rfl
    · have h2 := run_append_nil_string (P := Try.prog) w 53 9 ty 5 i0 (.int .u8 0) Try.underlying53 Try.underlying9 hi hz t (by omega) (by omega) (by rw [hb]; omega)
      rw [hr] at h2
      injection h2 with h2 _
      rw [h2]
      exact .inr ⟨_, rfl, Nat.le_refl _⟩
  · subst he
    by_cases hroom : l.length + t.size ≤ cap
    · have h2 := Lib.run_append_room_string (P := Try.prog) w 53 9 ty 5 i0 Try.underlying53 Try.underlying9 hi h1 g l.length cap cur hblk t hroom (by omega)
      rw [hr] at h2
      injection h2 with h2 _
      rw [h2]
      exact .inl rfl
    · have holds : ∀ j u, (l.map bv)[j]? = some u → w.cell? ((⟨g, 0, none⟩ : Addr).add j) = some u := World.ownsRow.cells (h := hown) (g := g) rfl
      have h2 := Lib.run_append_grow_string (P := Try.prog) w 53 9 ty 5 i0 (.int .u8 0) Try.underlying53 Try.underlying9 hi hz ⟨g, 0, none⟩ l.length cap (l.map bv) (by simp [h1]) holds t (by omega) (by omega) (by rw [hb]; exact growslice_fits (by omega) (by omega))
      rw [hr] at h2
      injection h2 with h2 _
      rw [h2]
      exact .inr ⟨_, rfl, Nat.le_refl _⟩
/-- append of a text's bytes. -/
theorem wpList_appS {ops : Array Oper} {rest : List Oper} {o : Oper} {a : Act} {Q : Exit → Act → World → Prop} (w : World) (hgd : o.guard = none) (s x : Operand)
    (ho : o.op = .call { callee := .builtin .append, args := #[s, x], argTypes := #[53, 9] })
    (K : Nat) (v : Value) (l : List UInt8) (hs : a.eval s = v) (hown : Ob w K v l) (t : ByteArray) (hx : a.eval x = .string t)
    (hsz : l.length + t.size ≤ 140737488355328) (hbase : K ≤ w.heap.size)
    (h : ∀ A' cap' w', Ob w' K (.slice A' (l ++ t.data.toList).length cap') (l ++ t.data.toList) → w.grownBy w' v.ownBlock → OwnOr w v (.slice A' (l ++ t.data.toList).length cap') → wpList Try.prog ops Q rest (a.put o.dst (.slice A' (l ++ t.data.toList).length cap')) w') : wpList Try.prog ops Q (o :: rest) a w := by
  refine wpList_plain hgd fun _ hK => ?_
  obtain ⟨A', cap', w', hr, h2, h3, h4⟩ := run_appS w o.type K v l hown t hsz hbase
  unfold Oper.wp execOp
  simp only [ho, resolve, invoke, builtin, Sem.run_bind, Sem.run_pure, Result.andThen_ok, List.map_toArray, List.map_cons, List.map_nil, hs, hx, hr]
  exact hK _ _ (h A' cap' w' h2 h3 h4)

/-- append of bytes, at a step of a region that draws. -/
theorem step_app {ops : Array Oper} {o : Oper} {a : Act} {w : World} {Kk : Act → World → Prop} {Q : Exit → Act → World → Prop} {E : Prop} (hgd : o.guard = none) (s x : Operand)
    (ho : o.op = .call { callee := .builtin .append, args := #[s, x], argTypes := #[53, 53] })
    (K : Nat) (v : Value) (l : List UInt8) (hs : a.eval s = v) (hown : Ob w K v l) (A : Option Addr) (M cap : Nat) (m : List UInt8) (hx : a.eval x = .slice A M cap) (hM : m.length = M) (K' : Nat) (hsrc : Bs w K' A cap m)
    (N : Nat) (hN : l.length + m.length = N) (hsz : l.length + m.length ≤ 140737488355328) (hbase : K ≤ w.heap.size)
    (h : ∀ A' cap' w', Ob w' K (.slice A' N cap') (l ++ m) → w.grownBy w' v.ownBlock → OwnOr w v (.slice A' N cap') → Kk (a.put o.dst (.slice A' N cap')) w') : if Region.wanted o (yielded ops a.tmps) = true then Oper.wp Try.prog o a w Kk Q else E := by
  subst hN hM
  have hw : Region.wanted o (yielded ops a.tmps) = true := by simp [Region.wanted, hgd]
  rw [if_pos hw]
  obtain ⟨A', cap', w', hr, h2, h3, h4⟩ := run_app w o.type hown hsrc hsz hbase
  unfold Oper.wp execOp
  simp only [ho, resolve, invoke, builtin, Sem.run_bind, Sem.run_pure, Result.andThen_ok, List.map_toArray, List.map_cons, List.map_nil, hs, hx, hr]
  exact h A' cap' w' h2 h3 (h4.imp id fun e => ⟨_, e, Nat.le_refl _⟩)
theorem keptFa {X : World} {p : Addr} {v : Value} {o : Obj} (hc : X.cell? p = some v) (h : X.frozen? p = false) : (X.alloc o).frozen? p = false :=
  ((Tn.alloc (P := fun _ => False) X o).frozen (World.block_lt_of_cell? X p hc) id).trans h

end Go.Proofs.Ytcgkbpjfbahleaa
namespace Go.Proofs.Ytcgkbpjfbahleaa
open Go.RowKit

theorem ofBE_lt8 {l : List UInt8} (h : l.length ≤ 8) : ofBE l < 18446744073709551616 := Nat.lt_of_lt_of_le (ofBE_lt l) (Nat.le_trans (Nat.pow_le_pow_right (by decide) h) (by decide))
theorem nuR_lt (l : List UInt8) (e : Int) : (nuR l e).1 ≤ 18446744073709551615 := by
  unfold nuR
  split
  · simp
  · match l with
    | [] => simp
    | c :: r =>
      have hc : c.toNat < 256 := c.toNat_lt
      have := ofBE_lt8 (l := r.take (c.toNat - 247)) (by simp; omega)
      simp only
      repeat' split
      all_goals (simp only)
      all_goals omega
def unzz (n : Nat) : Int := if n % 2 = 0 then ((n / 2 : Nat) : Int) else -((n / 2 : Nat) : Int) - 1
theorem unzz_zz (n : Int) (h0 : -9223372036854775808 ≤ n) (h1 : n ≤ 9223372036854775807) : unzz (zz n) = n := by
  unfold unzz zz
  split <;> split <;> omega

theorem xor_i64c (a b : Int) : bits .xor .i64 a b = bits .xor .i64 b a := by
  show IntKind.i64.wrap ((BitVec.ofInt 64 a ^^^ BitVec.ofInt 64 b).toNat : Int) = IntKind.i64.wrap ((BitVec.ofInt 64 b ^^^ BitVec.ofInt 64 a).toNat : Int)
  rw [BitVec.xor_comm]
theorem xor_i640 (x : Nat) (hx : x < 9223372036854775808) : bits .xor .i64 (x : Int) 0 = (x : Int) := by
  show IntKind.i64.wrap ((BitVec.ofInt 64 (x : Int) ^^^ BitVec.ofInt 64 0).toNat : Int) = _
  have h0 : BitVec.ofInt 64 0 = 0#64 := by decide
  rw [h0, BitVec.xor_zero, BitVec.toNat_ofInt, IntKind.wrap_i64]
  omega
theorem unzz_eq (n : Nat) (h : n ≤ 18446744073709551615) : bits .xor .i64 ((n : Int) / 2) (wrap64 (-wrap64 (bits .and .u64 (n : Int) 1))) = unzz n := by
  rw [Lib.u64_and1 _ (by omega) (by omega)]
  have e : ((n : Int) / 2) = ((n / 2 : Nat) : Int) := by omega
  rw [e]
  unfold unzz
  split
  · have e0 : wrap64 (-wrap64 ((n : Int) % 2)) = 0 := by unfold wrap64; omega
    rw [e0]
    exact xor_i640 _ (by omega)
  · have e0 : wrap64 (-wrap64 ((n : Int) % 2)) = -1 := by unfold wrap64; omega
    rw [e0, xor_i64c]
    exact Lib.i64_not _ (by omega)

set_option maxRecDepth 100000 in
set_option maxHeartbeats 3200000 in
theorem rint_any (K b : Nat) (l : List UInt8) (e : Int) (w : World) (h : Rd w K b l e) :
    Calls Try.prog 40 #[.pointer (some ⟨b, 0, none⟩)] w fun en w' => en = .returned (.int .i64 (unzz (nuR l e).1)) ∧ Rst w K b (nuR l e).2.1 (nuR l e).2.2 w' := by
  have HN := Lib.hid (rnum_any K b l e w h)
  have hlt := nuR_lt l e
  clear h
  generalize (nuR l e).1 = n at *
  generalize (nuR l e).2.1 = l1 at *
  generalize (nuR l e).2.2 = e1 at *
  go_enter Try.func40, Try.ntmps40
  go_wp2_with (go_at_call 50; refine HN.out.mono ?_; rintro en w1 ⟨rfl, hr⟩)
  go_ret
  exact ⟨congrArg (fun z => Ending.returned (.int .i64 z)) (unzz_eq n hlt), hr⟩

/-- A Count: the number, what is left, the error. -/
def cnR (most : Int) (l : List UInt8) (e : Int) : Nat × List UInt8 × Int :=
  if (nuR l e).2.2 ≠ 0 then (0, (nuR l e).2.1, (nuR l e).2.2) else if most < 0 then (0, (nuR l e).2.1, 8) else if most < ((nuR l e).1 : Int) then (0, (nuR l e).2.1, 8) else ((nuR l e).1, (nuR l e).2.1, 0)
theorem cnR_le (most : Int) (hm : most ≤ 9223372036854775807) (l : List UInt8) (e : Int) : (cnR most l e).1 ≤ 9223372036854775807 := by
  unfold cnR
  repeat' split
  all_goals (simp only)
  all_goals omega
set_option maxRecDepth 100000 in
set_option maxHeartbeats 3200000 in
theorem rcount_any (most : Int) (hm0 : -9223372036854775808 ≤ most) (hm : most ≤ 9223372036854775807) (K b : Nat) (l : List UInt8) (e : Int) (w : World) (h : Rd w K b l e) :
    Calls Try.prog 41 #[.pointer (some ⟨b, 0, none⟩), .int .i64 most] w fun en w' => en = .returned (.int .i64 ((cnR most l e).1 : Int)) ∧ Rst w K b (cnR most l e).2.1 (cnR most l e).2.2 w' := by
  have HN := Lib.hid (rnum_any K b l e w h)
  have hlt := nuR_lt l e
  clear h
  unfold cnR
  generalize (nuR l e).1 = n at *
  generalize (nuR l e).2.1 = l1 at *
  generalize (nuR l e).2.2 = e1 at *
  by_cases he : e1 ≠ 0
  · rw [if_pos he]
    go_enter Try.func41, Try.ntmps41
    go_wp2_with (first
      | (go_at_call 50; refine HN.out.mono ?_; rintro en w1 ⟨rfl, hr⟩)
      | (go_at_call 42; go_loud (refine (rerr_any K b l1 e1 _ hr.rd).mono ?_; rintro en w' ⟨rfl, rfl⟩)))
    go_ret
    exact ⟨rfl, hr⟩
  · have he0 : e1 = 0 := by omega
    subst he0
    rw [if_neg he]
    clear he
    by_cases hneg : most < 0
    · rw [if_pos hneg]
      go_enter Try.func41, Try.ntmps41
      go_wp2_with (first
        | (go_at_call 50; refine HN.out.mono ?_; rintro en w1 ⟨rfl, hr⟩; obtain ⟨A4, c4, g0, g1, f0, f1, _⟩ := hr.rd.out)
        | (go_at_call 42; go_loud (refine (rerr_any K b l1 0 _ hr.rd).mono ?_; rintro en w' ⟨rfl, rfl⟩)))
      go_ret
      exact ⟨rfl, hr.rd.err 8, hr.tn.then (Tn.setCell _ _ _ _)⟩
    · rw [if_neg hneg]
      by_cases hmo : most < (n : Int)
      · rw [if_pos hmo]
        go_enter Try.func41, Try.ntmps41
        go_wp2_with (first
          | (go_at_call 50; refine HN.out.mono ?_; rintro en w1 ⟨rfl, hr⟩; obtain ⟨A4, c4, g0, g1, f0, f1, _⟩ := hr.rd.out)
          | (go_at_call 42; go_loud (refine (rerr_any K b l1 0 _ hr.rd).mono ?_; rintro en w' ⟨rfl, rfl⟩)))
        go_ret
        exact ⟨rfl, hr.rd.err 8, hr.tn.then (Tn.setCell _ _ _ _)⟩
      · rw [if_neg hmo]
        go_enter Try.func41, Try.ntmps41
        go_wp2_with (first
          | (go_at_call 50; refine HN.out.mono ?_; rintro en w1 ⟨rfl, hr⟩)
          | (go_at_call 42; go_loud (refine (rerr_any K b l1 0 _ hr.rd).mono ?_; rintro en w' ⟨rfl, rfl⟩)))
        go_ret
        exact ⟨rfl, hr⟩

/-- A Text: the bytes, what is left, the error. -/
def txB (most : Int) (l : List UInt8) (e : Int) : List UInt8 := tkB (cnR most l e).1 (cnR most l e).2.1 (cnR most l e).2.2
def txL (most : Int) (l : List UInt8) (e : Int) : List UInt8 := tkL (cnR most l e).1 (cnR most l e).2.1 (cnR most l e).2.2
def txE (most : Int) (l : List UInt8) (e : Int) : Int := tkE (cnR most l e).1 (cnR most l e).2.1 (cnR most l e).2.2
set_option maxRecDepth 100000 in
set_option maxHeartbeats 1600000 in
theorem rend_any (K b : Nat) (l : List UInt8) (e : Int) (w : World) (h : Rd w K b l e) :
    Calls Try.prog 30 #[.pointer (some ⟨b, 0, none⟩)] w fun en w' => en = .returned (.int .i64 (if e = 0 ∧ 0 < l.length then 10 else e)) ∧ Rst w K b l (if e = 0 ∧ 0 < l.length then 10 else e) w' := by
  have HX := Lib.hid h
  have HE := Lib.hid (fun w e (h : Rd w K b l e) => rerr_any K b l e w h)
  obtain ⟨A, cap, h0, h1, f0, f1, hs⟩ := h.out
  clear h hs
  by_cases he : e = 0
  · subst he
    by_cases hl : 0 < l.length
    · rw [if_pos ⟨rfl, hl⟩]
      go_enter Try.func30, Try.ntmps30
      go_wp2_with (first
        | (go_at_call 42; refine (HE.out _ 0 HX.out).mono ?_; rintro en w' ⟨rfl, rfl⟩)
        | (go_at_call 42; refine (HE.out _ 10 (HX.out.err 10)).mono ?_; rintro en w' ⟨rfl, rfl⟩))
      go_ret
      exact ⟨rfl, HX.out.err 10, Tn.setCell _ _ _ _⟩
    · rw [if_neg (fun h => hl h.2)]
      go_enter Try.func30, Try.ntmps30
      go_wp2_with (go_at_call 42; refine (HE.out _ 0 HX.out).mono ?_; rintro en w' ⟨rfl, rfl⟩)
      go_ret
      exact ⟨rfl, Rst.refl HX.out⟩
  · rw [if_neg (fun h => he h.1)]
    have hne : (e == 0) = false := by simpa using he
    go_enter Try.func30, Try.ntmps30
    go_wp2_with (go_at_call 42; refine (HE.out _ e HX.out).mono ?_; rintro en w' ⟨rfl, rfl⟩)
    go_ret
    exact ⟨rfl, Rst.refl HX.out⟩
end Go.Proofs.Ytcgkbpjfbahleaa
