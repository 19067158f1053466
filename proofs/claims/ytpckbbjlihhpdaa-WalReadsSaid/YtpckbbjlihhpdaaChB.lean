/- Steps of a log, among a law's arguments. -/
import Derived.Test.YtpckbbjlihhpdaaChA
import Derived.WalkSpells
import Derived.LoopTactic
import Derived.Laws.BitsAllLaws
import Derived.Test.YtpckbbjlihhpdaaProg
import Derived.Deep.QuietTactic
import Derived.BigQuiet
import Derived.Laws.BitsLemmas
import Derived.Deep.RegionHeld3
import Derived.Deep.AppendLies
import Derived.Deep.CutBlock
import Derived.RangeFuncNested
import Derived.RangeFuncBound
import Derived.RangeFuncCalls
import Derived.RangeFuncLeaves
import Derived.RangeFuncBox
import Derived.Shelf.Abstract
import Derived.WalkKit
import Derived.OwnWalkIn
import Derived.TacticsInMore
import Derived.LoopNIn
import Derived.LoopIn
namespace Go.Proofs.Ytpckbbjlihhpdaa
open Go.RowKit

theorem bclone_any (K : Nat) (A : Option Addr) (n cap : Nat) (l : List UInt8) (w : World) (hn : l.length = n) (hb : Bs w K A cap l) (hK : K ≤ w.heap.size) (hsz : l.length ≤ 140737488355328) :
    Calls Try.prog 71 #[.slice A n cap] w (NewBytes w l) := by
  subst hn
  have hle := hb.le
  have hmax := hb.max
  unfold maxLen at hmax
  cases A with
  | none =>
    have hc := hb.nil rfl
    have hl : l = [] := List.eq_nil_of_length_eq_zero (by omega)
    subst hl hc
    have hq := Lib.run_eql_slice_nil (P := Try.prog) w 30 5 none 0 0 0 0 Try.underlying30
    go_enter Try.func71, Try.ntmps71
    go_wp2
    go_ret
    exact ⟨none, 0, rfl, Ob.empty _ _, Below.refl _ _⟩
  | some ad =>
    have hq := Lib.run_eql_slice_nil (P := Try.prog) w 30 5 (some ad) l.length cap 0 0 Try.underlying30
    go_enter Try.func71, Try.ntmps71
    go_wp2_with (at_builtin; refine wpList_app _ rfl (.tmp 5) (.tmp 6) rfl w.heap.size (.slice (some ⟨w.heap.size, 0, none⟩) 0 0) [] rfl (lit_ob _ w.heap.size w.heap.size rfl (Nat.le_refl _) _ 0 [] rfl rfl (by decide)) (some ad) l.length cap l rfl rfl K (hb.alloc hK _) l.length (by simp) (by simpa using hsz) (by simp) ?_; intro A2 cap2 w2 hown2 hgrow2 hat2; have B2 : Below w.heap.size w w2 := grown_below ((Below.refl _ _).alloc (Nat.le_refl _) _) hgrow2 (by simp) (by simp [Value.ownBlock]))
    go_ret
    exact ⟨A2, cap2, rfl, hown2, B2⟩
end Go.Proofs.Ytpckbbjlihhpdaa
/- The check sum of bytes, as plain numbers. -/
namespace Go.Proofs.Ytpckbbjlihhpdaa

def polyN : Nat := 2197175160
def fullN : Nat := 4294967295
/-- One bit. -/
def bitStep (c : Nat) : Nat := if c % 2 = 1 then (c / 2) ^^^ polyN else c / 2
/-- k bits. -/
def bitsTo (c : Nat) : Nat → Nat
  | 0 => c
  | k + 1 => bitStep (bitsTo c k)
/-- One byte. -/
def byteStep (c : Nat) (b : UInt8) : Nat := bitsTo (c ^^^ b.toNat) 8
def crcTo (c : Nat) (l : List UInt8) : Nat := l.foldl byteStep c
def crcN (s : Nat) (l : List UInt8) : Nat := fullN - crcTo (fullN - s) l

theorem bitStep_lt {c : Nat} (h : c < 4294967296) : bitStep c < 4294967296 := by
  unfold bitStep
  split
  · exact Nat.xor_lt_two_pow (n := 32) (by omega) (by decide)
  · omega
theorem bitsTo_lt {c : Nat} (h : c < 4294967296) : ∀ k, bitsTo c k < 4294967296
  | 0 => h
  | k + 1 => bitStep_lt (bitsTo_lt h k)
theorem xor_byte_lt {c : Nat} (h : c < 4294967296) (b : UInt8) : c ^^^ b.toNat < 4294967296 :=
  Nat.xor_lt_two_pow (n := 32) (by omega) (by have := b.toNat_lt; omega)
theorem byteStep_lt {c : Nat} (h : c < 4294967296) (b : UInt8) : byteStep c b < 4294967296 := bitsTo_lt (xor_byte_lt h b) 8
theorem crcTo_lt : ∀ (l : List UInt8) {c : Nat}, c < 4294967296 → crcTo c l < 4294967296
  | [], _, h => h
  | b :: l, _, h => crcTo_lt l (byteStep_lt h b)
theorem crcTo_append (c : Nat) (l m : List UInt8) : crcTo c (l ++ m) = crcTo (crcTo c l) m := List.foldl_append ..
theorem crcN_lt (s : Nat) (l : List UInt8) : crcN s l < 4294967296 := by unfold crcN fullN; omega
theorem full_back {c : Nat} (h : c < 4294967296) : fullN - (fullN - c) = c := by unfold fullN; omega
theorem crcN_append {s : Nat} (l m : List UInt8) : crcN (crcN s l) m = crcN s (l ++ m) := by
  unfold crcN
  rw [full_back (crcTo_lt l (by unfold fullN; omega)), crcTo_append]
theorem crcTo_take {c : Nat} {l : List UInt8} {k : Nat} (h : k < l.length) : crcTo c (l.take (k + 1)) = byteStep (crcTo c (l.take k)) l[k] := by
  rw [List.take_succ_eq_append_getElem h, crcTo_append]; rfl

end Go.Proofs.Ytpckbbjlihhpdaa
namespace Go.Proofs.Ytpckbbjlihhpdaa

def hd4 (k : UInt8) (n : Nat) : List UInt8 := [k, UInt8.ofNat (n / 65536), UInt8.ofNat (n / 256), UInt8.ofNat n]
def le4 (c : Nat) : List UInt8 := [UInt8.ofNat c, UInt8.ofNat (c / 256), UInt8.ofNat (c / 65536), UInt8.ofNat (c / 16777216)]
def sumB (k : UInt8) (l : List UInt8) : Nat := crcN 0 (hd4 k l.length ++ l)
/-- The frame of kind k with payload l. -/
def sealB (k : UInt8) (l : List UInt8) : List UInt8 := 167 :: hd4 k l.length ++ le4 (sumB k l) ++ l
theorem sealB_length (k : UInt8) (l : List UInt8) : (sealB k l).length = 9 + l.length := by simp [sealB, hd4, le4]; omega
theorem sumB_lt (k : UInt8) (l : List UInt8) : sumB k l < 4294967296 := crcN_lt _ _
theorem ofNat_int (x : Nat) : ((UInt8.ofNat x).toNat : Int) = (x : Int) % 256 := by simp

end Go.Proofs.Ytpckbbjlihhpdaa
namespace Go.Proofs.Ytpckbbjlihhpdaa
open Go.RowKit

theorem max_u32 : IntKind.u32.max = 4294967295 := by decide
theorem not_nat {s : Nat} (h : s < 4294967296) : 4294967295 ^^^ s = fullN - s := by
  unfold fullN
  rw [Nat.xor_comm]
  have h2 : (BitVec.ofNat 32 s ^^^ BitVec.allOnes 32) = ~~~ BitVec.ofNat 32 s := BitVec.xor_allOnes
  have h3 := congrArg BitVec.toNat h2
  simp only [BitVec.toNat_xor, BitVec.toNat_not, BitVec.toNat_ofNat, BitVec.toNat_allOnes] at h3
  rw [Nat.mod_eq_of_lt h] at h3
  omega
theorem not_u32 {s : Nat} (hs : s < 4294967296) : bits .xor .u32 IntKind.u32.max (s : Int) = ((fullN - s : Nat) : Int) := by
  rw [max_u32, show (4294967295 : Int) = ((4294967295 : Nat) : Int) from rfl, u32_xor_nat _ _ (by omega) hs, not_nat hs]
theorem bit_u32 {z : Nat} (h : z < 4294967296) : bits .xor .u32 ((z : Int) / 2) (bits .and .u32 2197175160 (-bits .and .u32 (z : Int) 1 % 4294967296)) = ((bitStep z : Nat) : Int) := by
  unfold bitStep
  have f1 : bits .and .u32 (z : Int) 1 = (z : Int) % 2 := by
    rw [show (1 : Int) = ((1 : Nat) : Int) from rfl, u32_and_nat _ _ h (by omega), nat_mask1]; omega
  rw [f1]
  by_cases e : z % 2 = 1
  · have e1 : -((z : Int) % 2) % 4294967296 = ((4294967295 : Nat) : Int) := by omega
    rw [if_pos e, e1, show (2197175160 : Int) = ((2197175160 : Nat) : Int) from rfl, u32_and_nat _ _ (by omega) (by omega), show ((z : Int) / 2) = ((z / 2 : Nat) : Int) by omega, u32_xor_nat _ _ (by omega) (Nat.and_lt_two_pow (n := 32) _ (by omega))]
    rfl
  · have e1 : -((z : Int) % 2) % 4294967296 = ((0 : Nat) : Int) := by omega
    rw [if_neg e, e1, show (2197175160 : Int) = ((2197175160 : Nat) : Int) from rfl, u32_and_nat _ _ (by omega) (by omega), show ((z : Int) / 2) = ((z / 2 : Nat) : Int) by omega, u32_xor_nat _ _ (by omega) (Nat.and_lt_two_pow (n := 32) _ (by omega))]
    simp

set_option maxHeartbeats 800000 in
theorem crc_any (s : Nat) (hs : s < 4294967296) (K : Nat) (A : Option Addr) (cap : Nat) (l : List UInt8) (w : World) (hb : Bs w K A cap l) :
    Calls Try.prog 72 #[.int .u32 (s : Int), .slice A l.length cap] w fun e w' => e = .returned (.int .u32 (crcN s l : Int)) ∧ w = w' := by
  have hle := hb.le
  have hmax := hb.max
  unfold maxLen at hmax
  have e0 := not_u32 hs
  go_enter Try.func72, Try.ntmps72
  go_wp2
  clear e0
  go_loop [5, 12] (fun c i => ∃ k : Nat, k ≤ l.length ∧ i = .int .i64 k ∧ c = .int .u32 (crcTo (fullN - s) (l.take k))) (fun _ i => l.length - (intOf i).toNat)
  case atStart => exact ⟨0, Nat.zero_le _, rfl, rfl⟩
  case round =>
    obtain ⟨k, hk, rfl, rfl⟩ := hrel
    have hc := crcTo_lt (l.take k) (c := fullN - s) (by unfold fullN; omega)
    by_cases hlt : k < l.length
    · obtain ⟨ad, rfl, _, hcell⟩ := hb.get hlt
      have hstep := crcTo_take (c := fullN - s) hlt
      have hy := l[k].toNat_lt
      generalize l[k] = b at *
      generalize crcTo (fullN - s) (l.take k) = c at *
      have Hs := Lib.hid hstep
      clear hstep
      have ex : bits .xor .u32 (c : Int) (b.toNat : Int) = ((c ^^^ b.toNat : Nat) : Int) := u32_xor_nat _ _ hc (by omega)
      go_wp2
      clear ex
      have hx := xor_byte_lt hc b
      go_loop [5, 20] (fun c' i => ∃ j : Nat, j ≤ 8 ∧ i = .int .i64 j ∧ c' = .int .u32 (bitsTo (c ^^^ b.toNat) j)) (fun _ i => 8 - (intOf i).toNat)
      case atStart => exact ⟨0, Nat.zero_le _, rfl, rfl⟩
      case round =>
        obtain ⟨j, hj, rfl, rfl⟩ := hrel
        have hz := bitsTo_lt hx j
        by_cases hlt : j < 8
        · have hzz : bitStep (bitsTo (c ^^^ b.toNat) j) = bitsTo (c ^^^ b.toNat) (j + 1) := rfl
          generalize bitsTo (c ^^^ b.toNat) j = z at *
          have Hz := Lib.hid hzz
          clear hzz
          go_wp2
          go_round
          case rel => exact ⟨j + 1, by omega, by go_num, by rw [bit_u32 hz, Hz.out]⟩
          case measure => simp [intOf]; omega
        · have hj8 : j = 8 := by omega
          subst hj8
          have hzz : bitsTo (c ^^^ b.toNat) 8 = byteStep c b := rfl
          rw [hzz] at hz ⊢
          generalize byteStep c b = y at *
          clear hzz
          go_wp2
          go_round
          case rel => exact ⟨k + 1, by omega, by go_num, by rw [Hs.out]⟩
          case measure => simp [intOf]; omega
    · have hkl : k = l.length := by omega
      subst hkl
      rw [List.take_length] at hc ⊢
      have e1 := not_u32 hc
      go_wp2
      go_ret
      exact ⟨rfl, rfl⟩

end Go.Proofs.Ytpckbbjlihhpdaa
namespace Go.Proofs.Ytpckbbjlihhpdaa
open Go.RowKit

set_option maxRecDepth 100000 in
theorem crc_zero (K : Nat) (A : Option Addr) (n cap : Nat) (l : List UInt8) (w : World) (hn : l.length = n) (hb : Bs w K A cap l) :
    Calls Try.prog 72 #[.int .u32 0, .slice A n cap] w fun e w' => e = .returned (.int .u32 (crcN 0 l : Int)) ∧ w = w' := by
  subst hn
  exact crc_any 0 (by omega) K A cap l w hb

set_option maxRecDepth 100000 in
theorem sumOf_any (K : Nat) (A : Option Addr) (cap : Nat) (h : List UInt8) (K' : Nat) (A' : Option Addr) (cap' : Nat) (l : List UInt8) (w : World) (hb : Bs w K A cap h) (hl : 5 ≤ h.length) (hb' : Bs w K' A' cap' l) :
    Calls Try.prog 67 #[.slice A h.length cap, .slice A' l.length cap'] w fun e w' => e = .returned (.int .u32 (crcN 0 ((h.drop 1).take 4 ++ l) : Int)) ∧ w = w' := by
  have hle := hb.le
  have hmax := hb.max
  unfold maxLen at hmax
  obtain ⟨ad, rfl, _⟩ := hb.some_ (by omega)
  have hcut := hb.cutS (i := 1) (j := 5) (by omega) (by omega) hl (by omega)
  have h4 : ((h.drop 1).take 4).length = 4 := by simp; omega
  rw [show 5 - 1 = 4 from rfl] at hcut
  generalize (h.drop 1).take 4 = m at *
  have c2 := fun (hh : Bs w K' A' cap' l) => crc_any (crcN 0 m) (crcN_lt _ _) K' A' cap' l w hh
  rw [crcN_append] at c2
  have C2 := Lib.hid c2
  have H4 := Lib.hid h4
  clear c2 h4
  go_enter Try.func67, Try.ntmps67
  go_wp2_with fail
  refine (crc_zero K _ 4 _ _ w H4.out hcut).mono ?_
  rintro e w' ⟨rfl, rfl⟩
  go_wp2_with fail
  refine (C2.out hb').mono ?_
  rintro e w' ⟨rfl, rfl⟩
  go_wp2
  go_ret
  exact ⟨rfl, rfl⟩

set_option maxRecDepth 100000 in
theorem head_cells (k : UInt8) (n : Nat) (h : n ≤ 1048576) : [.int .u8 167, bv k, .int .u8 ((n : Int) / 65536), .int .u8 ((n : Int) / 256 % 256), .int .u8 ((n : Int) % 256)] = (167 :: hd4 k n).map bv := by
  have e1 : ((n / 65536 : Nat) : Int) % 256 = (n : Int) / 65536 := by omega
  simp [hd4, bv]
  omega
set_option maxRecDepth 100000 in
theorem le4_cells (c : Nat) (h : c < 4294967296) : [.int .u8 ((c : Int) % 256), .int .u8 ((c : Int) / 256 % 256), .int .u8 ((c : Int) / 65536 % 256), .int .u8 ((c : Int) / 16777216)] = (le4 c).map bv := by
  simp [le4, bv]
  omega
set_option maxRecDepth 100000 in
theorem sumOf_seal (k : UInt8) (K : Nat) (A : Option Addr) (cap : Nat) (K' : Nat) (A' : Option Addr) (cap' : Nat) (l : List UInt8) (w : World) (hb : Bs w K A cap (167 :: hd4 k l.length)) (hb' : Bs w K' A' cap' l) :
    Calls Try.prog 67 #[.slice A 5 cap, .slice A' l.length cap'] w fun e w' => e = .returned (.int .u32 (sumB k l : Int)) ∧ w = w' :=
  sumOf_any K A cap (167 :: hd4 k l.length) K' A' cap' l w hb (by simp [hd4]) hb'

def SealPost (w : World) (k : UInt8) (l : List UInt8) (e : Ending) (w' : World) : Prop :=
  ∃ A' cap', e = .returned (.tuple #[.slice A' (9 + l.length) cap', .int .i64 0]) ∧ Ob w' w.heap.size (.slice A' (9 + l.length) cap') (sealB k l) ∧ Below w.heap.size w w'

set_option maxRecDepth 100000 in
set_option maxHeartbeats 1600000 in
theorem seal_ok (k : UInt8) (K : Nat) (A : Option Addr) (cap : Nat) (l : List UInt8) (w : World) (hb : Bs w K A cap l) (hK : K ≤ w.heap.size) (hl : l.length ≤ 1048576) :
    Calls Try.prog 60 #[bv k, .slice A l.length cap] w (SealPost w k l) := by
  have hle := hb.le
  have hmax := hb.max
  obtain ⟨i0, hi, hz0, hz1, hz2⟩ := info_parts info_u8
  unfold maxLen at hmax
  have hs := sumB_lt k l
  go_enter Try.func60, Try.ntmps60
  go_wp2_with (first
    | (at_make; refine wpList_make_own _ rfl _ _ 30 rfl w.heap.size 5 i0 (.int .u8 0) 1 Try.underlying30 hi hz0 hz1 _ _ _ (9 + l.length) rfl rfl (by omega) (by rw [hz2]; omega) (by unfold maxLen; omega) (Nat.le_refl _) ?_; intro w1 hown1 hgrow1; have B1 : Below w.heap.size w w1 := (Below.refl _ _).grown hgrow1 (Nat.le_refl _) (by simp); have z1 := B1.size)
    | (at_builtin; refine wpList_app _ rfl (.tmp 17) (.tmp 27) rfl w.heap.size _ [] rfl ((Ob.made hown1).alloc _) (some ⟨w1.heap.size, 0, none⟩) 5 5 (167 :: hd4 k l.length) rfl rfl _ (lit_bs w1 _ _ (167 :: hd4 k l.length) (head_cells k l.length hl) (by simp [hd4, maxLen])) 5 rfl (by simp [hd4]) (by simp; omega) ?_; intro A2 cap2 w2 hown2 hgrow2 hat2; have B2 : Below w.heap.size w w2 := grown_below (B1.alloc z1 _) hgrow2 (by simp; omega) (fun _ h => (hown1.lt _ h).1); have z2 := B2.size)
    | (go_at_call 67; refine (sumOf_seal k _ A2 cap2 _ A cap l _ hown2.bs.1 (hb.below (B2.mono hK))).mono ?_; rintro e w' ⟨rfl, rfl⟩)
    | (at_builtin; refine wpList_app _ rfl (.tmp 32) (.tmp 44) rfl w.heap.size _ (167 :: hd4 k l.length) rfl (hown2.alloc _) (some ⟨w2.heap.size, 0, none⟩) 4 4 (le4 (sumB k l)) rfl rfl _ (lit_bs w2 _ _ (le4 (sumB k l)) (le4_cells _ hs) (by simp [le4, maxLen])) 9 rfl (by simp [hd4, le4]) (by simp; omega) ?_; intro A3 cap3 w3 hown3 hgrow3 hat3; have B3 : Below w.heap.size w w3 := grown_below (B2.alloc z2 _) hgrow3 (by simp; omega) (fun _ h => (hown2.lt _ h).1); have z3 := B3.size)
    | (at_builtin; refine wpList_app _ rfl (.tmp 46) (.tmp 47) rfl w.heap.size _ (167 :: hd4 k l.length ++ le4 (sumB k l)) rfl hown3 A l.length cap l rfl rfl _ (hb.below (B3.mono hK)) (9 + l.length) (by simp [hd4, le4]) (by simp [hd4, le4]; omega) z3 ?_; intro A4 cap4 w4 hown4 hgrow4 hat4; have B4 : Below w.heap.size w w4 := grown_below B3 hgrow4 z3 (fun _ h => (hown3.lt _ h).1)))
  go_ret2
  exact ⟨A4, cap4, rfl, hown4, B4⟩

set_option maxRecDepth 100000 in
theorem seal_long (k : UInt8) (A : Option Addr) (cap : Nat) (n : Nat) (w : World) (hl : 1048576 < n) (hn : n ≤ maxLen) :
    Calls Try.prog 60 #[bv k, .slice A n cap] w fun e w' => e = .returned (.tuple #[.slice none 0 0, .int .i64 8]) ∧ w = w' := by
  unfold maxLen at hn
  go_enter Try.func60, Try.ntmps60
  go_wp2
  go_ret2
  exact ⟨rfl, rfl⟩
end Go.Proofs.Ytpckbbjlihhpdaa
namespace Go.Proofs.Ytpckbbjlihhpdaa

def at0 (l : List UInt8) (i : Nat) : Nat := (l.getD i 0).toNat
def lenB (l : List UInt8) : Nat := at0 l 2 * 65536 + at0 l 3 * 256 + at0 l 4
def sum4 (l : List UInt8) : Nat := at0 l 5 + at0 l 6 * 256 + at0 l 7 * 65536 + at0 l 8 * 16777216
def payB (l : List UInt8) : List UInt8 := (l.drop 9).take (lenB l)
def sumO (l : List UInt8) : Nat := crcN 0 ((l.drop 1).take 4 ++ payB l)
/-- Kind, payload, number of bytes, error. -/
def openB (l : List UInt8) : UInt8 × List UInt8 × Nat × Nat :=
  if 0 < l.length ∧ at0 l 0 ≠ 167 then (0, [], 0, 10)
  else if l.length < 9 then (0, [], 0, 9)
  else if 1048576 < lenB l then (0, [], 0, 8)
  else if l.length < 9 + lenB l then (0, [], 0, 9)
  else if sum4 l ≠ sumO l then (0, [], 0, 30)
  else (l.getD 1 0, payB l, 9 + lenB l, 0)

theorem at0_lt (l : List UInt8) (i : Nat) : at0 l i < 256 := (l.getD i 0).toNat_lt
theorem payB_length {l : List UInt8} (h : 9 + lenB l ≤ l.length) : (payB l).length = lenB l := by simp [payB]; omega

theorem openB_form {l : List UInt8} (h0 : 0 < l.length) (h1 : ¬ at0 l 0 = 167) : openB l = (0, [], 0, 10) := by simp [openB, h0, h1]
theorem openB_short {l : List UInt8} (h1 : l.length = 0 ∨ at0 l 0 = 167) (h9 : l.length < 9) : openB l = (0, [], 0, 9) := by
  unfold openB
  rw [if_neg (fun ⟨a, b⟩ => by rcases h1 with h | h; exact absurd h (by omega); exact b h), if_pos h9]
section
variable {l : List UInt8} (h1 : at0 l 0 = 167) (h9 : 9 ≤ l.length)
include h1 h9
theorem openB_limit (h : 1048576 < lenB l) : openB l = (0, [], 0, 8) := by
  unfold openB; rw [if_neg (fun ⟨_, b⟩ => b h1), if_neg (by omega), if_pos h]
theorem openB_short2 (hm : lenB l ≤ 1048576) (h : l.length < 9 + lenB l) : openB l = (0, [], 0, 9) := by
  unfold openB; rw [if_neg (fun ⟨_, b⟩ => b h1), if_neg (by omega), if_neg (by omega), if_pos h]
theorem openB_sum (hm : lenB l ≤ 1048576) (h : 9 + lenB l ≤ l.length) (hs : ¬ sum4 l = sumO l) : openB l = (0, [], 0, 30) := by
  unfold openB; rw [if_neg (fun ⟨_, b⟩ => b h1), if_neg (by omega), if_neg (by omega), if_neg (by omega), if_pos hs]
theorem openB_ok (hm : lenB l ≤ 1048576) (h : 9 + lenB l ≤ l.length) (hs : sum4 l = sumO l) : openB l = (l.getD 1 0, payB l, 9 + lenB l, 0) := by
  unfold openB; rw [if_neg (fun ⟨_, b⟩ => b h1), if_neg (by omega), if_neg (by omega), if_neg (by omega), if_neg (by simpa using hs)]
end
theorem sum4_lt (l : List UInt8) : sum4 l < 4294967296 := by
  have := at0_lt l 5; have := at0_lt l 6; have := at0_lt l 7; have := at0_lt l 8
  unfold sum4; omega

/-- The document seals what it took for the payload once more, and looks at the first nine bytes. -/
def again (l : List UInt8) : List UInt8 := sealB (l.getD 1 0) (payB l)
theorem byte_of (b : UInt8) (x : Nat) (h : x % 256 = b.toNat) : UInt8.ofNat x = b := by
  apply UInt8.toNat_inj.1; simp [h]
theorem nine {l : List UInt8} (h : 9 ≤ l.length) : ∃ x0 x1 x2 x3 x4 x5 x6 x7 x8 r, l = x0 :: x1 :: x2 :: x3 :: x4 :: x5 :: x6 :: x7 :: x8 :: r := by
  rcases l with _ | ⟨x0, l⟩
  · simp at h
  rcases l with _ | ⟨x1, l⟩
  · simp at h
  rcases l with _ | ⟨x2, l⟩
  · simp at h
  rcases l with _ | ⟨x3, l⟩
  · simp at h
  rcases l with _ | ⟨x4, l⟩
  · simp at h
  rcases l with _ | ⟨x5, l⟩
  · simp at h
  rcases l with _ | ⟨x6, l⟩
  · simp at h
  rcases l with _ | ⟨x7, l⟩
  · simp at h
  rcases l with _ | ⟨x8, l⟩
  · simp at h
  exact ⟨x0, x1, x2, x3, x4, x5, x6, x7, x8, l, rfl⟩
theorem hd_eq {l : List UInt8} (h9 : 9 ≤ l.length) (hp : (payB l).length = lenB l) : hd4 (l.getD 1 0) (payB l).length = (l.drop 1).take 4 := by
  rw [hp]
  obtain ⟨x0, x1, x2, x3, x4, x5, x6, x7, x8, r, rfl⟩ := nine h9
  have b2 := x2.toNat_lt; have b3 := x3.toNat_lt; have b4 := x4.toNat_lt
  · simp only [hd4, lenB, at0, List.getD_cons_succ, List.getD_cons_zero, List.drop_succ_cons, List.drop_zero, List.take_succ_cons, List.take_zero]
    rw [byte_of x2 _ (by omega), byte_of x3 _ (by omega), byte_of x4 _ (by omega)]
theorem again_sum {l : List UInt8} (h9 : 9 ≤ l.length) (hp : (payB l).length = lenB l) : sumB (l.getD 1 0) (payB l) = sumO l := by
  unfold sumB sumO; rw [hd_eq h9 hp]
theorem again_eq {l : List UInt8} (h9 : 9 ≤ l.length) (hp : (payB l).length = lenB l) : again l = 167 :: (l.drop 1).take 4 ++ le4 (sumO l) ++ payB l := by
  unfold again sealB; rw [again_sum h9 hp, hd_eq h9 hp]
theorem again_iff {l : List UInt8} (h1 : at0 l 0 = 167) (h9 : 9 ≤ l.length) (hp : (payB l).length = lenB l) : (∀ i, i < 9 → at0 (again l) i = at0 l i) ↔ sum4 l = sumO l := by
  have hs : sumO l < 4294967296 := crcN_lt _ _
  rw [again_eq h9 hp]
  generalize sumO l = c at *
  generalize payB l = p at *
  obtain ⟨x0, x1, x2, x3, x4, x5, x6, x7, x8, r, rfl⟩ := nine h9
  have b5 := x5.toNat_lt; have b6 := x6.toNat_lt; have b7 := x7.toNat_lt; have b8 := x8.toNat_lt
  simp only [at0, List.getD_cons_zero] at h1
  simp only [sum4, at0, le4, List.getD_cons_succ, List.getD_cons_zero, List.drop_succ_cons, List.drop_zero, List.take_succ_cons, List.take_zero, List.cons_append, List.nil_append]
  constructor
  · intro h
    have h5 := h 5 (by omega); have h6 := h 6 (by omega); have h7 := h 7 (by omega); have h8 := h 8 (by omega)
    simp at h5 h6 h7 h8
    omega
  · intro h i hi
    match i, hi with
    | 0, _ => simp [h1]
    | 1, _ => rfl
    | 2, _ => rfl
    | 3, _ => rfl
    | 4, _ => rfl
    | 5, _ => simp; omega
    | 6, _ => simp; omega
    | 7, _ => simp; omega
    | 8, _ => simp; omega

theorem le4_sum {c : Nat} (h : c < 4294967296) (x0 x1 x2 x3 x4 : UInt8) (r : List UInt8) : sum4 (x0 :: x1 :: x2 :: x3 :: x4 :: le4 c ++ r) = c := by
  simp [sum4, at0, le4]; omega
/-- What was sealed is opened again, whatever stands behind. -/
theorem openB_seal (k : UInt8) (p r : List UInt8) (hl : p.length ≤ 1048576) : openB (sealB k p ++ r) = (k, p, 9 + p.length, 0) := by
  have hlen : (sealB k p ++ r).length = 9 + p.length + r.length := by rw [List.length_append, sealB_length]
  have hL : lenB (sealB k p ++ r) = p.length := by
    simp [lenB, at0, sealB, hd4]; omega
  have hP : payB (sealB k p ++ r) = p := by
    unfold payB; rw [hL]; simp [sealB, hd4, le4]
  have hS : sum4 (sealB k p ++ r) = sumB k p := by
    have := le4_sum (sumB_lt k p) 167 k (UInt8.ofNat (p.length / 65536)) (UInt8.ofNat (p.length / 256)) (UInt8.ofNat p.length) (p ++ r)
    rw [← this]; simp [sealB, hd4]
  have hO : sumO (sealB k p ++ r) = sumB k p := by
    unfold sumO sumB; rw [hP]; simp [sealB, hd4]
  have h0 : at0 (sealB k p ++ r) 0 = 167 := by simp [at0, sealB]
  rw [openB_ok h0 (by omega) (by omega) (by omega) (by rw [hS, hO]), hP, hL]
  simp [sealB, hd4]

end Go.Proofs.Ytpckbbjlihhpdaa
namespace Go.Proofs.Ytpckbbjlihhpdaa
open Go.RowKit

set_option maxRecDepth 100000 in
theorem results_four {fn : Func} {t u v x : Tmp} (h : fn.results = #[.tmp t, .tmp u, .tmp v, .tmp x]) (tmps : Array Value) (P : Program) (w : World) :
    (results fn tmps).run P w = .ok (.tuple #[tmps.getD t undef, tmps.getD u undef, tmps.getD v undef, tmps.getD x undef]) w := by simp [results, h]

def OpenPost (w : World) (l : List UInt8) (e : Ending) (w' : World) : Prop :=
  ∃ A' cap', e = .returned (.tuple #[bv (openB l).1, .slice A' (openB l).2.1.length cap', .int .i64 ((openB l).2.2.1 : Nat), .int .i64 ((openB l).2.2.2 : Nat)]) ∧ Ob w' w.heap.size (.slice A' (openB l).2.1.length cap') (openB l).2.1 ∧ Below w.heap.size w w'

set_option maxRecDepth 100000 in
theorem toNat_i64 (a : Nat) (ha : a < 9223372036854775808) : (BitVec.ofInt 64 (a : Int)).toNat = a := by
  rw [BitVec.ofInt_natCast, BitVec.toNat_ofNat]; exact Nat.mod_eq_of_lt (by omega)
set_option maxRecDepth 100000 in
theorem or_i64 (a b : Nat) (ha : a < 9223372036854775808) (hb : b < 9223372036854775808) : bits .or .i64 (a : Int) (b : Int) = ((a ||| b : Nat) : Int) := by
  have hx : a ||| b < 2 ^ 63 := Nat.or_lt_two_pow (by omega) (by omega)
  show IntKind.i64.wrap ((BitVec.ofInt 64 (a : Int) ||| BitVec.ofInt 64 (b : Int)).toNat : Int) = _
  rw [BitVec.toNat_or, toNat_i64 a ha, toNat_i64 b hb, IntKind.wrap_i64]
  omega
set_option maxRecDepth 100000 in
theorem i64_or_add (a b i : Nat) (ha : a < 9223372036854775808) (hb : b < 2 ^ i) (hm : a % 2 ^ i = 0) (hb' : b < 9223372036854775808) : bits .or .i64 (a : Int) (b : Int) = ((a + b : Nat) : Int) := by
  rw [or_i64 a b ha hb', nat_join i a b hm hb]
set_option maxRecDepth 100000 in
theorem len_or {a b c : Nat} (ha : a < 256) (hb : b < 256) (hc : c < 256) : bits .or .i64 (bits .or .i64 ((a : Int) * 65536) ((b : Int) * 256)) (c : Int) = ((a * 65536 + b * 256 + c : Nat) : Int) := by
  rw [show ((a : Int) * 65536) = ((a * 65536 : Nat) : Int) by omega, show ((b : Int) * 256) = ((b * 256 : Nat) : Int) by omega, i64_or_add (a * 65536) (b * 256) 16 (by omega) (by omega) (by omega) (by omega), i64_or_add _ c 8 (by omega) (by omega) (by omega) (by omega)]
set_option maxRecDepth 100000 in
theorem u32_or_add (a b i : Nat) (ha : a < 2 ^ i) (hm : b % 2 ^ i = 0) (ha' : a < 4294967296) (hb' : b < 4294967296) : bits .or .u32 (a : Int) (b : Int) = ((a + b : Nat) : Int) := by
  rw [u32_or_nat a b ha' hb', Nat.or_comm, nat_join i b a hm ha, Nat.add_comm]
set_option maxRecDepth 100000 in
theorem sum_or {a b c d : Nat} (ha : a < 256) (hb : b < 256) (hc : c < 256) (hd : d < 256) :
    bits .or .u32 (bits .or .u32 (bits .or .u32 (a : Int) ((b : Int) * 256)) ((c : Int) * 65536)) ((d : Int) * 16777216) = ((a + b * 256 + c * 65536 + d * 16777216 : Nat) : Int) := by
  rw [show ((b : Int) * 256) = ((b * 256 : Nat) : Int) by omega, show ((c : Int) * 65536) = ((c * 65536 : Nat) : Int) by omega, show ((d : Int) * 16777216) = ((d * 16777216 : Nat) : Int) by omega,
    u32_or_add a (b * 256) 8 (by omega) (by omega) (by omega) (by omega), u32_or_add _ (c * 65536) 16 (by omega) (by omega) (by omega) (by omega), u32_or_add _ (d * 16777216) 24 (by omega) (by omega) (by omega) (by omega)]

set_option maxRecDepth 100000 in
theorem sumOf_open (K : Nat) (A : Option Addr) (cap : Nat) (h : List UInt8) (n K' : Nat) (A' : Option Addr) (n' cap' : Nat) (w : World) (hb : Bs w K A cap h) (hn : h.length = n) (hl : 9 ≤ h.length) (hb' : Bs w K' A' cap' (payB h)) (hn' : (payB h).length = n') :
    Calls Try.prog 67 #[.slice A n cap, .slice A' n' cap'] w fun e w' => e = .returned (.int .u32 (sumO h : Int)) ∧ w = w' := by
  subst hn hn'
  exact sumOf_any K A cap h K' A' cap' (payB h) w hb (by omega) hb'

set_option maxRecDepth 100000 in
theorem Bs.g {w : World} {K cap : Nat} {A : Option Addr} {l : List UInt8} (h : Bs w K A cap l) {k : Nat} (hk : k < l.length) : ∃ ad : Addr, A = some ad ∧ w.cell? (ad.add k) = some (.int .u8 (at0 l k : Int)) := by
  obtain ⟨ad, e, _, hc⟩ := h.get hk
  exact ⟨ad, e, by rw [hc]; simp [at0, hk]⟩
set_option maxRecDepth 100000 in
theorem below_drewNo {B : Nat} {w : World} (n : Nat) : Below B w (w.drewN n) := ⟨rfl, rfl, rfl, Nat.le_refl _, fun _ _ => rfl⟩

section
variable (K cap : Nat) (l : List UInt8) (w : World)
set_option maxRecDepth 100000 in
theorem open_bad {n : Nat} (hn : openB l = (0, [], 0, n)) {w' : World} (hw : Below w.heap.size w w') : OpenPost w l (.returned (.tuple #[.int .u8 0, .slice none 0 0, .int .i64 0, .int .i64 (n : Int)])) w' :=
  ⟨none, 0, by rw [hn]; rfl, by rw [hn]; exact Ob.empty _ _, hw⟩

set_option maxRecDepth 100000 in
theorem open_good (hn : openB l = (l.getD 1 0, payB l, 9 + lenB l, 0)) {W w1 : World} (hW : Below w.heap.size w W) {A1 : Option Addr} {cap1 : Nat} (hob : Ob w1 W.heap.size (.slice A1 (payB l).length cap1) (payB l)) (hbl : Below W.heap.size W w1) {x : Int} (hx : x = 9 + (lenB l : Int)) :
    OpenPost w l (.returned (.tuple #[.int .u8 (at0 l 1 : Int), .slice A1 (payB l).length cap1, .int .i64 x, .int .i64 0])) w1 := by
  subst hx
  refine ⟨A1, cap1, ?_, ?_, hW.trans (hbl.mono hW.size)⟩
  · rw [hn]; rfl
  · rw [hn]; exact hob.more hW.size

set_option maxRecDepth 100000 in
theorem open_none (A : Option Addr) (h0 : l.length = 0) : Calls Try.prog 65 #[.slice A 0 cap] w (OpenPost w l) := by
  have hp := open_bad l w (openB_short (.inl h0) (by omega)) (Below.refl _ w)
  have HP := Lib.hid hp
  clear hp h0
  go_enter Try.func65, Try.ntmps65
  go_wp2
  refine bodyPost_ret (results_four rfl _ _ _) rfl ?_; exact HP.out

variable {ad : Addr} (hb : Bs w K (some ad) cap l) (hK : K ≤ w.heap.size)
include hb
set_option maxRecDepth 100000 in
theorem open_form (h0 : 0 < l.length) (h1 : ¬ at0 l 0 = 167) : Calls Try.prog 65 #[.slice (some ad) l.length cap] w (OpenPost w l) := by
  have hle := hb.le
  have hmax := hb.max
  unfold maxLen at hmax
  have hp := open_bad l w (openB_form h0 h1) (Below.refl _ w)
  have HP := Lib.hid hp
  clear hp
  have c0 : w.cell? ad = some (.int .u8 (at0 l 0 : Int)) := hb.c0 h0
  have hne : ((at0 l 0 : Int) == 167) = false := by simp; omega
  go_enter Try.func65, Try.ntmps65
  go_wp2
  refine bodyPost_ret (results_four rfl _ _ _) rfl ?_; exact HP.out

set_option maxRecDepth 100000 in
theorem open_few (h0 : 0 < l.length) (h1 : at0 l 0 = 167) (h9 : l.length < 9) : Calls Try.prog 65 #[.slice (some ad) l.length cap] w (OpenPost w l) := by
  have hle := hb.le
  have hmax := hb.max
  unfold maxLen at hmax
  have hp := open_bad l w (openB_short (.inr h1) h9) (Below.refl _ w)
  have HP := Lib.hid hp
  clear hp
  have c0 : w.cell? ad = some (.int .u8 (at0 l 0 : Int)) := hb.c0 h0
  rw [h1] at c0
  clear h1
  go_enter Try.func65, Try.ntmps65
  go_wp2
  refine bodyPost_ret (results_four rfl _ _ _) rfl ?_; exact HP.out

set_option maxRecDepth 100000 in
set_option maxHeartbeats 1600000 in
theorem open_limit (h1 : at0 l 0 = 167) (h9 : 9 ≤ l.length) (hm : 1048576 < lenB l) : Calls Try.prog 65 #[.slice (some ad) l.length cap] w (OpenPost w l) := by
  have hp := fun w' (hbl : Below w.heap.size w w') => open_bad l w (openB_limit h1 h9 hm) hbl
  have HP := Lib.hid hp
  clear hp
  have hle := hb.le
  have hmax := hb.max
  unfold maxLen at hmax
  have c0 : w.cell? ad = some (.int .u8 (at0 l 0 : Int)) := hb.c0 (by omega)
  have c1 : w.cell? ⟨ad.block, ad.off + 1, none⟩ = some (.int .u8 (at0 l 1 : Int)) := hb.c 1 (by omega) (by omega)
  have c2 : w.cell? ⟨ad.block, ad.off + 2, none⟩ = some (.int .u8 (at0 l 2 : Int)) := hb.c 2 (by omega) (by omega)
  have c3 : w.cell? ⟨ad.block, ad.off + 3, none⟩ = some (.int .u8 (at0 l 3 : Int)) := hb.c 3 (by omega) (by omega)
  have c4 : w.cell? ⟨ad.block, ad.off + 4, none⟩ = some (.int .u8 (at0 l 4 : Int)) := hb.c 4 (by omega) (by omega)
  have c5 : w.cell? ⟨ad.block, ad.off + 5, none⟩ = some (.int .u8 (at0 l 5 : Int)) := hb.c 5 (by omega) (by omega)
  have c6 : w.cell? ⟨ad.block, ad.off + 6, none⟩ = some (.int .u8 (at0 l 6 : Int)) := hb.c 6 (by omega) (by omega)
  have c7 : w.cell? ⟨ad.block, ad.off + 7, none⟩ = some (.int .u8 (at0 l 7 : Int)) := hb.c 7 (by omega) (by omega)
  have c8 : w.cell? ⟨ad.block, ad.off + 8, none⟩ = some (.int .u8 (at0 l 8 : Int)) := hb.c 8 (by omega) (by omega)
  rw [h1] at c0
  have hor : bits .or .i64 (bits .or .i64 ((at0 l 2 : Int) * 65536) ((at0 l 3 : Int) * 256)) (at0 l 4 : Int) = (lenB l : Int) := len_or (at0_lt l 2) (at0_lt l 3) (at0_lt l 4)
  have hsm : bits .or .u32 (bits .or .u32 (bits .or .u32 (at0 l 5 : Int) ((at0 l 6 : Int) * 256)) ((at0 l 7 : Int) * 65536)) ((at0 l 8 : Int) * 16777216) = (sum4 l : Int) := sum_or (at0_lt l 5) (at0_lt l 6) (at0_lt l 7) (at0_lt l 8)
  have b2 := at0_lt l 2
  have b3 := at0_lt l 3
  have b4 := at0_lt l 4
  have b5 := at0_lt l 5
  have b6 := at0_lt l 6
  have b7 := at0_lt l 7
  have b8 := at0_lt l 8
  clear h1
  go_enter Try.func65, Try.ntmps65
  go_wp2
  go_quiet (fail)
  go_wp2
  refine bodyPost_ret (results_four rfl _ _ _) rfl ?_; exact HP.out _ (below_drewNo _)

set_option maxRecDepth 100000 in
set_option maxHeartbeats 1600000 in
theorem open_cut (h1 : at0 l 0 = 167) (h9 : 9 ≤ l.length) (hm : lenB l ≤ 1048576) (h : l.length < 9 + lenB l) : Calls Try.prog 65 #[.slice (some ad) l.length cap] w (OpenPost w l) := by
  have hp := fun w' (hbl : Below w.heap.size w w') => open_bad l w (openB_short2 h1 h9 hm h) hbl
  have HP := Lib.hid hp
  clear hp
  have hle := hb.le
  have hmax := hb.max
  unfold maxLen at hmax
  have c0 : w.cell? ad = some (.int .u8 (at0 l 0 : Int)) := hb.c0 (by omega)
  have c1 : w.cell? ⟨ad.block, ad.off + 1, none⟩ = some (.int .u8 (at0 l 1 : Int)) := hb.c 1 (by omega) (by omega)
  have c2 : w.cell? ⟨ad.block, ad.off + 2, none⟩ = some (.int .u8 (at0 l 2 : Int)) := hb.c 2 (by omega) (by omega)
  have c3 : w.cell? ⟨ad.block, ad.off + 3, none⟩ = some (.int .u8 (at0 l 3 : Int)) := hb.c 3 (by omega) (by omega)
  have c4 : w.cell? ⟨ad.block, ad.off + 4, none⟩ = some (.int .u8 (at0 l 4 : Int)) := hb.c 4 (by omega) (by omega)
  have c5 : w.cell? ⟨ad.block, ad.off + 5, none⟩ = some (.int .u8 (at0 l 5 : Int)) := hb.c 5 (by omega) (by omega)
  have c6 : w.cell? ⟨ad.block, ad.off + 6, none⟩ = some (.int .u8 (at0 l 6 : Int)) := hb.c 6 (by omega) (by omega)
  have c7 : w.cell? ⟨ad.block, ad.off + 7, none⟩ = some (.int .u8 (at0 l 7 : Int)) := hb.c 7 (by omega) (by omega)
  have c8 : w.cell? ⟨ad.block, ad.off + 8, none⟩ = some (.int .u8 (at0 l 8 : Int)) := hb.c 8 (by omega) (by omega)
  rw [h1] at c0
  have hor : bits .or .i64 (bits .or .i64 ((at0 l 2 : Int) * 65536) ((at0 l 3 : Int) * 256)) (at0 l 4 : Int) = (lenB l : Int) := len_or (at0_lt l 2) (at0_lt l 3) (at0_lt l 4)
  have hsm : bits .or .u32 (bits .or .u32 (bits .or .u32 (at0 l 5 : Int) ((at0 l 6 : Int) * 256)) ((at0 l 7 : Int) * 65536)) ((at0 l 8 : Int) * 16777216) = (sum4 l : Int) := sum_or (at0_lt l 5) (at0_lt l 6) (at0_lt l 7) (at0_lt l 8)
  have b2 := at0_lt l 2
  have b3 := at0_lt l 3
  have b4 := at0_lt l 4
  have b5 := at0_lt l 5
  have b6 := at0_lt l 6
  have b7 := at0_lt l 7
  have b8 := at0_lt l 8
  clear h1
  go_enter Try.func65, Try.ntmps65
  go_wp2
  go_quiet (fail)
  go_wp2
  refine bodyPost_ret (results_four rfl _ _ _) rfl ?_; exact HP.out _ (below_drewNo _)

set_option maxRecDepth 100000 in
set_option maxHeartbeats 1600000 in
theorem open_sum (h1 : at0 l 0 = 167) (h9 : 9 ≤ l.length) (hm : lenB l ≤ 1048576) (h : 9 + lenB l ≤ l.length) (hs : ¬ sum4 l = sumO l) : Calls Try.prog 65 #[.slice (some ad) l.length cap] w (OpenPost w l) := by
  have hp := fun w' (hbl : Below w.heap.size w w') => open_bad l w (openB_sum h1 h9 hm h hs) hbl
  have HP := Lib.hid hp
  clear hp
  have hle := hb.le
  have hmax := hb.max
  unfold maxLen at hmax
  have c0 : w.cell? ad = some (.int .u8 (at0 l 0 : Int)) := hb.c0 (by omega)
  have c1 : w.cell? ⟨ad.block, ad.off + 1, none⟩ = some (.int .u8 (at0 l 1 : Int)) := hb.c 1 (by omega) (by omega)
  have c2 : w.cell? ⟨ad.block, ad.off + 2, none⟩ = some (.int .u8 (at0 l 2 : Int)) := hb.c 2 (by omega) (by omega)
  have c3 : w.cell? ⟨ad.block, ad.off + 3, none⟩ = some (.int .u8 (at0 l 3 : Int)) := hb.c 3 (by omega) (by omega)
  have c4 : w.cell? ⟨ad.block, ad.off + 4, none⟩ = some (.int .u8 (at0 l 4 : Int)) := hb.c 4 (by omega) (by omega)
  have c5 : w.cell? ⟨ad.block, ad.off + 5, none⟩ = some (.int .u8 (at0 l 5 : Int)) := hb.c 5 (by omega) (by omega)
  have c6 : w.cell? ⟨ad.block, ad.off + 6, none⟩ = some (.int .u8 (at0 l 6 : Int)) := hb.c 6 (by omega) (by omega)
  have c7 : w.cell? ⟨ad.block, ad.off + 7, none⟩ = some (.int .u8 (at0 l 7 : Int)) := hb.c 7 (by omega) (by omega)
  have c8 : w.cell? ⟨ad.block, ad.off + 8, none⟩ = some (.int .u8 (at0 l 8 : Int)) := hb.c 8 (by omega) (by omega)
  rw [h1] at c0
  have hor : bits .or .i64 (bits .or .i64 ((at0 l 2 : Int) * 65536) ((at0 l 3 : Int) * 256)) (at0 l 4 : Int) = (lenB l : Int) := len_or (at0_lt l 2) (at0_lt l 3) (at0_lt l 4)
  have hsm : bits .or .u32 (bits .or .u32 (bits .or .u32 (at0 l 5 : Int) ((at0 l 6 : Int) * 256)) ((at0 l 7 : Int) * 65536)) ((at0 l 8 : Int) * 16777216) = (sum4 l : Int) := sum_or (at0_lt l 5) (at0_lt l 6) (at0_lt l 7) (at0_lt l 8)
  have b2 := at0_lt l 2
  have b3 := at0_lt l 3
  have b4 := at0_lt l 4
  have b5 := at0_lt l 5
  have b6 := at0_lt l 6
  have b7 := at0_lt l 7
  have b8 := at0_lt l 8
  clear h1
  have hne : ((sum4 l : Int) != (sumO l : Int)) = true := by rw [bne_iff_ne]; omega
  have HS := Lib.hid hs
  clear hs
  by_cases hc : cap = 9
  · have hl9 : l.length = 9 := by omega
    have hm0 : lenB l = 0 := by omega
    have hpay : Bs w K (some ad) 0 (payB l) := by
      have := hb.cut (i := 9) (j := 9) (by omega) (by omega)
      rw [if_pos hc, hc] at this
      unfold payB
      rw [hm0]
      exact this
    have hpl : (payB l).length = 0 := by rw [payB_length h, hm0]
    subst hc
    rw [hm0] at hor
    rw [hl9]
    have HM := Lib.hid hm0
    have HL := Lib.hid hl9
    have HPL := Lib.hid hpl
    clear hm0 hl9 hpl hm h h9 hle hmax
    go_enter Try.func65, Try.ntmps65
    go_wp2
    go_quiet (fail)
    go_wp2
    go_quiet (fail)
    go_wp2_with (go_at_call 67; refine (sumOf_open K _ _ l _ K _ _ _ _ (hb.drewN _) HL.out (by rw [HL.out]; omega) (hpay.drewN _) HPL.out).mono ?_; rintro e w' ⟨rfl, rfl⟩)
    refine bodyPost_ret (results_four rfl _ _ _) rfl ?_; exact HP.out _ (below_drewNo _)

  · have hpay := hb.cutS (i := 9) (j := 9 + lenB l) (by omega) (by omega) h (by omega)
    have hpl := payB_length h
    rw [show 9 + lenB l - 9 = lenB l by omega] at hpay
    change Bs w K _ _ (payB l) at hpay
    have e9 : 9 + lenB l - 9 = lenB l := by omega
    have i1 : (1 : Int) < (l.length : Int) := by omega
    have HPL := Lib.hid hpl
    clear hpl
    go_enter Try.func65, Try.ntmps65
    go_wp2
    go_quiet (fail)
    go_wp2
    go_quiet (fail)
    go_wp2_with (go_at_call 67; refine (sumOf_open K _ _ l _ K _ _ _ _ (hb.drewN _) rfl h9 (hpay.drewN _) HPL.out).mono ?_; rintro e w' ⟨rfl, rfl⟩)
    refine bodyPost_ret (results_four rfl _ _ _) rfl ?_; exact HP.out _ (below_drewNo _)


include hK
set_option maxRecDepth 100000 in
set_option maxHeartbeats 1600000 in
theorem open_ok (h1 : at0 l 0 = 167) (h9 : 9 ≤ l.length) (hm : lenB l ≤ 1048576) (h : 9 + lenB l ≤ l.length) (hs : sum4 l = sumO l) : Calls Try.prog 65 #[.slice (some ad) l.length cap] w (OpenPost w l) := by
  have hp := openB_ok h1 h9 hm h hs
  have HP := Lib.hid hp
  clear hp
  have hle := hb.le
  have hmax := hb.max
  unfold maxLen at hmax
  have c0 : w.cell? ad = some (.int .u8 (at0 l 0 : Int)) := hb.c0 (by omega)
  have c1 : w.cell? ⟨ad.block, ad.off + 1, none⟩ = some (.int .u8 (at0 l 1 : Int)) := hb.c 1 (by omega) (by omega)
  have c2 : w.cell? ⟨ad.block, ad.off + 2, none⟩ = some (.int .u8 (at0 l 2 : Int)) := hb.c 2 (by omega) (by omega)
  have c3 : w.cell? ⟨ad.block, ad.off + 3, none⟩ = some (.int .u8 (at0 l 3 : Int)) := hb.c 3 (by omega) (by omega)
  have c4 : w.cell? ⟨ad.block, ad.off + 4, none⟩ = some (.int .u8 (at0 l 4 : Int)) := hb.c 4 (by omega) (by omega)
  have c5 : w.cell? ⟨ad.block, ad.off + 5, none⟩ = some (.int .u8 (at0 l 5 : Int)) := hb.c 5 (by omega) (by omega)
  have c6 : w.cell? ⟨ad.block, ad.off + 6, none⟩ = some (.int .u8 (at0 l 6 : Int)) := hb.c 6 (by omega) (by omega)
  have c7 : w.cell? ⟨ad.block, ad.off + 7, none⟩ = some (.int .u8 (at0 l 7 : Int)) := hb.c 7 (by omega) (by omega)
  have c8 : w.cell? ⟨ad.block, ad.off + 8, none⟩ = some (.int .u8 (at0 l 8 : Int)) := hb.c 8 (by omega) (by omega)
  rw [h1] at c0
  have hor : bits .or .i64 (bits .or .i64 ((at0 l 2 : Int) * 65536) ((at0 l 3 : Int) * 256)) (at0 l 4 : Int) = (lenB l : Int) := len_or (at0_lt l 2) (at0_lt l 3) (at0_lt l 4)
  have hsm : bits .or .u32 (bits .or .u32 (bits .or .u32 (at0 l 5 : Int) ((at0 l 6 : Int) * 256)) ((at0 l 7 : Int) * 65536)) ((at0 l 8 : Int) * 16777216) = (sum4 l : Int) := sum_or (at0_lt l 5) (at0_lt l 6) (at0_lt l 7) (at0_lt l 8)
  have b2 := at0_lt l 2
  have b3 := at0_lt l 3
  have b4 := at0_lt l 4
  have b5 := at0_lt l 5
  have b6 := at0_lt l 6
  have b7 := at0_lt l 7
  have b8 := at0_lt l 8
  clear h1
  have hne : ((sum4 l : Int) != (sumO l : Int)) = false := by rw [bne_eq_false_iff_eq]; omega
  have HS := Lib.hid hs
  clear hs
  by_cases hc : cap = 9
  · have hl9 : l.length = 9 := by omega
    have hm0 : lenB l = 0 := by omega
    have hpay : Bs w K (some ad) 0 (payB l) := by
      have := hb.cut (i := 9) (j := 9) (by omega) (by omega)
      rw [if_pos hc, hc] at this
      unfold payB
      rw [hm0]
      exact this
    have hpl : (payB l).length = 0 := by rw [payB_length h, hm0]
    subst hc
    rw [hm0] at hor
    rw [hl9]
    have HM := Lib.hid hm0
    have HL := Lib.hid hl9
    have HPL := Lib.hid hpl
    clear hm0 hl9 hpl hm h h9 hle hmax
    go_enter Try.func65, Try.ntmps65
    go_wp2
    go_quiet (fail)
    go_wp2
    go_quiet (fail)
    go_wp2_with (go_at_call 67; refine (sumOf_open K _ _ l _ K _ _ _ _ (hb.drewN _) HL.out (by rw [HL.out]; omega) (hpay.drewN _) HPL.out).mono ?_; rintro e w' ⟨rfl, rfl⟩)
    go_wp2
    go_region_held3 (fun w' => w'.cell? ⟨ad.block, ad.off + 1, none⟩ = some (.int .u8 (at0 l 1 : Int))) (((try dsimp only); go_split_ands; (repeat' apply And.intro) <;> first | assumption | (apply kept; assumption; assumption) | (apply via; assumption; assumption; apply Below.size; assumption) | (go_grown; done) | (repeat' first | assumption | (simp; done) | apply keptD | apply keptA | (apply kept; assumption)))) ((go_at_call 71; refine (bclone_any K _ _ _ (payB l) _ HPL.out (hpay.drewN _) (by simpa using hK) (by rw [HPL.out]; omega)).mono ?_; rintro e w1 ⟨A1, cap1, rfl, hob, hbl⟩))
    go_wp2
    refine bodyPost_ret (results_four rfl _ _ _) rfl ?_; exact open_good l w HP.out (below_drewNo _) hob hbl (by rw [HM.out]; rfl)

  · have hpay := hb.cutS (i := 9) (j := 9 + lenB l) (by omega) (by omega) h (by omega)
    have hpl := payB_length h
    rw [show 9 + lenB l - 9 = lenB l by omega] at hpay
    change Bs w K _ _ (payB l) at hpay
    have e9 : 9 + lenB l - 9 = lenB l := by omega
    have i1 : (1 : Int) < (l.length : Int) := by omega
    have HPL := Lib.hid hpl
    clear hpl
    go_enter Try.func65, Try.ntmps65
    go_wp2
    go_quiet (fail)
    go_wp2
    go_quiet (fail)
    go_wp2_with (go_at_call 67; refine (sumOf_open K _ _ l _ K _ _ _ _ (hb.drewN _) rfl h9 (hpay.drewN _) HPL.out).mono ?_; rintro e w' ⟨rfl, rfl⟩)
    go_wp2
    go_region_held3 (fun w' => w'.cell? ⟨ad.block, ad.off + 1, none⟩ = some (.int .u8 (at0 l 1 : Int))) (((try dsimp only); go_split_ands; (repeat' apply And.intro) <;> first | assumption | (apply kept; assumption; assumption) | (apply via; assumption; assumption; apply Below.size; assumption) | (go_grown; done) | (repeat' first | assumption | (simp; done) | apply keptD | apply keptA | (apply kept; assumption)))) ((go_at_call 71; refine (bclone_any K _ _ _ (payB l) _ HPL.out (hpay.drewN _) (by simpa using hK) (by rw [HPL.out]; omega)).mono ?_; rintro e w1 ⟨A1, cap1, rfl, hob, hbl⟩))
    go_wp2
    refine bodyPost_ret (results_four rfl _ _ _) rfl ?_; exact open_good l w HP.out (below_drewNo _) hob hbl rfl


omit hb hK in
set_option maxRecDepth 100000 in
theorem open_any (A : Option Addr) (hb : Bs w K A cap l) (hK : K ≤ w.heap.size) : Calls Try.prog 65 #[.slice A l.length cap] w (OpenPost w l) := by
  rcases Nat.eq_zero_or_pos l.length with h0 | h0
  · have := open_none cap l w A h0
    rw [← h0] at this
    exact this
  · obtain ⟨ad, rfl, _⟩ := hb.some_ h0
    by_cases h1 : at0 l 0 = 167
    · by_cases h9 : 9 ≤ l.length
      · by_cases hm : lenB l ≤ 1048576
        · by_cases h : 9 + lenB l ≤ l.length
          · by_cases hs : sum4 l = sumO l
            · exact open_ok K cap l w hb hK h1 h9 hm h hs
            · exact open_sum K cap l w hb h1 h9 hm h hs
          · exact open_cut K cap l w hb h1 h9 hm (by omega)
        · exact open_limit K cap l w hb h1 h9 (by omega)
      · exact open_few K cap l w hb h0 h1 (by omega)
    · exact open_form K cap l w hb h0 h1
end
end Go.Proofs.Ytpckbbjlihhpdaa
namespace Go.Proofs.Ytpckbbjlihhpdaa

def scanF : Nat → List UInt8 → List (UInt8 × List UInt8) × Nat
  | 0, _ => ([], 0)
  | f + 1, l => if (openB l).2.2.2 = 0 then (((openB l).1, (openB l).2.1) :: (scanF f (l.drop (openB l).2.2.1)).1, (openB l).2.2.1 + (scanF f (l.drop (openB l).2.2.1)).2) else ([], 0)
def scanB (l : List UInt8) : List (UInt8 × List UInt8) × Nat := scanF (l.length + 1) l

/-- What stands behind an Open without an error. -/
theorem openB_inv {l : List UInt8} (h : (openB l).2.2.2 = 0) : at0 l 0 = 167 ∧ 9 + lenB l ≤ l.length ∧ lenB l ≤ 1048576 ∧ sum4 l = sumO l ∧ openB l = (l.getD 1 0, payB l, 9 + lenB l, 0) := by
  by_cases h0 : 0 < l.length ∧ at0 l 0 ≠ 167
  · rw [openB, if_pos h0] at h; simp at h
  by_cases h9 : l.length < 9
  · rw [openB, if_neg h0, if_pos h9] at h; simp at h
  by_cases hm : 1048576 < lenB l
  · rw [openB, if_neg h0, if_neg h9, if_pos hm] at h; simp at h
  by_cases hl : l.length < 9 + lenB l
  · rw [openB, if_neg h0, if_neg h9, if_neg hm, if_pos hl] at h; simp at h
  by_cases hs : sum4 l = sumO l
  · have h1 : at0 l 0 = 167 := by
      rcases Nat.decEq (at0 l 0) 167 with h' | h'
      · exact absurd ⟨by omega, h'⟩ h0
      · exact h'
    exact ⟨h1, by omega, by omega, hs, openB_ok h1 (by omega) (by omega) (by omega) hs⟩
  · rw [openB, if_neg h0, if_neg h9, if_neg hm, if_neg hl, if_pos hs] at h; simp at h
theorem openB_used {l : List UInt8} (h : (openB l).2.2.2 = 0) : 9 ≤ (openB l).2.2.1 ∧ (openB l).2.2.1 ≤ l.length ∧ (openB l).2.1.length ≤ 1048576 ∧ (openB l).2.2.1 = 9 + (openB l).2.1.length := by
  obtain ⟨_, h2, h3, _, h5⟩ := openB_inv h
  have := payB_length h2
  rw [h5]
  simp only
  omega

theorem scanF_fuel : ∀ (n : Nat) (l : List UInt8) (f : Nat), l.length ≤ n → l.length < f → scanF f l = scanF (l.length + 1) l := by
  intro n
  induction n with
  | zero =>
    intro l f hn hf
    have : l = [] := List.eq_nil_of_length_eq_zero (by omega)
    subst this
    cases f with
    | zero => omega
    | succ f => simp [scanF, openB]
  | succ n ih =>
    intro l f hn hf
    cases f with
    | zero => omega
    | succ f =>
      simp only [scanF]
      by_cases h : (openB l).2.2.2 = 0
      · obtain ⟨h1, h2, _, _⟩ := openB_used h
        have hd : (l.drop (openB l).2.2.1).length < l.length := by simp; omega
        rw [if_pos h, if_pos h, ih _ f (by omega) (by omega), ih _ l.length (by omega) hd]
      · rw [if_neg h, if_neg h]
theorem scanB_ok {l : List UInt8} (h : (openB l).2.2.2 = 0) : scanB l = (((openB l).1, (openB l).2.1) :: (scanB (l.drop (openB l).2.2.1)).1, (openB l).2.2.1 + (scanB (l.drop (openB l).2.2.1)).2) := by
  obtain ⟨h1, h2, _, _⟩ := openB_used h
  unfold scanB
  conv => lhs; rw [scanF, if_pos h]
  rw [scanF_fuel _ _ l.length (Nat.le_refl _) (by simp; omega)]
theorem scanB_no {l : List UInt8} (h : ¬ (openB l).2.2.2 = 0) : scanB l = ([], 0) := by
  unfold scanB; rw [scanF, if_neg h]
theorem scanB_nil : scanB [] = ([], 0) := scanB_no (by simp [openB])

theorem scanB_len (l : List UInt8) : (scanB l).1.length * 9 ≤ l.length := by
  have : ∀ (n : Nat) (l : List UInt8), l.length ≤ n → (scanB l).1.length * 9 ≤ l.length := by
    intro n
    induction n with
    | zero =>
      intro l hl
      have : l = [] := List.eq_nil_of_length_eq_zero (by omega)
      subst this
      simp [scanB_nil]
    | succ n ih =>
      intro l hl
      by_cases h : (openB l).2.2.2 = 0
      · obtain ⟨h1, h2, _, _⟩ := openB_used h
        rw [scanB_ok h]
        have := ih (l.drop (openB l).2.2.1) (by simp; omega)
        simp only [List.length_drop, List.length_cons] at *
        omega
      · rw [scanB_no h]; simp
  exact this _ l (Nat.le_refl _)

theorem scanB_used (l : List UInt8) : (scanB l).2 ≤ l.length := by
  have : ∀ (n : Nat) (l : List UInt8), l.length ≤ n → (scanB l).2 ≤ l.length := by
    intro n
    induction n with
    | zero =>
      intro l hl
      have : l = [] := List.eq_nil_of_length_eq_zero (by omega)
      subst this
      simp [scanB_nil]
    | succ n ih =>
      intro l hl
      by_cases h : (openB l).2.2.2 = 0
      · obtain ⟨h1, h2, _, _⟩ := openB_used h
        rw [scanB_ok h]
        have := ih (l.drop (openB l).2.2.1) (by simp; omega)
        simp only [List.length_drop] at *
        omega
      · rw [scanB_no h]; simp
  exact this _ l (Nat.le_refl _)
/-- What has been scanned up to j. -/
def ScanTo (l : List UInt8) (j : Nat) (ps : List (UInt8 × List UInt8)) : Prop :=
  j ≤ l.length ∧ ps.length * 9 ≤ j ∧ scanB l = (ps ++ (scanB (l.drop j)).1, j + (scanB (l.drop j)).2)
theorem ScanTo.zero (l : List UInt8) : ScanTo l 0 [] := ⟨Nat.zero_le _, by simp, by simp⟩
theorem ScanTo.next {l : List UInt8} {j : Nat} {ps : List (UInt8 × List UInt8)} (h : ScanTo l j ps) (ho : (openB (l.drop j)).2.2.2 = 0) : ScanTo l (j + (openB (l.drop j)).2.2.1) (ps ++ [((openB (l.drop j)).1, (openB (l.drop j)).2.1)]) := by
  obtain ⟨h1, h2, h3⟩ := h
  obtain ⟨u1, u2, _, _⟩ := openB_used ho
  rw [List.length_drop] at u2
  refine ⟨by omega, by simp; omega, ?_⟩
  rw [h3, scanB_ok ho, List.drop_drop]
  simp [Nat.add_assoc]
theorem ScanTo.stop {l : List UInt8} {j : Nat} {ps : List (UInt8 × List UInt8)} (h : ScanTo l j ps) (ho : ¬ (openB (l.drop j)).2.2.2 = 0) : scanB l = (ps, j) := by
  rw [h.2.2, scanB_no ho]; simp
theorem ScanTo.done {l : List UInt8} {ps : List (UInt8 × List UInt8)} (h : ScanTo l l.length ps) : scanB l = (ps, l.length) := by
  rw [h.2.2, List.drop_length, scanB_nil]; simp

/-- Frames, one behind the other. -/
def catB (ps : List (UInt8 × List UInt8)) : List UInt8 := ps.flatMap fun x => sealB x.1 x.2
theorem catB_snoc (ps : List (UInt8 × List UInt8)) (x : UInt8 × List UInt8) : catB (ps ++ [x]) = catB ps ++ sealB x.1 x.2 := by simp [catB]
theorem scan_cat : ∀ (ps : List (UInt8 × List UInt8)) (b : List UInt8), (∀ x ∈ ps, x.2.length ≤ 1048576) → scanB (catB ps ++ b) = (ps ++ (scanB b).1, (catB ps).length + (scanB b).2)
  | [], b, _ => by simp [catB]
  | x :: ps, b, h => by
    have hx := h x (by simp)
    have ih := scan_cat ps b (fun y hy => h y (by simp [hy]))
    have e : catB (x :: ps) ++ b = sealB x.1 x.2 ++ (catB ps ++ b) := by simp [catB]
    have ho := openB_seal x.1 x.2 (catB ps ++ b) hx
    have h0 : (openB (sealB x.1 x.2 ++ (catB ps ++ b))).2.2.2 = 0 := by rw [ho]
    have hd : (sealB x.1 x.2 ++ (catB ps ++ b)).drop (9 + x.2.length) = catB ps ++ b := by
      rw [← sealB_length x.1 x.2, List.drop_left]
    rw [e, scanB_ok h0, ho]
    simp only
    rw [hd, ih]
    have hl : (catB (x :: ps)).length = 9 + x.2.length + (catB ps).length := by
      rw [← sealB_length x.1 x.2]; simp [catB]
    rw [hl]
    simp [Nat.add_assoc]
theorem catB_len : ∀ (ps : List (UInt8 × List UInt8)), (∀ x ∈ ps, x.2.length ≤ 2000) → (catB ps).length ≤ ps.length * 2009
  | [], _ => by simp [catB]
  | x :: ps, h => by
    have hx := h x (by simp)
    have ih := catB_len ps (fun y hy => h y (by simp [hy]))
    have hl : (catB (x :: ps)).length = 9 + x.2.length + (catB ps).length := by
      rw [← sealB_length x.1 x.2]; simp [catB]
    rw [hl, List.length_cons]
    omega

end Go.Proofs.Ytpckbbjlihhpdaa
namespace Go.Proofs.Ytpckbbjlihhpdaa

/-- Behind the base: the records, whether the seal has come, the place. -/
def walGo (l : List UInt8) (s : Bool) (n : Nat) : List (List UInt8) × Bool × Nat :=
  if _h : (openB l).2.2.2 = 0 then
    if (openB l).1 = 1 then
      let r := walGo (l.drop (openB l).2.2.1) s (n + (openB l).2.2.1)
      ((openB l).2.1 :: r.1, r.2)
    else if (openB l).1 = 3 ∧ s = false then
      walGo (l.drop (openB l).2.2.1) true (n + (openB l).2.2.1)
    else ([], s, n)
  else ([], s, n)
termination_by l.length
decreasing_by all_goals (have h9 := openB_used (by assumption : (openB l).2.2.2 = 0); rw [List.length_drop]; omega)
section
variable {l : List UInt8} {s : Bool} {n : Nat}
theorem walGo_bad (h : ¬ (openB l).2.2.2 = 0) : walGo l s n = ([], s, n) := by rw [walGo, dif_neg h]
theorem walGo_rec (h : (openB l).2.2.2 = 0) (k : (openB l).1 = 1) : walGo l s n = ((openB l).2.1 :: (walGo (l.drop (openB l).2.2.1) s (n + (openB l).2.2.1)).1, (walGo (l.drop (openB l).2.2.1) s (n + (openB l).2.2.1)).2) := by
  rw [walGo, dif_pos h, if_pos k]
theorem walGo_seal (h : (openB l).2.2.2 = 0) (k : (openB l).1 = 3) : walGo l false n = walGo (l.drop (openB l).2.2.1) true (n + (openB l).2.2.1) := by
  rw [walGo, dif_pos h, if_neg (by rw [k]; decide), if_pos ⟨k, rfl⟩]
theorem walGo_else (h : (openB l).2.2.2 = 0) (k : ¬ (openB l).1 = 1) (k3 : ¬ ((openB l).1 = 3 ∧ s = false)) : walGo l s n = ([], s, n) := by
  rw [walGo, dif_pos h, if_neg k, if_neg k3]
theorem walGo_nil : walGo [] s n = ([], s, n) := walGo_bad (by simp [openB])
end
/-- The base, the records, how many bytes; none: nothing stands there. -/
def readB (b : List UInt8) : Option (List UInt8 × List (List UInt8) × Nat) :=
  if (openB b).2.2.2 = 0 ∧ (openB b).1 = 2 then
    if (walGo (b.drop (openB b).2.2.1) false (openB b).2.2.1).2.1 = true then some ((openB b).2.1, (walGo (b.drop (openB b).2.2.1) false (openB b).2.2.1).1, (walGo (b.drop (openB b).2.2.1) false (openB b).2.2.1).2.2) else none
  else none
def recsB (rs : List (List UInt8)) : List UInt8 := rs.flatMap (sealB 1)
def framesB (base : List UInt8) (rs : List (List UInt8)) : List UInt8 := sealB 2 base ++ recsB rs ++ sealB 3 []
theorem open_at (k : UInt8) (p r : List UInt8) (hl : p.length ≤ 1048576) : (openB (sealB k p ++ r)).1 = k ∧ (openB (sealB k p ++ r)).2.1 = p ∧ (openB (sealB k p ++ r)).2.2.1 = 9 + p.length ∧ (openB (sealB k p ++ r)).2.2.2 = 0 ∧ (sealB k p ++ r).drop (9 + p.length) = r := by
  rw [openB_seal k p r hl]
  refine ⟨rfl, rfl, rfl, rfl, ?_⟩
  rw [← sealB_length k p, List.drop_left]
theorem walGo_recs : ∀ (rs : List (List UInt8)) (r : List UInt8) (s : Bool) (n : Nat), (∀ x ∈ rs, x.length ≤ 1048576) → walGo (recsB rs ++ r) s n = (rs ++ (walGo r s (n + (recsB rs).length)).1, (walGo r s (n + (recsB rs).length)).2)
  | [], r, s, n, _ => by simp [recsB]
  | x :: rs, r, s, n, h => by
    have hx := h x (by simp)
    obtain ⟨h1, h2, h3, h4, h5⟩ := open_at 1 x (recsB rs ++ r) hx
    have e : recsB (x :: rs) ++ r = sealB 1 x ++ (recsB rs ++ r) := by simp [recsB]
    have el : (recsB (x :: rs)).length = 9 + x.length + (recsB rs).length := by simp [recsB, sealB_length]
    rw [e, walGo_rec h4 h1, h2, h3, h5, walGo_recs rs r s _ (fun y hy => h y (by simp [hy])), el, show n + (9 + x.length) + (recsB rs).length = n + (9 + x.length + (recsB rs).length) by omega]
    rfl
theorem walGo_end (rs : List (List UInt8)) (s : Bool) (n : Nat) (h : ∀ x ∈ rs, x.length ≤ 1048576) : walGo (recsB rs) s n = (rs, s, n + (recsB rs).length) := by
  have := walGo_recs rs [] s n h
  rw [List.append_nil, walGo_nil, List.append_nil] at this
  exact this
/-- What was laid, and records behind it. -/
theorem readB_frames (base : List UInt8) (rs qs : List (List UInt8)) (hb : base.length ≤ 1048576) (hr : ∀ x ∈ rs, x.length ≤ 1048576) (hq : ∀ x ∈ qs, x.length ≤ 1048576) :
    readB (framesB base rs ++ recsB qs) = some (base, rs ++ qs, (framesB base rs ++ recsB qs).length) := by
  obtain ⟨h1, h2, h3, h4, h5⟩ := open_at 2 base (recsB rs ++ (sealB 3 [] ++ recsB qs)) hb
  obtain ⟨g1, g2, g3, g4, g5⟩ := open_at 3 [] (recsB qs) (by simp)
  have e : framesB base rs ++ recsB qs = sealB 2 base ++ (recsB rs ++ (sealB 3 [] ++ recsB qs)) := by simp [framesB]
  have hw : walGo (recsB rs ++ (sealB 3 [] ++ recsB qs)) false (9 + base.length) = (rs ++ qs, true, (framesB base rs ++ recsB qs).length) := by
    rw [walGo_recs rs _ false _ hr, walGo_seal g4 g1, g3, g5, walGo_end qs _ _ hq]
    simp only [framesB, List.length_append, sealB_length]
  rw [e]
  unfold readB
  rw [if_pos ⟨h4, h1⟩, h2, h3, h5, hw, ← e]
  rfl
theorem recsB_snoc (rs : List (List UInt8)) (p : List UInt8) : recsB (rs ++ [p]) = recsB rs ++ sealB 1 p := by simp [recsB]
theorem recsB_len (rs : List (List UInt8)) {k : Nat} (h : ∀ x ∈ rs, x.length ≤ k) : (recsB rs).length ≤ rs.length * (9 + k) := by
  induction rs with
  | nil => simp [recsB]
  | cons x rs ih =>
    have h1 := h x (by simp)
    have h2 := ih fun y hy => h y (by simp [hy])
    have el : (recsB (x :: rs)).length = 9 + x.length + (recsB rs).length := by simp [recsB, sealB_length]
    rw [el, List.length_cons, Nat.add_mul]
    omega
end Go.Proofs.Ytpckbbjlihhpdaa
namespace Go.Proofs.Ytpckbbjlihhpdaa
open Go.RowKit

/-- The slice at A with capacity cap reads as the pieces ps, in memory below block K. -/
structure Rr (w : World) (K : Nat) (A : Option Addr) (cap : Nat) (ps : List (List UInt8)) : Prop where
  le : ps.length ≤ cap
  max : cap ≤ maxLen
  nil : A = none → cap = 0
  at_ : 0 < ps.length → ∃ ad : Addr, A = some ad ∧ ad.block < K ∧ ∀ (i : Nat) p, ps[i]? = some p → ∃ A' cap', w.cell? (ad.add i) = some (.slice A' p.length cap') ∧ Bs w K A' cap' p

/-- v is a slice of the call's own (blocks from K on, elements of type T) that holds the pieces ps. -/
def Rw (w : World) (K : Nat) (T : TypeId) (v : Value) (ps : List (List UInt8)) : Prop :=
  ∃ xs : List Value, w.ownsRow K T 1 v ps.length xs ∧ ∀ (i : Nat) p, ps[i]? = some p → ∃ A cap, xs[i]? = some (.slice A p.length cap) ∧ Bs w w.heap.size A cap p ∧ ∀ ad : Addr, A = some ad → 0 < p.length → K ≤ ad.block ∧ v.ownBlock ≠ some ad.block

section
variable {w w' : World} {K K' cap : Nat} {A : Option Addr} {ps : List (List UInt8)}
theorem Rr.keep (h : Rr w K A cap ps) (hk : ∀ p : Addr, p.block < K → w'.cell? p = w.cell? p) : Rr w' K A cap ps :=
  ⟨h.le, h.max, h.nil, fun hn => by
    obtain ⟨ad, e, hb, hc⟩ := h.at_ hn
    refine ⟨ad, e, hb, fun i p hi => ?_⟩
    obtain ⟨A', c', h2, h3⟩ := hc i p hi
    exact ⟨A', c', (hk _ (by rw [block_of_add]; exact hb)).trans h2, h3.keep hk⟩⟩
theorem Rr.below (h : Rr w K A cap ps) (hb : Below K w w') : Rr w' K A cap ps := h.keep fun _ hp => hb.cell hp
theorem Rr.more (h : Rr w K A cap ps) (hK : K ≤ K') : Rr w K' A cap ps :=
  ⟨h.le, h.max, h.nil, fun hn => by
    obtain ⟨ad, e, hb, hc⟩ := h.at_ hn
    refine ⟨ad, e, by omega, fun i p hi => ?_⟩
    obtain ⟨A', c', h2, h3⟩ := hc i p hi
    exact ⟨A', c', h2, h3.more hK⟩⟩
theorem Rr.drewN (h : Rr w K A cap ps) (n : Nat) : Rr (w.drewN n) K A cap ps := h.keep fun _ _ => rfl
theorem Rr.get (h : Rr w K A cap ps) {i : Nat} (hi : i < ps.length) : ∃ ad : Addr, A = some ad ∧ ad.block < K ∧ ∃ A' cap', w.cell? (ad.add i) = some (.slice A' ps[i].length cap') ∧ Bs w K A' cap' ps[i] := by
  obtain ⟨ad, e, hb, hc⟩ := h.at_ (by omega)
  exact ⟨ad, e, hb, hc i ps[i] (List.getElem?_eq_getElem hi)⟩
theorem Rr.to (h : Rr w K A cap ps) {j : Nat} (hj : j ≤ ps.length) : Rr w K A cap (ps.take j) := by
  have hle := h.le
  have hlen : (ps.take j).length = j := by simp; omega
  refine ⟨by omega, h.max, h.nil, fun hn => ?_⟩
  obtain ⟨ad, e, hb, hc⟩ := h.at_ (by omega)
  refine ⟨ad, e, hb, fun i p hi => hc i p ?_⟩
  rw [List.getElem?_take] at hi
  split at hi
  · exact hi
  · cases hi
theorem Rr.alloc (h : Rr w K A cap ps) (hK : K ≤ w.heap.size) (o : Obj) : Rr (w.alloc o) K A cap ps := h.keep fun _ hp => World.cell?_alloc_lt _ _ _ (by omega)

variable {T : TypeId} {v : Value}
theorem Rw.empty (w : World) (K : Nat) (T : TypeId) : Rw w K T (.slice none 0 0) [] := ⟨[], World.ownsRow_nil w K _ _, fun i p h => by simp at h⟩
theorem Rw.below (h : Rw w K T v ps) (hb : Below w.heap.size w w') : Rw w' K T v ps := by
  obtain ⟨xs, ho, hx⟩ := h
  refine ⟨xs, World.ownsRow.kept (row := none) ho ⟨hb.os, hb.tape, hb.output, hb.size, fun k hk _ => hb.block k hk⟩ (by cases h' : v.ownBlock <;> simp), fun i p hi => ?_⟩
  obtain ⟨A, c, h2, h3, h4⟩ := hx i p hi
  exact ⟨A, c, h2, (h3.below hb).more hb.size, h4⟩
theorem Rw.more (h : Rw w K T v ps) (hK : K' ≤ K) : Rw w K' T v ps := by
  obtain ⟨xs, ho, hx⟩ := h
  refine ⟨xs, ?_, fun i p hi => ?_⟩
  · rcases ho.2 with ⟨he, h0⟩ | ⟨g, cap', cur, he, hb, hg⟩
    · exact ⟨ho.1, .inl ⟨he, h0⟩⟩
    · exact ⟨ho.1, .inr ⟨g, cap', cur, he, by omega, hg⟩⟩
  · obtain ⟨A, c, h2, h3, h4⟩ := hx i p hi
    exact ⟨A, c, h2, h3, fun ad e hl => ⟨Nat.le_trans hK (h4 ad e hl).1, (h4 ad e hl).2⟩⟩
theorem Rw.lt (h : Rw w K T v ps) : ∀ k, v.ownBlock = some k → K ≤ k ∧ k < w.heap.size := by
  obtain ⟨xs, ho, _⟩ := h
  exact World.ownsRow.lt ho
theorem Rw.pr {n : Nat} (h : Rw w K T (.slice A n cap) ps) : Rr w w.heap.size A cap ps ∧ ps.length = n := by
  obtain ⟨xs, ho, hx⟩ := h
  rcases ho.2 with ⟨he, h0⟩ | ⟨g, cap', cur, he, hb, hg, hn, hc, hs, ht⟩
  · injection he with h1 h2 h3
    subst h1 h2 h3
    exact ⟨⟨by omega, Nat.zero_le _, fun _ => rfl, fun h => absurd h (by omega)⟩, h0⟩
  · injection he with h1 h2 h3
    subst h1 h3
    refine ⟨⟨hn, hc, (fun h => by cases h), fun hl => ⟨_, rfl, ?_, fun i p hi => ?_⟩⟩, h2.symm⟩
    · rcases Nat.lt_or_ge g w.heap.size with hlt | hge
      · exact hlt
      · rw [Array.getElem?_eq_none hge] at hg; cases hg
    · obtain ⟨A, c, h2, h3, _⟩ := hx i p hi
      exact ⟨A, c, ho.cells (g := g) rfl _ _ h2, h3⟩
theorem Rw.form (h : Rw w K T v ps) : ∃ A cap, v = .slice A ps.length cap := by
  obtain ⟨xs, ho, _⟩ := h
  rcases ho.2 with ⟨he, h0⟩ | ⟨g, cap', cur, he, _⟩
  · exact ⟨none, 0, by rw [he, h0]⟩
  · exact ⟨_, _, he⟩
theorem Rw.alloc (h : Rw w K T v ps) (o : Obj) : Rw (w.alloc o) K T v ps := h.below ((Below.refl _ _).alloc (Nat.le_refl _) o)
/-- All of it outlives a turn of other blocks. -/
theorem Rw.tn {P : Nat → Prop} (h : Rw w K T v ps) (t : Tn P w w') (hn : ∀ k, K ≤ k → ¬ P k) : Rw w' K T v ps := by
  obtain ⟨xs, ho, hx⟩ := h
  have hlt := World.ownsRow.lt ho
  refine ⟨xs, ?_, fun i p hi => ?_⟩
  · rcases ho.2 with ⟨he, h0⟩ | ⟨g, cap', cur, he, hb', hg, hrest⟩
    · exact ⟨ho.1, .inl ⟨he, h0⟩⟩
    · subst he
      have h9 := hlt g rfl
      exact ⟨ho.1, .inr ⟨g, cap', cur, rfl, hb', (t.block g h9.2 (hn g h9.1)).trans hg, hrest⟩⟩
  · obtain ⟨A, c, h2, h3, h4⟩ := hx i p hi
    exact ⟨A, c, h2, (t.bs h3 fun hl ad e => hn _ (h4 ad e hl).1).more t.size, h4⟩
/-- One piece more, at the law that append obeys. -/
theorem Rw.push {v' : Value} {w1 : World} {p : List UInt8} {B : Option Addr} {c : Nat} {xs : List Value} (h : w.ownsRow K T 1 v ps.length xs)
    (hx : ∀ (i : Nat) p, ps[i]? = some p → ∃ A cap, xs[i]? = some (.slice A p.length cap) ∧ Bs w w.heap.size A cap p ∧ ∀ ad : Addr, A = some ad → 0 < p.length → K ≤ ad.block ∧ v.ownBlock ≠ some ad.block)
    (hb : Bs w w.heap.size B c p) (hne : ∀ ad : Addr, B = some ad → 0 < p.length → K ≤ ad.block ∧ v.ownBlock ≠ some ad.block)
    (hown : w1.ownsRow K T 1 v' (ps.length + 1) (xs ++ [.slice B p.length c])) (hgrow : w.grownBy w1 v.ownBlock) (hat : ∀ g, v'.ownBlock = some g → v.ownBlock = some g ∨ w.heap.size ≤ g) : Rw w1 K T v' (ps ++ [p]) := by
  have hxl : xs.length = ps.length := by have := h.1; omega
  have far : ∀ {A : Option Addr} {cap : Nat} {q : List UInt8}, Bs w w.heap.size A cap q → (∀ ad : Addr, A = some ad → 0 < q.length → K ≤ ad.block ∧ v.ownBlock ≠ some ad.block) → (Bs w1 w1.heap.size A cap q ∧ ∀ ad : Addr, A = some ad → 0 < q.length → K ≤ ad.block ∧ v'.ownBlock ≠ some ad.block) := fun {A cap q} hq hn => by
    refine ⟨⟨hq.le, hq.max, hq.nil, fun hl => ?_⟩, fun ad e hl => ⟨(hn ad e hl).1, fun he => ?_⟩⟩
    · obtain ⟨ad, e, hlt, hc⟩ := hq.at_ hl
      exact ⟨ad, e, Nat.lt_of_lt_of_le hlt hgrow.size, fun j u hu => (hgrow.cell_far _ (by rw [block_of_add]; exact hlt) (by rw [block_of_add]; exact fun e' => (hn ad e hl).2 e'.symm)).trans (hc j u hu)⟩
    · obtain ⟨ad', e', hlt, _⟩ := hq.at_ hl
      rw [e] at e'
      cases e'
      rcases hat _ he with h' | h'
      · exact (hn ad e hl).2 h'
      · omega
  refine ⟨xs ++ [.slice B p.length c], by rw [List.length_append]; exact hown, fun i p' hi => ?_⟩
  rcases Nat.lt_or_ge i ps.length with hlt | hge
  · rw [List.getElem?_append_left hlt] at hi
    obtain ⟨A, cp, h2, h3, h4⟩ := hx i p' hi
    obtain ⟨f1, f2⟩ := far h3 h4
    rw [List.getElem?_append_left (by omega)]
    exact ⟨A, cp, h2, f1, f2⟩
  · have hil : i = ps.length := by
      have := (List.getElem?_eq_some_iff.1 hi).1
      simp at this; omega
    subst hil
    simp at hi
    subst hi
    obtain ⟨f1, f2⟩ := far hb hne
    rw [List.getElem?_append_right (by omega), hxl]
    exact ⟨B, c, by simp, f1, f2⟩
end

section
variable {P : Program}
theorem wpList_pushR {T ST : TypeId} (hund : P.underlying ST = some (.slice T)) {z : Value} (hinfo : (P.info? T).map (fun i => (i.zero, i.size, i.bytes)) = some (some z, 1, 24)) (hz : z.cells.size = 1)
    {ops : Array Oper} {rest : List Oper} {o : Oper} {a : Act} {Q : Exit → Act → World → Prop} (w : World) (hgd : o.guard = none) (s x : Operand)
    (ho : o.op = .call { callee := .builtin .append, args := #[s, x], argTypes := #[ST, ST] }) (K : Nat) (v : Value) (ps : List (List UInt8)) (hs : a.eval s = v) (hown : Rw w K T v ps)
    (p : List UInt8) (B : Option Addr) (c H : Nat) (hH : w.heap.size = H) (hxx : a.eval x = .slice (some ⟨H, 0, none⟩) 1 1) (hb : Bs w w.heap.size B c p) (hne : ∀ ad : Addr, B = some ad → 0 < p.length → K ≤ ad.block ∧ v.ownBlock ≠ some ad.block)
    (N : Nat) (hN : ps.length + 1 = N) (hsz : N * 24 ≤ 140737488355328) (hK : K ≤ H)
    (h : ∀ A' cap' w', Rw w' K T (.slice A' N cap') (ps ++ [p]) → w.grownBy w' v.ownBlock → (∀ g, (Value.slice A' N cap').ownBlock = some g → v.ownBlock = some g ∨ w.heap.size ≤ g) → wpList P ops Q rest (a.put o.dst (.slice A' N cap')) w') :
    wpList P ops Q (o :: rest) a (w.alloc (.cells #[.slice B p.length c] T)) := by
  subst hH hN
  obtain ⟨xs, hx1, hx2⟩ := hown
  obtain ⟨i0, hi, hz0, hz1, hz2⟩ := info_parts hinfo
  refine wpList_append_lies _ hgd s x ST ho K T i0 z 1 24 hund hi hz0 hz1 hz2 hz (by decide) v ps.length xs hs (World.ownsRow.alloc hx1 _) ⟨w.heap.size, 0, none⟩ 1 1 [.slice B p.length c] hxx rfl
    (World.news_of_block (heap_alloc_new w _)) (by intro u hu; simp at hu; subst hu; rfl) (by omega) (by unfold maxLen; omega) hsz (by simp; omega) _ rfl ?_
  intro g cap w1 hown1 hgrow1 hat1 hlt1
  have hg : w.grownBy w1 v.ownBlock := ⟨hgrow1.os, hgrow1.tape, hgrow1.output, Nat.le_trans (by simp) hgrow1.size, fun i hi hne => (hgrow1.block i (by simp; omega) hne).trans (Below.heap_alloc w _ i hi)⟩
  have hat2 : ∀ g', (Value.slice (some ⟨g, 0, none⟩) (ps.length + 1) cap).ownBlock = some g' → v.ownBlock = some g' ∨ w.heap.size ≤ g' := fun g' hg' => by
    have : g' = g := by simpa [Value.ownBlock] using hg'.symm
    subst this
    rcases hat1 with h1 | h1
    · exact .inl h1
    · right; rw [h1]; simp
  exact h _ _ w1 (Rw.push hx1 hx2 hb hne hown1 hg hat2) hg hat2
end
end Go.Proofs.Ytpckbbjlihhpdaa
namespace Go.Proofs.Ytpckbbjlihhpdaa
open Go.RowKit Go.BigFrame

set_option maxRecDepth 100000 in
set_option maxHeartbeats 1600000 in
theorem with_any (k : UInt8) (K K' : Nat) (B : Option Addr) (nB cB : Nat) (lb : List UInt8) (hnB : lb.length = nB) (A : Option Addr) (c : Nat) (p : List UInt8) (w : World) (ho : Ob w K (.slice B nB cB) lb) (hK : K ≤ w.heap.size) (hp : Bs w K' A c p) (hK' : K' ≤ w.heap.size) (hl : p.length ≤ 1048576) (hsz : nB + (9 + p.length) ≤ 140737488355328) :
    Calls Try.prog 42 #[.slice B nB cB, bv k, .slice A p.length c] w fun e w' => ∃ A' c', e = .returned (.slice A' (nB + (9 + p.length)) c') ∧ Ob w' K (.slice A' (nB + (9 + p.length)) c') (lb ++ sealB k p) ∧ Below K w w' := by
  subst hnB
  have HS := Lib.hid (seal_ok k K' A c p w hp hK' hl)
  have hbl := ho.bs.1.le
  have hbm := ho.bs.1.max
  unfold maxLen at hbm
  have HO := Lib.hid ho
  have hsl := sealB_length k p
  clear hp ho
  go_enter Try.func42, Try.ntmps42
  go_wp2_with (first
    | (go_at_call 60; refine HS.out.mono ?_; rintro e w1 ⟨A1, c1, rfl, ho1, hb1⟩; have z1 := hb1.size)
    | (at_builtin; refine wpList_app _ rfl (.tmp 15) (.tmp 16) rfl K (.slice B lb.length cB) lb rfl (HO.out.below hb1) A1 (9 + p.length) c1 (sealB k p) rfl hsl w1.heap.size ho1.bs.1 (lb.length + (9 + p.length)) (by rw [hsl]) (by omega) (by omega) ?_; intro A2 c2 w2 ho2 gr2 at2; have B2 : Below K w w2 := grown_below (hb1.mono hK) gr2 (by omega) (fun _ h => (HO.out.lt _ h).1)))
  go_ret
  exact ⟨A2, c2, rfl, ho2, B2⟩
theorem recsB_take (rs : List (List UInt8)) {i : Nat} (h : i < rs.length) : recsB (rs.take (i + 1)) = recsB (rs.take i) ++ sealB 1 rs[i] := by
  rw [List.take_add_one, List.getElem?_eq_getElem h]
  exact recsB_snoc _ _
theorem recsB_le (rs : List (List UInt8)) (i : Nat) : (recsB (rs.take i)).length ≤ (recsB rs).length := by
  conv => rhs; rw [← List.take_append_drop i rs]
  unfold recsB
  rw [List.flatMap_append, List.length_append]
  omega
theorem framesB_len (base : List UInt8) (rs : List (List UInt8)) : (framesB base rs).length = 9 + base.length + (recsB rs).length + 9 := by simp [framesB, sealB_length]; omega
set_option maxRecDepth 100000 in
set_option maxHeartbeats 1600000 in
theorem frames_any (K : Nat) (A1 : Option Addr) (c1 : Nat) (base : List UInt8) (A2 : Option Addr) (c2 : Nat) (rs : List (List UInt8)) (w : World) (hb : Bs w K A1 c1 base) (hr : Rr w K A2 c2 rs) (hK : K ≤ w.heap.size) (hl : base.length ≤ 1048576) (hrl : ∀ x ∈ rs, x.length ≤ 1048576) (hsz : (framesB base rs).length ≤ 140737488355328) :
    Calls Try.prog 47 #[.agg #[.slice A1 base.length c1, .slice A2 rs.length c2]] w (NewBytes w (framesB base rs)) := by
  have hbl := hb.le
  have hbm := hb.max
  unfold maxLen at hbm
  have hrle := hr.le
  have hrm := hr.max
  unfold maxLen at hrm
  rw [framesB_len] at hsz
  have hw1 : Below K w (w.alloc (.cells #[.slice A1 base.length c1, .slice A2 rs.length c2] 78)) := (Below.refl _ _).alloc hK _
  have hw2 : Below (w.heap.size) w (w.alloc (.cells #[.slice A1 base.length c1, .slice A2 rs.length c2] 78)) := (Below.refl _ _).alloc (Nat.le_refl _) _
  have H1 := Lib.hid (with_any 2 (w.heap.size + 1) K none 0 0 [] rfl A1 c1 base _ (Ob.empty (w.alloc (.cells #[.slice A1 base.length c1, .slice A2 rs.length c2] 78)) _) (by simp) (hb.below hw1) (by simp; omega) hl (by simp; omega))
  have HR := Lib.hid hr
  have HW1 := Lib.hid hw1
  have HW2 := Lib.hid hw2
  clear hb hr hw1 hw2
  go_enter Try.func47, Try.ntmps47
  go_wp2_with (go_at_call 42; refine H1.out.mono ?_; rintro e w1 ⟨A3, c3, rfl, ho1, hb1⟩; have y0 := hb1.cell (p := ⟨w.heap.size, 0, none⟩) (Nat.lt_succ_self _); have y1 := hb1.cell (p := ⟨w.heap.size, 1, none⟩) (Nat.lt_succ_self _); simp [go_sem] at y0 y1; have z1 := hb1.size; simp at z1; have HO1 := Lib.hid ho1; have HB1 := Lib.hid hb1; clear ho1 hb1)
  go_loopw [12, 3] (fun iv bw wr => ∃ (i : Nat) (A' : Option Addr) (N c' : Nat), iv = .int .i64 (i : Int) ∧ bw = .slice A' N c' ∧ N = 9 + base.length + (recsB (rs.take i)).length ∧ i ≤ rs.length ∧ Hid (Ob wr (w.heap.size + 1) (.slice A' N c') (sealB 2 base ++ recsB (rs.take i))) ∧ Hid (Below (w.heap.size + 1) w1 wr)) (fun iv _ _ => rs.length - (intOf iv).toNat)
  case atStart => exact ⟨0, A3, _, c3, rfl, rfl, by simp [recsB], Nat.zero_le _, by simpa [recsB] using HO1, Lib.hid (Below.refl _ _)⟩
  case round =>
    obtain ⟨i, A4, N, c4, rfl, rfl, hN, hi, HO, HB⟩ := hrel
    rename World => wr
    have hzr := HB.out.size
    have hall : Below w.heap.size w wr := (HW2.out.trans ((HB1.out.trans HB.out).mono (by simp)))
    have HALL := Lib.hid hall
    have hle2 := recsB_le rs i
    have hlen : (sealB 2 base ++ recsB (rs.take i)).length = 9 + base.length + (recsB (rs.take i)).length := by rw [List.length_append, sealB_length]
    clear hall
    by_cases hlt : i < rs.length
    · obtain ⟨ad, e2, had, A5, c5, x5, bs5⟩ := (HR.out.below (HALL.out.mono hK)).get hlt
      subst e2
      have i1 : (i : Int) < rs.length := by omega
      have hx := hrl rs[i] (List.getElem_mem hlt)
      have htk := recsB_take rs hlt
      have hle3 := recsB_le rs (i + 1)
      rw [htk, List.length_append, sealB_length] at hle3
      have H2 := Lib.hid (with_any 1 (w.heap.size + 1) K A4 N c4 _ (by omega) A5 c5 rs[i] wr HO.out (by omega) bs5 (by omega) hx (by omega))
      have HTK := Lib.hid htk
      generalize rs[i] = q at x5 H2 HTK
      have HN2 : Hid (N + (9 + q.length) = 9 + base.length + (recsB (rs.take (i + 1))).length) := Lib.hid (by rw [HTK.out, List.length_append, sealB_length]; omega)
      clear bs5 hx htk hle3 hlen hle2 hN
      go_wp2_with (go_at_call 42; refine H2.out.mono ?_; rintro e w2 ⟨A6, c6, rfl, ho2, hb2⟩)
      go_roundw
      case rel => exact ⟨i + 1, A6, _, c6, by go_num, rfl, HN2.out, hlt, Lib.hid (by rw [HTK.out, ← List.append_assoc]; exact ho2), Lib.hid (HB.out.trans hb2)⟩
      case measure => simp [intOf]; omega
    · obtain rfl : i = rs.length := by omega
      have hst : (sealB 2 base ++ recsB (rs.take rs.length)) = sealB 2 base ++ recsB rs := by rw [List.take_length]
      rw [hst] at HO hlen
      rw [List.take_length] at hlen hN
      have H3 := Lib.hid (with_any 3 (w.heap.size + 1) 0 A4 N c4 _ (by omega) none 0 [] wr HO.out (by omega) ⟨Nat.le_refl _, Nat.zero_le _, fun _ => rfl, fun h => absurd h (by simp)⟩ (Nat.zero_le _) (by simp) (by simp only [List.length_nil]; omega))
      have HF : Hid ((framesB base rs).length = N + 9) := Lib.hid (by rw [framesB_len]; omega)
      clear hlen hle2 hN
      go_wp2_with (go_at_call 42; refine H3.out.mono ?_; rintro e w2 ⟨A6, c6, rfl, ho2, hb2⟩)
      go_ret
      refine ⟨A6, c6, by rw [HF.out]; rfl, ?_, HALL.out.trans (hb2.mono (by simp))⟩
      rw [HF.out]
      exact ho2.more (by simp)
end Go.Proofs.Ytpckbbjlihhpdaa
namespace Go.Proofs.Ytpckbbjlihhpdaa
open Go.RowKit

theorem elemBs : Try.prog.elem 30 = 5 := by unfold Program.elem; rw [Try.underlying30]
theorem underBs : Try.prog.underlying 30 = some (.slice (Try.prog.elem 30)) := by rw [elemBs]; exact Try.underlying30
theorem size_u8 (w : World) : (sizeOf 5).run Try.prog w = .ok 1 w := by
  obtain ⟨i0, hi, hz0, hz1, hz2⟩ := info_parts info_u8
  simp [sizeOf, typeInfo, hi, hz1]
theorem slice_from (A : Option Addr) (n cap j : Nat) (hj : j ≤ n) (w : World) :
    (Instr.slice 30 (.slice A n cap) (some (.int .i64 (j : Int))) none none).run Try.prog w = .ok (.slice (if cap = j then A else A.map (·.add j)) (n - j) (cap - j)) w := by
  have h := run_slice_l (P := Try.prog) (w := w) (t := 30) (a := A) (len := n) (cap := cap) underBs .i64 (j : Int) (by omega) (by omega)
  rw [h, elemBs, size_u8]
  simp [Result.andThen, sliced]
theorem slice_to (A : Option Addr) (n cap j : Nat) (hj : j ≤ cap) (w : World) :
    (Instr.slice 30 (.slice A n cap) none (some (.int .i64 (j : Int))) none).run Try.prog w = .ok (.slice A j cap) w := by
  have h := run_slice_h (P := Try.prog) (w := w) (t := 30) (a := A) (len := n) (cap := cap) underBs .i64 (j : Int) (by omega) (by omega)
  rw [h, elemBs, size_u8]
  have : ∀ a : Addr, a.add 0 = a := fun a => by unfold Addr.add; rw [if_pos rfl]
  cases A <;> simp [Result.andThen, sliced, this]

section
variable {P : Program} {ST T : TypeId} (hu : P.underlying ST = some (.slice (P.elem ST))) (hs : ∀ w, (sizeOf (P.elem ST)).run P w = .ok 2 w)
include hu hs
theorem slice_from2 (A : Option Addr) (n cap j : Nat) (hj : j ≤ n) (w : World) :
    (Instr.slice ST (.slice A n cap) (some (.int .i64 (j : Int))) none none).run P w = .ok (.slice (if cap = j then A else A.map (·.add (j * 2))) (n - j) (cap - j)) w := by
  have h := run_slice_l (P := P) (w := w) (t := ST) (a := A) (len := n) (cap := cap) hu .i64 (j : Int) (by omega) (by omega)
  rw [h, hs]
  simp [Result.andThen, sliced]
theorem slice_to2 (A : Option Addr) (n cap j : Nat) (hj : j ≤ cap) (w : World) :
    (Instr.slice ST (.slice A n cap) none (some (.int .i64 (j : Int))) none).run P w = .ok (.slice A j cap) w := by
  have h := run_slice_h (P := P) (w := w) (t := ST) (a := A) (len := n) (cap := cap) hu .i64 (j : Int) (by omega) (by omega)
  rw [h, hs]
  have : ∀ a : Addr, a.add 0 = a := fun a => by unfold Addr.add; rw [if_pos rfl]
  cases A <;> simp [Result.andThen, sliced, this]
end
end Go.Proofs.Ytpckbbjlihhpdaa
namespace Go.Proofs.Ytpckbbjlihhpdaa
open Go.RowKit Go.BigFrame

/-- Behind n bytes. -/
structure St (b : List UInt8) (n : Nat) (s : Bool) (base : List UInt8) (rs : List (List UInt8)) : Prop where
  le : n ≤ b.length
  num : rs.length * 9 ≤ n
  st : (n = 0 ∧ s = false ∧ base = [] ∧ rs = []) ∨ (9 ≤ n ∧ ((openB b).2.2.2 = 0 ∧ (openB b).1 = 2) ∧ base = (openB b).2.1 ∧ walGo (b.drop (openB b).2.2.1) false (openB b).2.2.1 = (rs ++ (walGo (b.drop n) s n).1, (walGo (b.drop n) s n).2))
section
variable {b : List UInt8} {n : Nat} {s : Bool} {base : List UInt8} {rs : List (List UInt8)}
theorem St.zero (b : List UInt8) : St b 0 false [] [] := ⟨Nat.zero_le _, Nat.zero_le _, .inl ⟨rfl, rfl, rfl, rfl⟩⟩
theorem St.first (h1 : (openB b).2.2.2 = 0) (h2 : (openB b).1 = 2) : St b (openB b).2.2.1 false (openB b).2.1 [] := by
  have h := openB_used h1
  exact ⟨h.2.1, by simp, .inr ⟨h.1, ⟨h1, h2⟩, rfl, by simp⟩⟩
theorem St.rec_ (h : St b n s base rs) (hn : 0 < n) (h1 : (openB (b.drop n)).2.2.2 = 0) (h2 : (openB (b.drop n)).1 = 1) : St b (n + (openB (b.drop n)).2.2.1) s base (rs ++ [(openB (b.drop n)).2.1]) := by
  have hu := openB_used h1
  rw [List.length_drop] at hu
  rcases h.st with h0 | ⟨h9, hk, hb, hw⟩
  · omega
  refine ⟨by have := h.le; omega, by have := h.num; rw [List.length_append]; simp; omega, .inr ⟨by omega, hk, hb, ?_⟩⟩
  rw [hw, walGo_rec h1 h2, List.drop_drop]
  simp
theorem St.seal_ (h : St b n false base rs) (hn : 0 < n) (h1 : (openB (b.drop n)).2.2.2 = 0) (h2 : (openB (b.drop n)).1 = 3) : St b (n + (openB (b.drop n)).2.2.1) true base rs := by
  have hu := openB_used h1
  rw [List.length_drop] at hu
  rcases h.st with h0 | ⟨h9, hk, hb, hw⟩
  · omega
  refine ⟨by have := h.le; omega, by have := h.num; omega, .inr ⟨by omega, hk, hb, ?_⟩⟩
  rw [hw, walGo_seal h1 h2, List.drop_drop]
/-- What is told where the loop ends. -/
def fin (s : Bool) (n : Nat) (base : List UInt8) (rs : List (List UInt8)) : Option (List UInt8 × List (List UInt8) × Nat) := if s = true then some (base, rs, n) else none
theorem St.none_ (h : ¬ ((openB b).2.2.2 = 0 ∧ (openB b).1 = 2)) : readB b = none := by unfold readB; rw [if_neg h]
theorem St.stop (h : St b n s base rs) (hn : 0 < n) (hw : walGo (b.drop n) s n = ([], s, n)) : readB b = fin s n base rs := by
  rcases h.st with h0 | ⟨h9, hk, hb, hg⟩
  · omega
  unfold readB
  rw [if_pos hk, hg, hw, hb, List.append_nil]
  rfl
end
theorem info_bsl : (Try.prog.info? 30).map (fun i => (i.zero, i.size, i.bytes)) = some (some (.slice none 0 0), 1, 24) := by kernel_rfl
def ReadPost (w : World) (b : List UInt8) (e : Ending) (w' : World) : Prop :=
  Below w.heap.size w w' ∧ ((readB b = none ∧ e = .returned (.tuple #[.agg #[.slice none 0 0, .slice none 0 0], .int .i64 0])) ∨
    ∃ base rs n A1 c1 A2 c2, readB b = some (base, rs, n) ∧ e = .returned (.tuple #[.agg #[.slice A1 base.length c1, .slice A2 rs.length c2], .int .i64 (n : Nat)]) ∧ Ob w' w.heap.size (.slice A1 base.length c1) base ∧ Rw w' w.heap.size 30 (.slice A2 rs.length c2) rs)
/-- The log that is being read, in its box. -/
structure Lg (w wr : World) (base : List UInt8) (A1 : Option Addr) (c1 : Nat) (rs : List (List UInt8)) (A2 : Option Addr) (c2 : Nat) : Prop where
  x0 : wr.cell? ⟨w.heap.size, 0, none⟩ = some (.slice A1 base.length c1)
  x1 : wr.cell? ⟨w.heap.size, 1, none⟩ = some (.slice A2 rs.length c2)
  fr : ∀ j, wr.frozen? ⟨w.heap.size, j, none⟩ = false
  ob : Ob wr (w.heap.size + 1) (.slice A1 base.length c1) base
  rw_ : Rw wr (w.heap.size + 1) 30 (.slice A2 rs.length c2) rs
  ne : ∀ g, (Value.slice A2 rs.length c2).ownBlock = some g → (Value.slice A1 base.length c1).ownBlock ≠ some g
  bel : Below w.heap.size w wr
  lt : w.heap.size < wr.heap.size
  nn : rs = [] → A2 = none
section
variable {w wr w2 : World} {base p : List UInt8} {A1 A2 A9 : Option Addr} {c1 c2 c9 : Nat} {rs : List (List UInt8)}
theorem Lg.below (h : Lg w wr base A1 c1 rs A2 c2) (hb : Below wr.heap.size wr w2) : Lg w w2 base A1 c1 rs A2 c2 :=
  ⟨kept hb h.x0, kept hb h.x1, fun j => (hb.frozen (p := ⟨w.heap.size, j, none⟩) h.lt).trans (h.fr j), h.ob.below hb, h.rw_.below hb, h.ne, h.bel.trans (hb.mono (Nat.le_of_lt h.lt)), Nat.lt_of_lt_of_le h.lt hb.size, h.nn⟩
theorem Lg.setBase (h : Lg w wr base A1 c1 [] A2 c2) (hn : (Value.slice A2 0 c2).ownBlock = none) (ho : Ob wr (w.heap.size + 1) (.slice A9 p.length c9) p) : Lg w (wr.setCell ⟨w.heap.size, 0, none⟩ (.slice A9 p.length c9)) p A9 c9 [] A2 c2 := by
  have t := Tn.setCell wr w.heap.size 0 (.slice A9 p.length c9)
  have hlt := h.lt
  refine ⟨by simp [go_sem, h.x0], by simpa [go_sem] using h.x1, fun j => by simp [go_sem, h.fr], t.ob ho fun g hg e => ?_, h.rw_.tn t fun k hk e => by omega, fun g hg => ?_, t.bel h.bel (fun k hk => by omega) (Nat.le_refl _), Nat.lt_of_lt_of_le h.lt t.size, h.nn⟩
  · have := (ho.lt g hg).1
    omega
  · have h9 : (Value.slice A2 0 c2).ownBlock = some g := hg
    rw [hn] at h9
    cases h9
theorem Lg.push (h : Lg w wr base A1 c1 rs A2 c2) (hr : Rw w2 (w.heap.size + 1) 30 (.slice A9 (rs.length + 1) c9) (rs ++ [p])) (hg : wr.grownBy w2 (Value.slice A2 rs.length c2).ownBlock) (hat : ∀ g, (Value.slice A9 (rs.length + 1) c9).ownBlock = some g → (Value.slice A2 rs.length c2).ownBlock = some g ∨ wr.heap.size ≤ g) :
    Lg w (w2.setCell ⟨w.heap.size, 1, none⟩ (.slice A9 (rs.length + 1) c9)) base A1 c1 (rs ++ [p]) A9 c9 := by
  have hlt := h.lt
  have t0 : Tn (fun k => (Value.slice A2 rs.length c2).ownBlock = some k) wr w2 := Tn.ofGrown hg |>.mono fun k _ e => e.symm
  have t1 := Tn.setCell w2 w.heap.size 1 (.slice A9 (rs.length + 1) c9)
  have hP : ¬ (Value.slice A2 rs.length c2).ownBlock = some w.heap.size := fun e => by have := (h.rw_.lt _ e).1; omega
  have y0 := t0.cell h.x0 hP
  have y1 := t0.cell h.x1 hP
  have yf : ∀ j, w2.frozen? ⟨w.heap.size, j, none⟩ = false := fun j => (t0.frozen (p := ⟨w.heap.size, j, none⟩) hlt hP).trans (h.fr j)
  have o1 := t0.ob h.ob fun g hg e => h.ne g e hg
  have hl : (rs ++ [p]).length = rs.length + 1 := by simp
  refine ⟨by simp [go_sem, y0], by rw [hl]; simp [go_sem, y1], fun j => by simp [go_sem, yf], t1.ob o1 fun g hg e => ?_, by rw [hl]; exact hr.tn t1 fun k hk e => by omega, fun g hg e => ?_, t1.bel (t0.bel h.bel (fun k hk => by have := (h.rw_.lt k hk).1; omega) (Nat.le_refl _)) (fun k hk => by omega) (Nat.le_refl _), Nat.lt_of_lt_of_le hlt (Nat.le_trans t0.size t1.size), fun e => by simp at e⟩
  · have := (o1.lt g hg).1
    omega
  · rw [hl] at hg
    rcases hat g hg with h9 | h9
    · exact h.ne g h9 e
    · have := (h.ob.lt g e).2
      omega
end
set_option maxRecDepth 100000 in
set_option maxHeartbeats 6400000 in
theorem read_any (K : Nat) (A : Option Addr) (cap : Nat) (b : List UInt8) (w : World) (hb : Bs w K A cap b) (hK : K ≤ w.heap.size) (hl : b.length ≤ 1099511627776) :
    Calls Try.prog 58 #[.slice A b.length cap] w (ReadPost w b) := by
  have hle := hb.le
  have hmax := hb.max
  unfold maxLen at hmax
  go_enter Try.func58, Try.ntmps58
  go_wp2
  go_step3
  go_wp2
  go_step3
  go_wp2
  go_loopw [4, 5] (fun nv sv wr => ∃ (n : Nat) (s : Bool) (base : List UInt8) (rs : List (List UInt8)) (A1 : Option Addr) (c1 : Nat) (A2 : Option Addr) (c2 : Nat), nv = .int .i64 (n : Int) ∧ sv = .bool s ∧ Hid (St b n s base rs) ∧ Hid (Lg w wr base A1 c1 rs A2 c2)) (fun nv _ _ => b.length - (intOf nv).toNat)
  case atStart => exact ⟨0, false, [], [], none, 0, none, 0, rfl, rfl, Lib.hid (St.zero b), Lib.hid ⟨by simp [go_sem], by simp [go_sem], fun j => by simp [go_sem], Ob.empty _ _, Rw.empty _ _ _, fun g h => by simp [Value.ownBlock] at h, (Below.refl _ _).alloc (Nat.le_refl _) _, by simp, fun _ => rfl⟩⟩
  case round =>
    obtain ⟨n, s, base, rs, A1, c1, A2, c2, rfl, rfl, HS, HX0⟩ := hrel
    rename World => y0
    have hn := HS.out.le
    have hsl := slice_from A b.length cap n hn
    have hbr : Bs y0 K _ _ _ := (hb.below (HX0.out.bel.mono hK)).cut (i := n) (j := b.length) hn (Nat.le_refl _)
    have hd : (b.drop n).take (b.length - n) = b.drop n := List.take_of_length_le (by simp)
    rw [hd] at hbr
    have hdl : (b.drop n).length = b.length - n := List.length_drop
    generalize (if cap = n then A else A.map (·.add n)) = AJ at *
    have hz0 := HX0.out.bel.size
    have hco := open_any K (cap - n) (b.drop n) y0 AJ hbr (by omega)
    rw [hdl] at hco
    have HCO := Lib.hid hco
    clear hco hbr hd
    go_wp2_with fail
    refine HCO.out.mono ?_
    rintro e y1 ⟨A9, c9, rfl, ob9, b9⟩
    have HX := Lib.hid (HX0.out.below b9)
    have x0 := HX.out.x0
    have x1 := HX.out.x1
    have xf := HX.out.fr
    have hyl := HX.out.lt
    have HEB : Hid (∀ u v, Below w.heap.size w ((y1.setCell ⟨w.heap.size, 0, none⟩ u).setCell ⟨w.heap.size, 1, none⟩ v)) := Lib.hid fun u v => (HX.out.bel.setCell (p := ⟨w.heap.size, 0, none⟩) (Nat.le_refl _) u).setCell (p := ⟨w.heap.size, 1, none⟩) (Nat.le_refl _) v
    have HEO : Hid (∀ u v, Ob ((y1.setCell ⟨w.heap.size, 0, none⟩ u).setCell ⟨w.heap.size, 1, none⟩ v) w.heap.size (.slice A1 base.length c1) base) := Lib.hid fun u v => (((Tn.setCell y1 w.heap.size 0 u).then (Tn.setCell _ w.heap.size 1 v)).ob HX.out.ob fun g hg e => by have := (HX.out.ob.lt g hg).1; omega).more (Nat.le_succ _)
    have HER : Hid (∀ u v, Rw ((y1.setCell ⟨w.heap.size, 0, none⟩ u).setCell ⟨w.heap.size, 1, none⟩ v) w.heap.size 30 (.slice A2 rs.length c2) rs) := Lib.hid fun u v => (HX.out.rw_.tn ((Tn.setCell y1 w.heap.size 0 u).then (Tn.setCell _ w.heap.size 1 v)) fun k hk e => by omega).more (Nat.le_succ _)
    have HST0 : True := trivial
    clear HCO b9 hsl
    cases s
    · by_cases ho : (openB (b.drop n)).2.2.2 = 0
      · have hu := openB_used ho
        rw [hdl] at hu
        have hu1 := hu.1
        have hu2 := hu.2.1
        clear hu
        by_cases k2 : (openB (b.drop n)).1 = 2
        · by_cases hn0 : n = 0
          · subst hn0
            have hz : base = [] ∧ rs = [] := by
              rcases HS.out.st with ⟨_, _, h1, h2⟩ | ⟨h9, _⟩
              · exact ⟨h1, h2⟩
              · omega
            obtain ⟨rfl, rfl⟩ := hz
            have hbo : b.drop 0 = b := rfl
            rw [hbo] at ho k2 hu1 hu2 ⊢
            have HNX := Lib.hid (St.first ho k2)
            have HX9 : Hid (Ob y1 (w.heap.size + 1) (.slice A9 (openB b).2.1.length c9) (openB b).2.1) := Lib.hid (by rw [hbo] at ob9; exact ob9.more (by have := HX0.out.lt; omega))
            have HNO : Hid ((Value.slice A2 0 c2).ownBlock = none) := Lib.hid (by rw [HX.out.nn rfl]; rfl)
            have HFIN := Lib.hid (HX.out.setBase HNO.out HX9.out)
            clear ob9 HX9 HX0 HS HST0
            generalize openB b = o at *
            obtain ⟨k, p, u, er⟩ := o
            simp only at ho k2 hu1 hu2 HNX HFIN ⊢
            subst ho k2
            go_wp2_with fail
            go_roundw
            case rel => exact ⟨u, false, p, [], A9, c9, A2, c2, by go_num, rfl, HNX, HFIN⟩
            case measure => simp [intOf]; omega
          · have HST := Lib.hid (HS.out.stop (by omega) (walGo_else ho (by rw [k2]; decide) (fun h => absurd (k2.symm.trans h.1) (by decide))))
            have n0 : ((n : Int) == 0) = false := by simpa using hn0
            clear ob9 HX0 HS HST0 hn0
            generalize openB (b.drop n) = o at *
            obtain ⟨k, p, u, er⟩ := o
            simp only at ho k2 hu1 hu2
            subst ho k2
            have HSN : Hid (readB b = none) := HST
            clear HST HX
            go_wp2_with fail
            (try rw [Exit.noGoto_ret])
            refine bodyPost_ret (v := .tuple #[.agg #[.slice none 0 0, .slice none 0 0], .int .i64 0]) (by simp [results, Try.results58, go_sem, x0, x1]) rfl ?_
            exact ⟨HEB.out _ _, .inl ⟨HSN.out, rfl⟩⟩
        · have kk2 : (((openB (b.drop n)).1.toNat : Int) == 2) = false := by
            have : ¬ (openB (b.drop n)).1.toNat = 2 := fun h => k2 (UInt8.toNat_inj.1 h)
            simp; omega
          by_cases hn0 : n = 0
          · subst hn0
            have HST : Hid (readB b = fin false 0 base rs) := Lib.hid (St.none_ fun h => k2 h.2)
            clear ob9 HX0 HS HST0
            generalize openB (b.drop 0) = o at *
            obtain ⟨k, p, u, er⟩ := o
            simp only at ho k2 kk2 hu1 hu2
            subst ho
            clear k2
            have HSN : Hid (readB b = none) := HST
            clear HST HX
            go_wp2_with fail
            (try rw [Exit.noGoto_ret])
            refine bodyPost_ret (v := .tuple #[.agg #[.slice none 0 0, .slice none 0 0], .int .i64 0]) (by simp [results, Try.results58, go_sem, x0, x1]) rfl ?_
            exact ⟨HEB.out _ _, .inl ⟨HSN.out, rfl⟩⟩
          · have n0 : ((n : Int) == 0) = false := by simpa using hn0
            by_cases k1 : (openB (b.drop n)).1 = 1
            · have HNX := Lib.hid (HS.out.rec_ (by omega) ho k1)
              have hne : ∀ ad : Addr, A9 = some ad → 0 < (openB (b.drop n)).2.1.length → w.heap.size + 1 ≤ ad.block ∧ (Value.slice A2 rs.length c2).ownBlock ≠ some ad.block := fun ad e _ => by
                have h2 := (ob9.lt ad.block (by rw [e]; rfl)).1
                exact ⟨by have := HX0.out.lt; omega, fun he => by have h1 := (HX0.out.rw_.lt _ he).2; omega⟩
              have HNE := Lib.hid hne
              have hnum := HS.out.num
              have HOB9 := Lib.hid ob9
              clear ob9 hne HX0 HS HST0 kk2 k2 hn0
              generalize openB (b.drop n) = o at *
              obtain ⟨k, p, u, er⟩ := o
              simp only at ho k1 hu1 hu2 HNX HNE HOB9
              subst ho k1
              go_wp2_with (at_builtin; refine wpList_pushR Try.underlying40 info_bsl rfl _ rfl (.tmp 36) (.tmp 38) rfl (w.heap.size + 1) (.slice A2 rs.length c2) rs rfl HX.out.rw_ p A9 c9 y1.heap.size rfl rfl HOB9.out.bs.1 HNE.out (rs.length + 1) rfl (by omega) (by have := HX.out.lt; omega) ?_; intro A8 c8 y2 hr8 hg8 hat8; have HFIN := Lib.hid (HX.out.push hr8 hg8 hat8); have t8 : Tn (fun k => (Value.slice A2 rs.length c2).ownBlock = some k) y1 y2 := (Tn.ofGrown hg8).mono (fun k _ e => e.symm); have hP8 : ¬ (Value.slice A2 rs.length c2).ownBlock = some w.heap.size := (fun e => by have := (HX.out.rw_.lt _ e).1; omega); have u1 := t8.cell x1 hP8; have uf := (t8.frozen (p := ⟨w.heap.size, 1, none⟩) HX.out.lt hP8).trans (xf 1); clear hr8 hg8 hat8 t8 hP8)
              go_roundw
              case rel => exact ⟨n + u, false, base, rs ++ [p], A1, c1, A8, c8, by go_num, rfl, HNX, HFIN⟩
              case measure => simp [intOf]; omega
            · have kk1 : (((openB (b.drop n)).1.toNat : Int) == 1) = false := by
                have : ¬ (openB (b.drop n)).1.toNat = 1 := fun h => k1 (UInt8.toNat_inj.1 h)
                simp; omega
              by_cases k3 : (openB (b.drop n)).1 = 3
              · have HNX := Lib.hid (HS.out.seal_ (by omega) ho k3)
                clear ob9 HX0 HS HST0 kk1 kk2 k1 k2 hn0
                generalize openB (b.drop n) = o at *
                obtain ⟨k, p, u, er⟩ := o
                simp only at ho k3 hu1 hu2 HNX
                subst ho k3
                go_wp2_with fail
                go_roundw
                case rel => exact ⟨n + u, true, base, rs, A1, c1, A2, c2, by go_num, rfl, HNX, HX⟩
                case measure => simp [intOf]; omega
              · have kk3 : (((openB (b.drop n)).1.toNat : Int) == 3) = false := by
                  have : ¬ (openB (b.drop n)).1.toNat = 3 := fun h => k3 (UInt8.toNat_inj.1 h)
                  simp; omega
                have HST := Lib.hid (HS.out.stop (by omega) (walGo_else ho k1 (fun h => k3 h.1)))
                clear ob9 HX0 HS HST0 hn0 k1 k2 k3
                generalize openB (b.drop n) = o at *
                obtain ⟨k, p, u, er⟩ := o
                simp only at ho kk1 kk2 kk3 hu1 hu2
                subst ho
                have HSN : Hid (readB b = none) := HST
                clear HST HX
                go_wp2_with fail
                (try rw [Exit.noGoto_ret])
                refine bodyPost_ret (v := .tuple #[.agg #[.slice none 0 0, .slice none 0 0], .int .i64 0]) (by simp [results, Try.results58, go_sem, x0, x1]) rfl ?_
                exact ⟨HEB.out _ _, .inl ⟨HSN.out, rfl⟩⟩
      · have HST : Hid (readB b = fin false n base rs) := Lib.hid (by
          by_cases hn0 : n = 0
          · subst hn0
            rcases HS.out.st with ⟨_, h1, _⟩ | ⟨h9, _⟩
            · rw [St.none_ (b := b) (fun h => ho h.1)]; rfl
            · omega
          · exact HS.out.stop (by omega) (walGo_bad ho))
        clear ob9 HX0 HS HST0
        generalize openB (b.drop n) = o at *
        obtain ⟨k, p, u, er⟩ := o
        simp only at ho
        have he : ((er : Int) == 0) = false := by simp; omega
        clear ho
        have HSN : Hid (readB b = none) := HST
        clear HST HX
        go_wp2_with fail
        (try rw [Exit.noGoto_ret])
        refine bodyPost_ret (v := .tuple #[.agg #[.slice none 0 0, .slice none 0 0], .int .i64 0]) (by simp [results, Try.results58, go_sem, x0, x1]) rfl ?_
        exact ⟨HEB.out _ _, .inl ⟨HSN.out, rfl⟩⟩
    · by_cases ho : (openB (b.drop n)).2.2.2 = 0
      · have hu := openB_used ho
        rw [hdl] at hu
        have hu1 := hu.1
        have hu2 := hu.2.1
        clear hu
        by_cases k2 : (openB (b.drop n)).1 = 2
        · by_cases hn0 : n = 0
          · exact absurd hn0 (by have := HS.out.st; rcases this with ⟨_, h, _⟩ | ⟨h, _⟩; exact absurd h (by decide); omega)
          · have HST := Lib.hid (HS.out.stop (by omega) (walGo_else ho (by rw [k2]; decide) (fun h => absurd (k2.symm.trans h.1) (by decide))))
            have n0 : ((n : Int) == 0) = false := by simpa using hn0
            clear ob9 HX0 HS HST0 hn0
            generalize openB (b.drop n) = o at *
            obtain ⟨k, p, u, er⟩ := o
            simp only at ho k2 hu1 hu2
            subst ho k2
            have HSN : Hid (readB b = some (base, rs, n)) := HST
            clear HST
            go_wp2_with fail
            (try rw [Exit.noGoto_ret])
            refine bodyPost_ret (v := .tuple #[.agg #[.slice A1 base.length c1, .slice A2 rs.length c2], .int .i64 (n : Int)]) (by simp [results, Try.results58, go_sem, x0, x1]) rfl ?_
            exact ⟨HEB.out _ _, .inr ⟨base, rs, n, A1, c1, A2, c2, HSN.out, rfl, HEO.out _ _, HER.out _ _⟩⟩
        · have kk2 : (((openB (b.drop n)).1.toNat : Int) == 2) = false := by
            have : ¬ (openB (b.drop n)).1.toNat = 2 := fun h => k2 (UInt8.toNat_inj.1 h)
            simp; omega
          by_cases hn0 : n = 0
          · exact absurd hn0 (by have := HS.out.st; rcases this with ⟨_, h, _⟩ | ⟨h, _⟩; exact absurd h (by decide); omega)
          · have n0 : ((n : Int) == 0) = false := by simpa using hn0
            by_cases k1 : (openB (b.drop n)).1 = 1
            · have HNX := Lib.hid (HS.out.rec_ (by omega) ho k1)
              have hne : ∀ ad : Addr, A9 = some ad → 0 < (openB (b.drop n)).2.1.length → w.heap.size + 1 ≤ ad.block ∧ (Value.slice A2 rs.length c2).ownBlock ≠ some ad.block := fun ad e _ => by
                have h2 := (ob9.lt ad.block (by rw [e]; rfl)).1
                exact ⟨by have := HX0.out.lt; omega, fun he => by have h1 := (HX0.out.rw_.lt _ he).2; omega⟩
              have HNE := Lib.hid hne
              have hnum := HS.out.num
              have HOB9 := Lib.hid ob9
              clear ob9 hne HX0 HS HST0 kk2 k2 hn0
              generalize openB (b.drop n) = o at *
              obtain ⟨k, p, u, er⟩ := o
              simp only at ho k1 hu1 hu2 HNX HNE HOB9
              subst ho k1
              go_wp2_with (at_builtin; refine wpList_pushR Try.underlying40 info_bsl rfl _ rfl (.tmp 36) (.tmp 38) rfl (w.heap.size + 1) (.slice A2 rs.length c2) rs rfl HX.out.rw_ p A9 c9 y1.heap.size rfl rfl HOB9.out.bs.1 HNE.out (rs.length + 1) rfl (by omega) (by have := HX.out.lt; omega) ?_; intro A8 c8 y2 hr8 hg8 hat8; have HFIN := Lib.hid (HX.out.push hr8 hg8 hat8); have t8 : Tn (fun k => (Value.slice A2 rs.length c2).ownBlock = some k) y1 y2 := (Tn.ofGrown hg8).mono (fun k _ e => e.symm); have hP8 : ¬ (Value.slice A2 rs.length c2).ownBlock = some w.heap.size := (fun e => by have := (HX.out.rw_.lt _ e).1; omega); have u1 := t8.cell x1 hP8; have uf := (t8.frozen (p := ⟨w.heap.size, 1, none⟩) HX.out.lt hP8).trans (xf 1); clear hr8 hg8 hat8 t8 hP8)
              go_roundw
              case rel => exact ⟨n + u, true, base, rs ++ [p], A1, c1, A8, c8, by go_num, rfl, HNX, HFIN⟩
              case measure => simp [intOf]; omega
            · have kk1 : (((openB (b.drop n)).1.toNat : Int) == 1) = false := by
                have : ¬ (openB (b.drop n)).1.toNat = 1 := fun h => k1 (UInt8.toNat_inj.1 h)
                simp; omega
              by_cases k3 : (openB (b.drop n)).1 = 3
              · have HST := Lib.hid (HS.out.stop (by omega) (walGo_else ho k1 (fun h => absurd h.2 (by decide))))
                clear ob9 HX0 HS HST0 kk1 kk2 k1 k2 hn0
                generalize openB (b.drop n) = o at *
                obtain ⟨k, p, u, er⟩ := o
                simp only at ho k3 hu1 hu2
                subst ho k3
                have HSN : Hid (readB b = some (base, rs, n)) := HST
                clear HST
                go_wp2_with fail
                (try rw [Exit.noGoto_ret])
                refine bodyPost_ret (v := .tuple #[.agg #[.slice A1 base.length c1, .slice A2 rs.length c2], .int .i64 (n : Int)]) (by simp [results, Try.results58, go_sem, x0, x1]) rfl ?_
                exact ⟨HEB.out _ _, .inr ⟨base, rs, n, A1, c1, A2, c2, HSN.out, rfl, HEO.out _ _, HER.out _ _⟩⟩
              · have kk3 : (((openB (b.drop n)).1.toNat : Int) == 3) = false := by
                  have : ¬ (openB (b.drop n)).1.toNat = 3 := fun h => k3 (UInt8.toNat_inj.1 h)
                  simp; omega
                have HST := Lib.hid (HS.out.stop (by omega) (walGo_else ho k1 (fun h => k3 h.1)))
                clear ob9 HX0 HS HST0 hn0 k1 k2 k3
                generalize openB (b.drop n) = o at *
                obtain ⟨k, p, u, er⟩ := o
                simp only at ho kk1 kk2 kk3 hu1 hu2
                subst ho
                have HSN : Hid (readB b = some (base, rs, n)) := HST
                clear HST
                go_wp2_with fail
                (try rw [Exit.noGoto_ret])
                refine bodyPost_ret (v := .tuple #[.agg #[.slice A1 base.length c1, .slice A2 rs.length c2], .int .i64 (n : Int)]) (by simp [results, Try.results58, go_sem, x0, x1]) rfl ?_
                exact ⟨HEB.out _ _, .inr ⟨base, rs, n, A1, c1, A2, c2, HSN.out, rfl, HEO.out _ _, HER.out _ _⟩⟩
      · have HST : Hid (readB b = fin true n base rs) := Lib.hid (by
          by_cases hn0 : n = 0
          · subst hn0
            rcases HS.out.st with ⟨_, h1, _⟩ | ⟨h9, _⟩
            · cases h1
            · omega
          · exact HS.out.stop (by omega) (walGo_bad ho))
        clear ob9 HX0 HS HST0
        generalize openB (b.drop n) = o at *
        obtain ⟨k, p, u, er⟩ := o
        simp only at ho
        have he : ((er : Int) == 0) = false := by simp; omega
        clear ho
        have HSN : Hid (readB b = some (base, rs, n)) := HST
        clear HST
        go_wp2_with fail
        (try rw [Exit.noGoto_ret])
        refine bodyPost_ret (v := .tuple #[.agg #[.slice A1 base.length c1, .slice A2 rs.length c2], .int .i64 (n : Int)]) (by simp [results, Try.results58, go_sem, x0, x1]) rfl ?_
        exact ⟨HEB.out _ _, .inr ⟨base, rs, n, A1, c1, A2, c2, HSN.out, rfl, HEO.out _ _, HER.out _ _⟩⟩
end Go.Proofs.Ytpckbbjlihhpdaa
namespace Go.Proofs.Ytpckbbjlihhpdaa
open Go.RowKit Go.Shelf

attribute [local go_sem] Oper.semAt_some

/-- A segment and its place. -/
abbrev Ixx (L : List As) := { p : Nat × As // L[p.1]? = some p.2 }
def dnf (L : List As) (h : 0 < L.length) (j : Nat) : Ixx L := ⟨(L.length - 1 - j, L[L.length - 1 - j]'(by omega)), by simp⟩
/-- What has come when k rounds are over. -/
def dnt (L : List As) (h : 0 < L.length) (k : Nat) : List (Ixx L) := (List.range k).map (dnf L h)
theorem dnt_succ (L : List As) (h : 0 < L.length) (k : Nat) : dnt L h (k + 1) = dnt L h k ++ [dnf L h k] := by simp [dnt, List.range_succ]
theorem dnt_length (L : List As) (h : 0 < L.length) (k : Nat) : (dnt L h k).length = k := by simp [dnt]
def encx {L : List As} (x : Ixx L) : Array Value := #[.int .i64 ((x.1.1 : Nat) : Int), .int .i64 x.1.2.n]

set_option maxRecDepth 100000 in
set_option maxHeartbeats 2000000 in
theorem bk1_in (F : Fence) (n : Nat) (h8 : F.fn 64) (hro : F.round = none) (hn : 1 ≤ n) (l Bx n₀ g cap : Nat) (L : List As) (hL : 0 < L.length) (hreach : L.length ≤ 1024) (hb : g < n₀) (J Jx : List (Ixx L) → World → Prop)
    (hY : ∀ pre x W, J pre W → pre.length < L.length → YieldAt F (n - 1) Try.prog l (encx x) W fun e W' =>
      (e = .returned (.bool true) ∧ J (pre ++ [x]) W' ∧ Below n₀ W W') ∨ (e = .returned (.bool false) ∧ Jx (pre ++ [x]) W'))
    (W : World) (hBs : W.cell? ⟨Bx, 0, none⟩ = some (.slice (some ⟨g, 0, none⟩) L.length cap)) (hBn : Bx < n₀) (hc : ∀ j x, L[j]? = some x → W.cell? ⟨g, j, none⟩ = some (.int .i64 x.n)) (h0 : J [] W) :
    CallsIn F n Try.prog 64 #[.func (.yield l) #[] #[], .pointer (some ⟨Bx, 0, none⟩)] W fun e W' => (∃ v, e = .returned v) ∧
      ((∃ ys, ys = dnt L hL L.length ∧ J ys W') ∨ (∃ pre, (∃ k, k ≤ L.length ∧ pre = dnt L hL k) ∧ Jx pre W')) := by
  refine callsIn_of_wp Try.func64 rfl h8 ?_ hro
  simp only [Try.ntmps64, List.size_toArray, List.length_cons, List.length_nil, Nat.reduceAdd, Nat.reduceSub, Array.replicate_succ, Array.replicate_zero, List.push_toArray, List.append_toArray, List.nil_append, List.cons_append]
  gi_wp2
  gi_loopw [3] (fun i wr => ∃ k : Nat, k ≤ L.length ∧ i = .int .i64 ((L.length : Int) - 1 - (k : Int)) ∧ J (dnt L hL k) wr ∧ Below n₀ W wr)
    (fun i _ => (intOf i + 1).toNat)
  case atStart => exact ⟨0, Nat.zero_le _, by simp, h0, Below.refl _ _⟩
  case round =>
    obtain ⟨k, hk, rfl, hJs, hnx⟩ := hrel
    by_cases hlt : k < L.length
    · obtain ⟨fn, tmps, assign, body, hy, hR⟩ := hY _ (dnf L hL k) wr hJs (by rw [dnt_length]; exact hlt)
      simp only [encx, dnf] at hy
      have hq2 := List.getElem?_eq_getElem (l := L) (i := L.length - 1 - k) (by omega)
      have hcx := (hnx.cell (p := ⟨g, L.length - 1 - k, none⟩) hb).trans (hc _ _ hq2)
      have hbx := (hnx.cell (p := ⟨Bx, 0, none⟩) hBn).trans hBs
      have hqi : (L.length : Int) - 1 - (k : Int) = ((L.length - 1 - k : Nat) : Int) := by omega
      have hql : L.length - 1 - k < L.length := by omega
      rw [hqi]
      generalize L[L.length - 1 - k] = x at hy hcx
      generalize L.length - 1 - k = q at hy hcx hqi hql ⊢
      have HQI := Lib.hid hqi
      clear hqi hq2 hc hBs h0
      gi_wp2
      refine hR.mono ?_
      rintro e W3 (⟨rfl, hJ3, hk3⟩ | ⟨rfl, hJx3⟩)
      · gi_wp2
        go_roundw
        case rel => exact ⟨k + 1, by omega, by have := HQI.out; congr 1; push_cast; omega, by rw [dnt_succ]; exact hJ3, hnx.trans hk3⟩
        case measure => simp [intOf]
      · gi_wp2
        refine bodyPost_ret (results_none rfl _ _ _) rfl ?_
        exact ⟨⟨_, rfl⟩, .inr ⟨_, ⟨k + 1, by omega, (dnt_succ _ _ _).symm⟩, hJx3⟩⟩
    · obtain rfl : k = L.length := by omega
      have hqi : (L.length : Int) - 1 - (L.length : Int) = -1 := by omega
      rw [hqi]
      gi_wp2
      go_end0
      exact ⟨⟨_, rfl⟩, .inl ⟨_, rfl, hJs⟩⟩
set_option maxRecDepth 100000 in
set_option maxHeartbeats 1000000 in
theorem bk1_nil_in (F : Fence) (n : Nat) (h8 : F.fn 64) (hro : F.round = none) (l Bx cap : Nat) (A : Option Addr) (J : List (Ixx []) → World → Prop) (W : World) (hBs : W.cell? ⟨Bx, 0, none⟩ = some (.slice A 0 cap)) (h0 : J [] W) :
    CallsIn F n Try.prog 64 #[.func (.yield l) #[] #[], .pointer (some ⟨Bx, 0, none⟩)] W fun e W' => (∃ v, e = .returned v) ∧ J [] W' := by
  refine callsIn_of_wp Try.func64 rfl h8 ?_ hro
  simp only [Try.ntmps64, List.size_toArray, List.length_cons, List.length_nil, Nat.reduceAdd, Nat.reduceSub, Array.replicate_succ, Array.replicate_zero, List.push_toArray, List.append_toArray, List.nil_append, List.cons_append]
  gi_wp2
  gi_loopw [3] (fun i wr => i = .int .i64 (-1) ∧ J [] wr) (fun _ _ => 0)
  case atStart => exact ⟨by simp, h0⟩
  case round =>
    obtain ⟨rfl, hJs⟩ := hrel
    gi_wp2
    go_end0
    exact ⟨⟨_, rfl⟩, hJs⟩
set_option maxHeartbeats 1000000 in
theorem bk_in (F : Fence) (n : Nat) (h6 : F.fn 57) (hro : F.round = none) (a : Option Addr) (len cap : Nat) (w : World) :
    CallsIn F n Try.prog 57 #[.slice a len cap] w fun e w' => e = .returned (.func (.func 64) #[] #[.pointer (some ⟨w.heap.size, 0, none⟩)]) ∧ w' = w.alloc (.cells #[.slice a len cap] 31) := by
  refine callsIn_of_wp Try.func57 rfl h6 ?_ hro
  simp only [Try.ntmps57, List.size_toArray, List.length_cons, List.length_nil, Nat.reduceAdd, Nat.reduceSub, Array.replicate_succ, Array.replicate_zero, List.push_toArray, List.append_toArray, List.nil_append, List.cons_append]
  gi_wp2
  go_ret
  exact ⟨rfl, rfl⟩
/-- All have come; some have. -/
def Sall (L : List As) (ys : List (Ixx L)) : Prop := ∀ i x, (h : L[i]? = some x) → (⟨(i, x), h⟩ : Ixx L) ∈ ys
def Ssome (L : List As) (pre : List (Ixx L)) : Prop := ∃ hL k, k ≤ L.length ∧ pre = dnt L hL k
theorem sall (L : List As) (hL : 0 < L.length) : Sall L (dnt L hL L.length) := by
  intro i x h
  obtain ⟨hi, hx⟩ := List.getElem?_eq_some_iff.1 h
  refine List.mem_map.2 ⟨L.length - 1 - i, List.mem_range.2 (by omega), ?_⟩
  have e : L.length - 1 - (L.length - 1 - i) = i := by omega
  apply Subtype.ext
  show (L.length - 1 - (L.length - 1 - i), L[L.length - 1 - (L.length - 1 - i)]) = (i, x)
  simp only [e, hx]
theorem bk_stops (F : Fence) (n : Nat) (h8 : F.fn 64) (hro : F.round = none) (hn : 1 ≤ n) (Bx n₀ cap : Nat) (A : Option Addr) (L : List As) (hreach : L.length ≤ 1024) (w : World) (hBs : Bx < n₀) (hn₀ : n₀ ≤ w.heap.size)
    (hc : w.cell? ⟨Bx, 0, none⟩ = some (.slice A L.length cap)) (hI : 0 < L.length → ∃ g, A = some ⟨g, 0, none⟩ ∧ g < n₀ ∧ ∀ j x, L[j]? = some x → w.cell? ⟨g, j, none⟩ = some (.int .i64 x.n)) :
    SeqStopsK F n Try.prog 64 #[.pointer (some ⟨Bx, 0, none⟩)] (fun x : Ixx L => #[Value.int .i64 ((x.1.1 : Nat) : Int), Value.int .i64 x.1.2.n]) (Below n₀) (Sall L) (Ssome L) L.length w := fun l J Jx W hW _ _ hY h0 => by
  have hc' := (hW.cell (p := ⟨Bx, 0, none⟩) (by show Bx < _; omega)).trans hc
  by_cases hL : 0 < L.length
  · obtain ⟨g, rfl, hg, hcs⟩ := hI hL
    refine (bk1_in F n h8 hro hn l Bx n₀ g cap L hL hreach hg J Jx hY W hc' hBs (fun j x hj => (hW.cell (p := ⟨g, j, none⟩) (by show g < _; omega)).trans (hcs j x hj)) h0).mono ?_
    rintro e W' ⟨he, ⟨ys, rfl, hj⟩ | ⟨pre, ⟨k, hk, rfl⟩, hj⟩⟩
    · exact ⟨he, .inl ⟨_, sall L hL, hj⟩⟩
    · exact ⟨he, .inr ⟨_, ⟨hL, k, hk, rfl⟩, hj⟩⟩
  · obtain rfl : L = [] := List.eq_nil_of_length_eq_zero (by omega)
    exact (bk1_nil_in F n h8 hro l Bx cap A J W hc' h0).mono fun e W' ⟨he, hj⟩ => ⟨he, .inl ⟨_, fun i x h => by simp at h, hj⟩⟩
/-- The last segment in which something stands, and what does. -/
def newA : List As → Option (As × List UInt8 × List (List UInt8) × Nat)
  | [] => none
  | x :: L => match newA L with
    | some r => some r
    | none => match readB x.b with
      | some (b, r, n) => some (x, b, r, n)
      | none => none
theorem newA_none : ∀ {L : List As}, (∀ x ∈ L, readB x.b = none) → newA L = none
  | [], _ => rfl
  | x :: L, h => by
    have h1 := newA_none (L := L) fun y hy => h y (by simp [hy])
    have h2 := h x (by simp)
    simp [newA, h1, h2]
theorem newA_some {b : List UInt8} {r : List (List UInt8)} {n : Nat} : ∀ {L : List As} {i : Nat} {x : As}, L[i]? = some x → (∀ (j : Nat) y, i < j → L[j]? = some y → readB y.b = none) → readB x.b = some (b, r, n) → newA L = some (x, b, r, n)
  | [], _, _, h, _, _ => by simp at h
  | z :: L, 0, x, h, hn, hr => by
    simp at h
    subst h
    have h1 := newA_none (L := L) fun y hy => by
      obtain ⟨j, hj⟩ := List.getElem?_of_mem hy
      exact hn (j + 1) y (by omega) (by simpa using hj)
    simp [newA, h1, hr]
  | z :: L, i + 1, x, h, hn, hr => by
    have h1 := newA_some (L := L) (i := i) (x := x) (by simpa using h) (fun j y hj hy => hn (j + 1) y (by omega) (by simpa using hy)) hr
    simp [newA, h1]
theorem walGo_ge : ∀ (m : Nat) (l : List UInt8) (s : Bool) (n : Nat), l.length ≤ m → n ≤ (walGo l s n).2.2
  | 0, l, s, n, h => by
    have : l = [] := List.eq_nil_of_length_eq_zero (by omega)
    subst this
    rw [walGo_nil]
    exact Nat.le_refl _
  | m + 1, l, s, n, h => by
    by_cases h0 : (openB l).2.2.2 = 0
    · have hu := openB_used h0
      by_cases h1 : (openB l).1 = 1
      · rw [walGo_rec h0 h1]
        have := walGo_ge m (l.drop (openB l).2.2.1) s (n + (openB l).2.2.1) (by rw [List.length_drop]; omega)
        simp only
        omega
      · by_cases h3 : (openB l).1 = 3 ∧ s = false
        · obtain ⟨h3, rfl⟩ := h3
          rw [walGo_seal h0 h3]
          have := walGo_ge m (l.drop (openB l).2.2.1) true (n + (openB l).2.2.1) (by rw [List.length_drop]; omega)
          omega
        · rw [walGo_else h0 h1 h3]
          exact Nat.le_refl _
    · rw [walGo_bad h0]
      exact Nat.le_refl _
theorem readB_pos {b base : List UInt8} {rs : List (List UInt8)} {n : Nat} (h : readB b = some (base, rs, n)) : 0 < n := by
  unfold readB at h
  split at h
  · rename_i h1
    have hu := openB_used h1.1
    have := walGo_ge _ (b.drop (openB b).2.2.1) false (openB b).2.2.1 (Nat.le_refl _)
    split at h
    · cases h
      omega
    · cases h
  · cases h
def alB (L : List As) (x : As) (n : Nat) : Bool := decide (L.length = 1) && decide (n = x.b.length)
theorem keepsFrom_below {B : Nat} {W W' : World} (h : Below W.heap.size W W') : KeepsFrom B W W' :=
  ⟨h.size, fun k _ _ hk _ => (h.block k (Array.getElem?_eq_some_iff.1 hk).1).trans hk⟩
theorem bs_own {W W' : World} {row : Option Nat} {A : Option Addr} {c : Nat} {p : List UInt8} (h : Bs W W.heap.size A c p) (hg : W.grownBy W' row) (hr : ∀ r, row = some r → ∃ o : Obj, W.heap[r]? = some o ∧ o.isCells = false) : Bs W' W'.heap.size A c p :=
  ⟨h.le, h.max, h.nil, fun hl => by
    obtain ⟨ad, e, hb, hc⟩ := h.at_ hl
    exact ⟨ad, e, Nat.lt_of_lt_of_le hb hg.size, fun j u hu => cell_kept (hc j u hu) hg hr⟩⟩
theorem row_own {W W' : World} {row : Option Nat} {K k : Nat} {T : TypeId} {v : Value} {n : Nat} {xs : List Value} (h : W.ownsRow K T k v n xs) (hg : W.grownBy W' row) (hr : ∀ r, row = some r → ∃ o : Obj, W.heap[r]? = some o ∧ o.isCells = false) : W'.ownsRow K T k v n xs := by
  refine h.kept hg ?_
  rcases h.2 with ⟨rfl, _⟩ | ⟨g, cap, cur, rfl, _, hgb, _⟩
  · exact .inl rfl
  · refine .inr fun e' => ?_
    obtain ⟨o, ho, hc⟩ := hr g e'.symm
    rw [hgb] at ho
    cases ho
    cases hc
theorem Rw.own {W W' : World} {row : Option Nat} {K : Nat} {T : TypeId} {v : Value} {ps : List (List UInt8)} (h : Rw W K T v ps) (hg : W.grownBy W' row) (hr : ∀ r, row = some r → ∃ o : Obj, W.heap[r]? = some o ∧ o.isCells = false) : Rw W' K T v ps := by
  obtain ⟨xs, ho, hx⟩ := h
  exact ⟨xs, row_own ho hg hr, fun i p hi => by
    obtain ⟨A, c, h2, h3, h4⟩ := hx i p hi
    exact ⟨A, c, h2, bs_own h3 hg hr, h4⟩⟩
/-- What newest tells. -/
def NewPost (w : World) (L : List As) (e : Ending) (w' : World) : Prop :=
  Below w.heap.size w w' ∧ ((newA L = none ∧ e = .returned (.tuple #[.agg #[.slice none 0 0, .slice none 0 0], .bool false, .int .i64 0])) ∨
    ∃ x base rs n A1 c1 A2 c2, newA L = some (x, base, rs, n) ∧ e = .returned (.tuple #[.agg #[.slice A1 base.length c1, .slice A2 rs.length c2], .bool (alB L x n), .int .i64 0]) ∧ Ob w' w.heap.size (.slice A1 base.length c1) base ∧ Rw w' w.heap.size 30 (.slice A2 rs.length c2) rs)
/-- A round has found it. -/
def Found (w : World) (q2 q3 q4 : Nat) (L : List As) (pre : List (Ixx L)) (W : World) : Prop :=
  ∃ ini last base rs n A1 c1 A2 c2, pre = ini ++ [last] ∧ (∀ y ∈ ini, readB y.1.2.b = none) ∧ readB last.1.2.b = some (base, rs, n) ∧
    W.cell? ⟨q2, 0, none⟩ = some (.slice A1 base.length c1) ∧ W.cell? ⟨q2, 1, none⟩ = some (.slice A2 rs.length c2) ∧ W.cell? ⟨q3, 0, none⟩ = some (.bool (alB L last.1.2 n)) ∧ W.cell? ⟨q4, 0, none⟩ = some (.int .i64 0) ∧
    Ob W w.heap.size (.slice A1 base.length c1) base ∧ Rw W w.heap.size 30 (.slice A2 rs.length c2) rs
theorem found_own (w : World) (q2 q3 q4 : Nat) (L : List As) : Own (Found w q2 q3 q4 L) := by
  rintro pre W W' row ⟨ini, last, base, rs, n, A1, c1, A2, c2, h1, h2, h3, h4, h5, h6, h7, h8, h9⟩ hg hr
  exact ⟨ini, last, base, rs, n, A1, c1, A2, c2, h1, h2, h3, cell_kept h4 hg hr, cell_kept h5 hg hr, cell_kept h6 hg hr, cell_kept h7 hg hr, row_own h8 hg hr, h9.own hg hr⟩
/-- Nothing has been found so far. -/
def Noth (q0 q1 q2 q3 q4 d : Nat) (A : Option Addr) (c : Nat) (L : List As) (pre : List (Ixx L)) (W : World) : Prop :=
  (∀ y ∈ pre, readB y.1.2.b = none) ∧ W.cell? ⟨q0, 0, none⟩ = some (.pointer (some ⟨d, 0, none⟩)) ∧ W.cell? ⟨q1, 0, none⟩ = some (.slice A L.length c) ∧
    W.cell? ⟨q2, 0, none⟩ = some (.slice none 0 0) ∧ W.cell? ⟨q2, 1, none⟩ = some (.slice none 0 0) ∧ W.cell? ⟨q3, 0, none⟩ = some (.bool false) ∧ W.cell? ⟨q4, 0, none⟩ = some (.int .i64 0) ∧
    W.frozen? ⟨q2, 0, none⟩ = false ∧ W.frozen? ⟨q2, 1, none⟩ = false ∧ W.frozen? ⟨q3, 0, none⟩ = false ∧ W.frozen? ⟨q4, 0, none⟩ = false
theorem noth_own (q0 q1 q2 q3 q4 d : Nat) (A : Option Addr) (c : Nat) (L : List As) : Own (Noth q0 q1 q2 q3 q4 d A c L) := by
  rintro pre W W' row ⟨h1, h2, h3, h4, h5, h6, h7, f1, f2, f3, f4⟩ hg hr
  exact ⟨h1, cell_kept h2 hg hr, cell_kept h3 hg hr, cell_kept h4 hg hr, cell_kept h5 hg hr, cell_kept h6 hg hr, cell_kept h7 hg hr, (frozen_kept h4 hg hr).trans f1, (frozen_kept h5 hg hr).trans f2, (frozen_kept h6 hg hr).trans f3, (frozen_kept h7 hg hr).trans f4⟩
theorem new_of {L : List As} (hL : 0 < L.length) {k : Nat} (hk : k + 1 ≤ L.length) {b : List UInt8} {r : List (List UInt8)} {n : Nat} (h : ∀ y ∈ dnt L hL k, readB y.1.2.b = none) (hr : readB (dnf L hL k).1.2.b = some (b, r, n)) : newA L = some ((dnf L hL k).1.2, b, r, n) := by
  refine newA_some (i := L.length - 1 - k) (dnf L hL k).2 (fun j y hj hy => ?_) hr
  obtain ⟨hjl, rfl⟩ := List.getElem?_eq_some_iff.1 hy
  have h9 := h (dnf L hL (L.length - 1 - j)) (List.mem_map.2 ⟨L.length - 1 - j, List.mem_range.2 (by omega), rfl⟩)
  have e : L.length - 1 - (L.length - 1 - j) = j := by omega
  simp only [dnf, e] at h9
  exact h9
/-- The results are stored. -/
def put3 (W : World) (q2 q3 q4 : Nat) (u v b : Value) : World := (((W.setCell ⟨q2, 0, none⟩ u).setCell ⟨q2, 1, none⟩ v).setCell ⟨q3, 0, none⟩ b).setCell ⟨q4, 0, none⟩ (.int .i64 0)
theorem put3_tn (W : World) (q2 q3 q4 : Nat) (u v b : Value) : Tn (fun k => k = q2 ∨ k = q3 ∨ k = q4) W (put3 W q2 q3 q4 u v b) :=
  ((((Tn.setCell W q2 0 u).mono fun _ _ h => .inl h).then ((Tn.setCell _ q2 1 v).mono fun _ _ h => .inl h)).then ((Tn.setCell _ q3 0 b).mono fun _ _ h => .inr (.inl h))).then ((Tn.setCell _ q4 0 (.int .i64 0)).mono fun _ _ h => .inr (.inr h))
theorem put3_cells {W : World} {q2 q3 q4 : Nat} {u0 u1 u2 u3 : Value} (e23 : q2 ≠ q3) (e24 : q2 ≠ q4) (e34 : q3 ≠ q4) (n2 : W.cell? ⟨q2, 0, none⟩ = some u0) (n2b : W.cell? ⟨q2, 1, none⟩ = some u1) (n3 : W.cell? ⟨q3, 0, none⟩ = some u2) (n4 : W.cell? ⟨q4, 0, none⟩ = some u3) (u v b : Value) :
    (put3 W q2 q3 q4 u v b).cell? ⟨q2, 0, none⟩ = some u ∧ (put3 W q2 q3 q4 u v b).cell? ⟨q2, 1, none⟩ = some v ∧ (put3 W q2 q3 q4 u v b).cell? ⟨q3, 0, none⟩ = some b ∧ (put3 W q2 q3 q4 u v b).cell? ⟨q4, 0, none⟩ = some (.int .i64 0) := by
  refine ⟨?_, ?_, ?_, ?_⟩
  · unfold put3; first | (simp [go_sem, n2]; done) | (simp [go_sem, n2, e23, e24]; done)
  · unfold put3; first | (simp [go_sem, n2b]; done) | (simp [go_sem, n2b, e23, e24]; done)
  · unfold put3; first | (simp [go_sem, n3]; done) | (simp [go_sem, n3, e34, e23.symm]; done)
  · unfold put3; first | (simp [go_sem, n4]; done) | (simp [go_sem, n4, e24.symm, e34.symm]; done)
theorem found_put {w W : World} {K q2 q3 q4 c1 c2 n : Nat} {A1 A2 : Option Addr} {u0 u1 u2 u3 : Value} {base : List UInt8} {rs : List (List UInt8)} {L : List As} {ini : List (Ixx L)} {last : Ixx L} (hq : w.heap.size ≤ q2 ∧ q2 < q3 ∧ q3 < q4 ∧ q4 < K)
    (n2 : W.cell? ⟨q2, 0, none⟩ = some u0) (n2b : W.cell? ⟨q2, 1, none⟩ = some u1) (n3 : W.cell? ⟨q3, 0, none⟩ = some u2) (n4 : W.cell? ⟨q4, 0, none⟩ = some u3) (hi : ∀ y ∈ ini, readB y.1.2.b = none) (hl : readB last.1.2.b = some (base, rs, n))
    (ob : Ob W K (.slice A1 base.length c1) base) (rw_ : Rw W K 30 (.slice A2 rs.length c2) rs) (hB : Below w.heap.size w W) :
    Found w q2 q3 q4 L (ini ++ [last]) (put3 W q2 q3 q4 (.slice A1 base.length c1) (.slice A2 rs.length c2) (.bool (alB L last.1.2 n))) ∧ Below w.heap.size w (put3 W q2 q3 q4 (.slice A1 base.length c1) (.slice A2 rs.length c2) (.bool (alB L last.1.2 n))) := by
  have t := put3_tn W q2 q3 q4 (.slice A1 base.length c1) (.slice A2 rs.length c2) (.bool (alB L last.1.2 n))
  have e23 : q2 ≠ q3 := by omega
  have e24 : q2 ≠ q4 := by omega
  have e34 : q3 ≠ q4 := by omega
  refine ⟨⟨ini, last, base, rs, n, A1, c1, A2, c2, rfl, hi, hl, ?_, ?_, ?_, ?_, (t.ob ob fun g hg e => by have := (ob.lt g hg).1; omega).more (by omega), (rw_.tn t fun k hk e => by omega).more (by omega)⟩, t.bel hB (fun k hk => by omega) (Nat.le_refl _)⟩
  · unfold put3; first | (simp [go_sem, n2]; done) | (simp [go_sem, n2, e23, e24]; done)
  · unfold put3; first | (simp [go_sem, n2b]; done) | (simp [go_sem, n2b, e23, e24]; done)
  · unfold put3; first | (simp [go_sem, n3]; done) | (simp [go_sem, n3, e34, e23.symm]; done)
  · unfold put3; first | (simp [go_sem, n4]; done) | (simp [go_sem, n4, e24.symm, e34.symm]; done)
theorem Noth.kept {q0 q1 q2 q3 q4 d c : Nat} {A : Option Addr} {L : List As} {pre : List (Ixx L)} {x : Ixx L} {W W' : World} (h : Noth q0 q1 q2 q3 q4 d A c L pre W) (hb : Below W.heap.size W W') (hx : readB x.1.2.b = none) : Noth q0 q1 q2 q3 q4 d A c L (pre ++ [x]) W' := by
  obtain ⟨h1, h2, h3, h4, h5, h6, h7, f1, f2, f3, f4⟩ := h
  have fk : ∀ {p : Addr} {v : Value}, W.cell? p = some v → W'.frozen? p = W.frozen? p := fun {p v} hv => hb.frozen (World.block_lt_of_cell? W _ hv)
  refine ⟨fun y hy => (List.mem_append.1 hy).elim (h1 y) fun e => by simp at e; subst e; exact hx, Go.Proofs.Ytpckbbjlihhpdaa.kept hb h2, Go.Proofs.Ytpckbbjlihhpdaa.kept hb h3, Go.Proofs.Ytpckbbjlihhpdaa.kept hb h4, Go.Proofs.Ytpckbbjlihhpdaa.kept hb h5, Go.Proofs.Ytpckbbjlihhpdaa.kept hb h6, Go.Proofs.Ytpckbbjlihhpdaa.kept hb h7, (fk h4).trans f1, (fk h5).trans f2, (fk h6).trans f3, (fk h7).trans f4⟩
set_option maxRecDepth 100000 in
set_option maxHeartbeats 6400000 in
theorem newest_any {w : World} {B : Nat → Prop} {d c K : Nat} {a : Ad} {A : Option Addr} (D : DD w B d a) (hd : a.down = false) (so : So encI 1 w K 3 (.slice A a.L.length c) (a.L.map As.n)) :
    Calls Try.prog 36 #[dP d, .slice A a.L.length c] w (NewPost w a.L) := by
  refine (callsIn_wide (n := 8)).1 ?_
  refine callsIn_of_wp_marks Try.func36 rfl trivial ?_ rfl
  simp only [Try.ntmps36, List.size_toArray, List.length_cons, List.length_nil, Nat.reduceAdd, Nat.reduceSub, Array.replicate_succ, Array.replicate_zero, List.push_toArray, List.append_toArray, List.nil_append, List.cons_append]
  gi_wp2_with (refine ⟨trivial, ?_⟩; gi_at_call 57; refine (bk_in Fence.wide (8 - 1) trivial rfl _ _ _ _).mono ?_; rintro e w' ⟨rfl, rfl⟩)
  obtain ⟨q5, h5⟩ : ∃ q, q = w.heap.size + 1 + 1 + 1 + 1 + 1 := ⟨_, rfl⟩
  obtain ⟨q4, h4⟩ : ∃ q, q = w.heap.size + 1 + 1 + 1 + 1 := ⟨_, rfl⟩
  obtain ⟨q3, h3⟩ : ∃ q, q = w.heap.size + 1 + 1 + 1 := ⟨_, rfl⟩
  obtain ⟨q2, h2⟩ : ∃ q, q = w.heap.size + 1 + 1 := ⟨_, rfl⟩
  obtain ⟨q1, h1⟩ : ∃ q, q = w.heap.size + 1 := ⟨_, rfl⟩
  obtain ⟨q0, h0⟩ : ∃ q, q = w.heap.size := ⟨_, rfl⟩
  obtain ⟨W6, hW6⟩ : ∃ W6, W6 = ((((((w.alloc (Obj.cells #[dP d] 24)).alloc (Obj.cells #[Value.slice A a.L.length c] 31)).alloc (Obj.cells #[Value.slice none 0 0, Value.slice none 0 0] 78)).alloc (Obj.cells #[Value.bool false] 4)).alloc (Obj.cells #[Value.int IntKind.i64 0] 25)).alloc (Obj.cells #[Value.slice A a.L.length c] 31)) := ⟨_, rfl⟩
  rw [← hW6, ← h5, ← h4, ← h3, ← h2, ← h1, ← h0]
  have hb6 : Below w.heap.size w W6 := by
    rw [hW6]
    exact ((((((Below.refl _ _).alloc (Nat.le_refl _) _).alloc (by simp) _).alloc (by simp; omega) _).alloc (by simp; omega) _).alloc (by simp; omega) _).alloc (by simp; omega) _
  have hN0 : Noth q0 q1 q2 q3 q4 d A c a.L [] W6 := by
    rw [h0, h1, h2, h3, h4, hW6]
    exact ⟨by simp, by simp [go_sem], by simp [go_sem], by simp [go_sem], by simp [go_sem], by simp [go_sem], by simp [go_sem], by simp [go_sem], by simp [go_sem], by simp [go_sem], by simp [go_sem]⟩
  have hc5 : W6.cell? ⟨q5, 0, none⟩ = some (.slice A a.L.length c) := by rw [h5, hW6]; simp [go_sem]
  have hs6 : W6.heap.size = q5 + 1 := by rw [h5, hW6]; simp
  clear hW6
  have hln : a.L.length ≤ 1024 := D.ln
  have hI : 0 < a.L.length → ∃ g, A = some ⟨g, 0, none⟩ ∧ g < q5 + 1 ∧ ∀ (j : Nat) x, a.L[j]? = some x → W6.cell? ⟨g, j, none⟩ = some (.int .i64 x.n) := fun hl => by
    have so6 := so.below hb6
    obtain ⟨g, rfl⟩ := so_addr so6 (by simpa using hl)
    refine ⟨g, rfl, by have := (so6.lt g rfl).2; omega, fun j x hj => so_slot so6 (by rw [List.getElem?_map, hj]; rfl)⟩
  have HD := Lib.hid D
  have HQ := Lib.hid (⟨h0, h1, h2, h3, h4, h5⟩ : q0 = w.heap.size ∧ q1 = w.heap.size + 1 ∧ q2 = w.heap.size + 1 + 1 ∧ q3 = w.heap.size + 1 + 1 + 1 ∧ q4 = w.heap.size + 1 + 1 + 1 + 1 ∧ q5 = w.heap.size + 1 + 1 + 1 + 1 + 1)
  clear so D
  refine wpIn_rangeFunc_ownG rfl (by omega) (gf := 64) (lb := #[.pointer (some ⟨q5, 0, none⟩)]) rfl trivial (enters_of Try.func64 (by kernel_rfl) rfl)
    (bk_stops Fence.wide (8 - 1) trivial rfl (by omega) q5 (q5 + 1) c A a.L hln W6 (by omega) (by omega) hc5 hI) belowK_t (belowK_b (by omega)) (Below.refl _ _) (fun _ => rfl)
    (fun pre W => Noth q0 q1 q2 q3 q4 d A c a.L pre W ∧ (Below w.heap.size w W ∧ Below (q5 + 1) W6 W))
    (fun cd pre W => (cd = .ret ∧ Found w q2 q3 q4 a.L pre W) ∧ Below w.heap.size w W)
    (OwnFrom.and (Own.from (noth_own q0 q1 q2 q3 q4 d A c a.L) _) (OwnFrom.and (ownFrom_below (Nat.le_refl _) (by omega)) (ownFrom_below (by omega) (by omega))))
    (fun cd => OwnFrom.and (OwnFrom.and (ownFrom_pure _ _) (Own.from (found_own w q2 q3 q4 a.L) _)) (ownFrom_below (Nat.le_refl _) (by omega)))
    ⟨hN0, hb6, Below.refl _ _⟩
    (fun x => { tmps := #[dP d, Value.slice A a.L.length c, .pointer (some ⟨q0, 0, none⟩), .pointer (some ⟨q1, 0, none⟩), .pointer (some ⟨q2, 0, none⟩), .pointer (some ⟨q3, 0, none⟩), .pointer (some ⟨q4, 0, none⟩), undef, .int .i64 x.1.2.n, undef, undef, undef, undef, Value.slice A a.L.length c,
      .func (.func 64) #[] #[.pointer (some ⟨q5, 0, none⟩)], .int .i64 ((x.1.1 : Nat) : Int), .int .i64 x.1.2.n, undef, undef, undef, undef, undef, undef, undef, undef, undef, undef, undef, undef, undef, undef, undef, undef, undef, undef, undef, undef, undef, undef, undef, undef, undef, undef, undef, undef], defers := [] }) ?assign ?body ?done ?stop
  case assign =>
    clear h0 h1 h2 h3 h4 h5 hN0 hc5 hs6
    intro l x W K hK
    gi_wp2
    exact hK
  case body =>
    clear h0 h1 h2 h3 h4 h5 hN0 hc5
    rintro l pre ⟨⟨i, x⟩, hx⟩ W ⟨hnn, hB, hB6⟩ hlt
    have hW6 : q5 + 1 ≤ W.heap.size := by have := hB6.size; omega
    have HB6 := Lib.hid hB6
    clear hB6 hs6
    have HNN := Lib.hid hnn
    obtain ⟨hp, n0, n1, n2, n2b, n3, n4, f1, f2, f3, f4⟩ := hnn
    have hxm := List.mem_of_getElem? hx
    simp only at hx hxm
    have hr1 := read_DD (HD.out.below hB) hd hxm
    have hbx : x.b.length ≤ 67108864 := Nat.le_trans (sum_mem hxm) (by have h1 := HD.out.le; have h2 := HD.out.rm; omega)
    have HR1 := Lib.hid hr1
    have HP := Lib.hid hp
    have HB := Lib.hid hB
    have HX := Lib.hid hx
    have hWs : w.heap.size ≤ W.heap.size := hB.size
    clear hr1 hp hB hxm
    gi_wp2_with (refine ⟨trivial, ?_⟩; gi_at_call 25; refine (CallsIn.inRound l (callsIn_wide.2 HR1.out)).mono ?_; rintro e W1 ⟨A9, c9, rfl, ob9, b9⟩; have HRD := Lib.hid (read_any W1.heap.size A9 c9 x.b W1 ob9.bs.1 (Nat.le_refl _) (by omega)); have HB9 := Lib.hid b9; have m0 := kept b9 n0)
    refine ⟨trivial, ?_⟩
    refine (CallsIn.inRound l (callsIn_wide.2 HRD.out)).mono ?_
    rintro e W2 ⟨b2, hcase⟩
    have hb12 : Below W.heap.size W W2 := HB9.out.trans (b2.mono HB9.out.size)
    have HB12 := Lib.hid hb12
    have m1 := kept hb12 n1
    have m2 := kept hb12 n2
    have m2b := kept hb12 n2b
    have m3 := kept hb12 n3
    have m4 := kept hb12 n4
    have fk : ∀ {p : Addr} {v : Value}, W.cell? p = some v → W2.frozen? p = W.frozen? p := fun {p v} hv => hb12.frozen (World.block_lt_of_cell? W _ hv)
    have g1 := (fk n2).trans f1
    have g2 := (fk n2b).trans f2
    have g3 := (fk n3).trans f3
    have g4 := (fk n4).trans f4
    have l1 := World.block_lt_of_cell? _ _ m1
    have l2 := World.block_lt_of_cell? _ _ m2
    have l3 := World.block_lt_of_cell? _ _ m3
    have l4 := World.block_lt_of_cell? _ _ m4
    have l1b : q1 < W1.heap.size := Nat.lt_of_lt_of_le (World.block_lt_of_cell? _ _ n1) HB9.out.size
    have l4b : q4 < W1.heap.size := Nat.lt_of_lt_of_le (World.block_lt_of_cell? _ _ n4) HB9.out.size
    clear hb12 b2 fk n0 n1 n2 n2b n3 n4 f1 f2 f3 f4 m0 HR1 HRD
    rcases hcase with ⟨hn, rfl⟩ | ⟨base, rs, n, A1, c1, A2, c2, hn, rfl, ob, rw_⟩
    · have HFIN : Hid (∀ o : Obj, Noth q0 q1 q2 q3 q4 d A c a.L (pre ++ [⟨(i, x), hx⟩]) (W2.alloc o) ∧ Below W.heap.size W (W2.alloc o)) := Lib.hid fun o => ⟨HNN.out.kept (HB12.out.alloc HB12.out.size o) hn, HB12.out.alloc HB12.out.size o⟩
      clear hn HNN
      gi_wp2
      exact ⟨keepsFrom_below (HFIN.out _).2, (HFIN.out _).2.mono hW6, (HFIN.out _).1, HB.out.trans ((HFIN.out _).2.mono hWs), HB6.out.trans ((HFIN.out _).2.mono hW6)⟩
    · have hn0 := readB_pos hn
      have n1' : (0 : Int) < (n : Int) := by omega
      have HQ2 : Hid (w.heap.size ≤ q2 ∧ q2 < q3 ∧ q3 < q4 ∧ q4 < W1.heap.size) := Lib.hid (by have := HQ.out; omega)
      have hfp := found_put (L := a.L) (last := ⟨(i, x), hx⟩) HQ2.out m2 m2b m3 m4 HP.out hn ob rw_ (HB.out.trans (HB12.out.mono hWs))
      have HFIN : Hid (∀ o : Obj, Found w q2 q3 q4 a.L (pre ++ [⟨(i, x), hx⟩]) ((put3 W2 q2 q3 q4 (.slice A1 base.length c1) (.slice A2 rs.length c2) (.bool (alB a.L x n))).alloc o) ∧ Below w.heap.size w ((put3 W2 q2 q3 q4 (.slice A1 base.length c1) (.slice A2 rs.length c2) (.bool (alB a.L x n))).alloc o)) := Lib.hid fun o =>
        ⟨(found_own w q2 q3 q4 a.L).alloc o hfp.1, hfp.2.alloc hfp.2.size o⟩
      clear hfp
      have HKF : Hid (∀ (o : Obj) u v b, KeepsFrom W6.heap.size W ((put3 W2 q2 q3 q4 u v b).alloc o)) := Lib.hid fun o u v b => (keepsFrom_below HB12.out).trans (((((((KeepsOthers.setCell _ _ _).trans (KeepsOthers.setCell _ _ _)).trans (KeepsOthers.setCell _ _ _)).trans (KeepsOthers.setCell _ _ _)).trans (KeepsOthers.alloc _ _))).from _)
      have hcl := ob.bs.1.le
      have ne23 : q2 ≠ q3 := by have := HQ2.out; omega
      have ne24 : q2 ≠ q4 := by have := HQ2.out; omega
      have ne34 : q3 ≠ q4 := by have := HQ2.out; omega
      have ne32 := ne23.symm
      have ne42 := ne24.symm
      have ne43 := ne34.symm
      clear hn HNN hn0 ob rw_ HB12 HQ HQ2
      unfold put3 at HFIN HKF
      by_cases hl1 : a.L.length = 1
      · have q1b : ((a.L.length : Int) == 1) = true := by simp; omega
        by_cases hnl : n = x.b.length
        · have q2b : ((n : Int) == (x.b.length : Int)) = true := by simp; omega
          have hal : alB a.L x n = true := by simp [alB, hl1, hnl]
          rw [hal] at HFIN
          clear hal hl1 hnl
          gi_wp2
          exact ⟨HKF.out _ _ _ _, ⟨rfl, (HFIN.out _).1⟩, (HFIN.out _).2⟩
        · have q2b : ((n : Int) == (x.b.length : Int)) = false := by simp; omega
          have hal : alB a.L x n = false := by simp [alB, hl1, hnl]
          rw [hal] at HFIN
          clear hal hl1 hnl
          gi_wp2
          exact ⟨HKF.out _ _ _ _, ⟨rfl, (HFIN.out _).1⟩, (HFIN.out _).2⟩
      · have q1b : ((a.L.length : Int) == 1) = false := by simp; omega
        have hal : alB a.L x n = false := by simp [alB, hl1]
        rw [hal] at HFIN
        clear hal hl1
        gi_wp2
        exact ⟨HKF.out _ _ _ _, ⟨rfl, (HFIN.out _).1⟩, (HFIN.out _).2⟩
  case done =>
    have ne : q2 ≠ q3 ∧ q2 ≠ q4 ∧ q3 ≠ q4 := by omega
    have hq2 : w.heap.size ≤ q2 ∧ w.heap.size ≤ q3 ∧ w.heap.size ≤ q4 := by omega
    clear h0 h1 h2 h3 h4 h5 hN0 hc5
    rintro D9 ys W hD hys ⟨⟨hp, n0, n1, n2, n2b, n3, n4, f1, f2, f3, f4⟩, hB, _⟩ hK
    have HC := Lib.hid (put3_cells ne.1 ne.2.1 ne.2.2 n2 n2b n3 n4 (.slice none 0 0) (.slice none 0 0) (.bool false))
    have HKO : Hid (KeepsOthers W (put3 W q2 q3 q4 (.slice none 0 0) (.slice none 0 0) (.bool false))) := Lib.hid ((((KeepsOthers.setCell _ _ _).trans (KeepsOthers.setCell _ _ _)).trans (KeepsOthers.setCell _ _ _)).trans (KeepsOthers.setCell _ _ _))
    have HB9 : Hid (Below w.heap.size w (put3 W q2 q3 q4 (.slice none 0 0) (.slice none 0 0) (.bool false))) := Lib.hid ((put3_tn W q2 q3 q4 _ _ _).bel hB (fun k hk => by omega) (Nat.le_refl _))
    have HN : Hid (newA a.L = none) := Lib.hid (newA_none fun x hx => by
      obtain ⟨j, hj⟩ := List.getElem?_of_mem hx
      exact hp _ (hys j x hj))
    have HKD := Lib.hid hK
    have HDs := Lib.hid (show w.heap.size ≤ D9 by have := HQ.out; omega)
    obtain ⟨ne23, ne24, ne34⟩ := ne
    have ne32 := ne23.symm
    have ne42 := ne24.symm
    have ne43 := ne34.symm
    clear hp hys hB hK hq2 hD hs6
    unfold put3 at HC HKO HB9
    gi_wp2
    have hK' := HKO.out.same D9 _ HKD.out rfl
    refine ⟨by simp, .inl ⟨_, _, rfl, run_takeDeferred hK', ?_⟩⟩
    obtain ⟨y1, y2, y3, y4⟩ := HC.out
    have z1 := cell_kept y1 (grownBy_putObj' _ D9 (.deferred none)) (fun r e => by cases e; exact ⟨_, hK', rfl⟩)
    have z2 := cell_kept y2 (grownBy_putObj' _ D9 (.deferred none)) (fun r e => by cases e; exact ⟨_, hK', rfl⟩)
    have z3 := cell_kept y3 (grownBy_putObj' _ D9 (.deferred none)) (fun r e => by cases e; exact ⟨_, hK', rfl⟩)
    have z4 := cell_kept y4 (grownBy_putObj' _ D9 (.deferred none)) (fun r e => by cases e; exact ⟨_, hK', rfl⟩)
    refine ⟨.tuple #[.agg #[.slice none 0 0, .slice none 0 0], .bool false, .int .i64 0], ?_, HB9.out.trans (belowK_b (w := w) (Nat.le_refl _) _ D9 _ _ HDs.out hK' rfl rfl), .inl ⟨HN.out, rfl⟩⟩
    simp [results, Try.results36, go_sem, z1, z2, z3, z4]
  case stop =>
    clear h0 h1 h2 h3 h4 h5 hN0 hc5
    rintro D9 cd pre W hD ⟨hL, k, hk, rfl⟩ ⟨⟨rfl, ini, last, base, rs, n, A1, c1, A2, c2, e1, hini, hlast, y1, y2, y3, y4, ob, rw_⟩, hB⟩ hK
    obtain ⟨k', rfl⟩ : ∃ k', k = k' + 1 := by
      cases k with
      | zero => simp [dnt] at e1
      | succ k' => exact ⟨k', rfl⟩
    rw [dnt_succ] at e1
    obtain ⟨rfl, e5⟩ := List.append_inj' e1 rfl
    obtain rfl : dnf a.L hL k' = last := by simpa using e5
    have HN := Lib.hid (new_of hL (by omega) hini hlast)
    have HDs := Lib.hid (show w.heap.size ≤ D9 by have := HQ.out; omega)
    have HOB := Lib.hid ob
    have HRW := Lib.hid rw_
    have HKD := Lib.hid hK
    clear hini hlast ob rw_ hK e1 e5 hD hs6
    gi_wp2
    have hK' := HKD.out
    refine ⟨by simp, .inl ⟨_, _, rfl, run_takeDeferred hK', ?_⟩⟩
    have z1 := cell_kept y1 (grownBy_putObj' _ D9 (.deferred none)) (fun r e => by cases e; exact ⟨_, hK', rfl⟩)
    have z2 := cell_kept y2 (grownBy_putObj' _ D9 (.deferred none)) (fun r e => by cases e; exact ⟨_, hK', rfl⟩)
    have z3 := cell_kept y3 (grownBy_putObj' _ D9 (.deferred none)) (fun r e => by cases e; exact ⟨_, hK', rfl⟩)
    have z4 := cell_kept y4 (grownBy_putObj' _ D9 (.deferred none)) (fun r e => by cases e; exact ⟨_, hK', rfl⟩)
    have hr : ∀ r, some D9 = some r → ∃ o : Obj, W.heap[r]? = some o ∧ o.isCells = false := fun r e => by cases e; exact ⟨_, hK', rfl⟩
    refine ⟨.tuple #[.agg #[.slice A1 base.length c1, .slice A2 rs.length c2], .bool (alB a.L (dnf a.L hL k').1.2 n), .int .i64 0], ?_, hB.trans (belowK_b (w := w) (Nat.le_refl _) _ D9 _ _ HDs.out hK' rfl rfl), .inr ⟨_, base, rs, n, A1, c1, A2, c2, HN.out, rfl, row_own HOB.out (grownBy_putObj' _ D9 _) hr, HRW.out.own (grownBy_putObj' _ D9 _) hr⟩⟩
    simp [results, Try.results36, go_sem, z1, z2, z3, z4]
end Go.Proofs.Ytpckbbjlihhpdaa
namespace Go.Proofs.Ytpckbbjlihhpdaa
open Go.RowKit Go.BigFrame

/-- The disk, seen from the world w, in which its blocks were B. -/
def Dw (w : World) (B : Nat → Prop) (d : Nat) (a : Ad) (wr : World) : Prop := ∃ B', DD wr B' d a ∧ Tn B w wr ∧ ∀ k, B' k → B k ∨ w.heap.size ≤ k
section
variable {w wx wy : World} {B : Nat → Prop} {d : Nat} {a a' : Ad} {r : Int} {f : Nat} {args : Array Value}
theorem Dw.start (h : DD w B d a) : Dw w B d a w := ⟨B, h, Tn.refl _ _, fun _ h => .inl h⟩
theorem Dw.tn (h : Dw w B d a wx) : Tn B w wx := by obtain ⟨B', D, t, _⟩ := h; exact t
theorem Dw.below (h : Dw w B d a wx) (hb : Below wx.heap.size wx wy) : Dw w B d a wy := by
  obtain ⟨B', D, t, hB⟩ := h
  exact ⟨B', D.below hb, t.then (Tn.ofNew hb), hB⟩
theorem Dw.step (h : Dw w B d a wx) (H : ∀ B', DD wx B' d a → (∀ k, B' k → B k ∨ w.heap.size ≤ k) → Calls Try.prog f args wx (Dn wx B' d r a')) : Calls Try.prog f args wx fun e w' => e = .returned (.int .i64 r) ∧ Dw w B d a' w' := by
  obtain ⟨B', D, t, hB⟩ := h
  refine (H B' D hB).mono ?_
  rintro e w' ⟨rfl, B2, D2, t2, hB2⟩
  have hs := t.size
  exact ⟨rfl, B2, D2, t.thenQ t2 fun k hk hb => (hB k hb).elim id fun h => absurd hk (by omega), fun k hk => (hB2 k hk).elim (hB k) fun h => .inr (by omega)⟩
theorem Dw.of (hb : Below w.heap.size w wx) (h : Calls Try.prog f args wx (Dn wx B d r a')) : Calls Try.prog f args wx fun e w' => e = .returned (.int .i64 r) ∧ Dw w B d a' w' := by
  refine h.mono ?_
  rintro e w' ⟨rfl, B', D', t, hB⟩
  exact ⟨rfl, B', D', (Tn.ofNew hb).then t, fun k hk => (hB k hk).elim .inl fun h => .inr (Nat.le_trans hb.size h)⟩
theorem Dw.dn (h : Dw w B d a wx) (r : Int) : Dn w B d r a (.returned (.int .i64 r)) wx := by
  obtain ⟨B', D, t, hB⟩ := h
  exact ⟨rfl, B', D, t, hB⟩
end
theorem sr_tn {w w' : World} {P : Nat → Prop} {K c : Nat} {A : Option Addr} {l : List Int} (h : Sr encI 1 w K A c l) (t : Tn P w w') (hf : 0 < l.length → ∀ ad : Addr, A = some ad → ¬ P ad.block) : Sr encI 1 w' K A c l :=
  ⟨h.le, h.max, h.nil, fun hn => by
    obtain ⟨ad, e, hb, hc⟩ := h.at_ hn
    exact ⟨ad, e, hb, fun i x hi j u hu => t.cell (hc i x hi j u hu) (by rw [block_of_add]; exact hf hn ad e)⟩⟩
/-- Segments are dropped, one behind the other. -/
def dropsA : Int × Ad → List Int → Int × Ad
  | p, [] => p
  | p, o :: os => if p.1 = 0 then dropsA (opD dropA p.2 o) os else p
def keepA (a : Ad) (n : Int) (os : List Int) : Int × Ad := dropsA (opD syncA a n) os
def layA (a : Ad) (n : Int) (b : List UInt8) (os : List Int) : Int × Ad := if (appD a n b).1 = 0 then keepA (appD a n b).2 n os else appD a n b
theorem drops_stop {p : Int × Ad} (h : ¬ p.1 = 0) (os : List Int) : dropsA p os = p := by
  cases os with
  | nil => rfl
  | cons o os => simp [dropsA, h]
section
variable {w : World} {B : Nat → Prop} {d c K : Nat} {a a' : Ad} {A : Option Addr} {n r : Int} {os : List Int}
theorem greatest_nil : Calls Try.prog 37 #[.slice A 0 c] w fun e w' => e = .returned (.int .i64 0) ∧ w' = w := by
  go_enter Try.func37, Try.ntmps37
  go_wp2
  go_ret
  exact ⟨rfl, rfl⟩
theorem greatest_any {g : Nat} {x : Int} (so : So encI 1 w K 3 (.slice (some ⟨g, 0, none⟩) os.length c) os) (hx : os[os.length - 1]? = some x) : Calls Try.prog 37 #[.slice (some ⟨g, 0, none⟩) os.length c] w fun e w' => e = .returned (.int .i64 x) ∧ w' = w := by
  have x1 := so_slot so hx
  have hc := (so.sr encI_len).1.le
  have hm := (so.sr encI_len).1.max
  unfold maxLen at hm
  have hl := (List.getElem?_eq_some_iff.1 hx).1
  clear so hx
  have e0 : ((os.length : Int) == 0) = false := beq_false_of_ne (by omega)
  have e1 : (os.length : Int) - 1 = ((os.length - 1 : Nat) : Int) := by omega
  generalize os.length - 1 = q at x1 e1 hl
  have E1 := Lib.hid e1
  clear e1
  go_enter Try.func37, Try.ntmps37
  have e1 := E1.out
  go_wp2
  go_ret
  exact ⟨rfl, rfl⟩
theorem above_max : Calls Try.prog 38 #[.int .i64 9223372036854775807] w fun e w' => e = .returned (.int .i64 0) ∧ w' = w := by
  go_enter Try.func38, Try.ntmps38
  go_wp2
  go_ret
  exact ⟨rfl, rfl⟩
theorem above_any (h1 : -9223372036854775808 ≤ n) (h2 : n < 9223372036854775807) : Calls Try.prog 38 #[.int .i64 n] w fun e w' => e = .returned (.int .i64 (n + 1)) ∧ w' = w := by
  have e0 : (n == 9223372036854775807) = false := by simp; omega
  go_enter Try.func38, Try.ntmps38
  go_wp2
  go_ret
  exact ⟨rfl, rfl⟩
set_option maxRecDepth 100000 in
set_option maxHeartbeats 3200000 in
theorem keep_any (D : DD w B d a) (hn1 : -9223372036854775808 ≤ n) (hn2 : n ≤ 9223372036854775807) (sr : Sr encI 1 w K A c os) (hfar : 0 < os.length → ∀ ad : Addr, A = some ad → ¬ B ad.block) (hos : ∀ o ∈ os, -9223372036854775808 ≤ o ∧ o ≤ 9223372036854775807) (hr : keepA a n os = (r, a')) :
    Calls Try.prog 48 #[dP d, .int .i64 n, .slice A os.length c] w (Dn w B d r a') := by
  have hcl := sr.le
  have hcm := sr.max
  unfold maxLen at hcm
  obtain ⟨r0, a0, h0⟩ : ∃ r0 a0, opD syncA a n = (r0, a0) := ⟨_, _, rfl⟩
  unfold keepA at hr
  rw [h0] at hr
  have HR := Lib.hid hr
  have HS := Lib.hid ((Dw.start D).step fun B' D' _ => sync_DD D' hn1 hn2 h0)
  have HSR := Lib.hid sr
  have HF := Lib.hid hfar
  clear hr h0 D sr hfar
  go_enter Try.func48, Try.ntmps48
  go_wp2_with (go_at_call 23; refine HS.out.mono ?_; rintro e w1 ⟨rfl, D1⟩; have HD1 := Lib.hid D1; clear D1)
  go_loopw [15, 7] (fun iv ev wr => ∃ (i : Nat) (r1 : Int) (a1 : Ad), iv = .int .i64 (i : Int) ∧ ev = .int .i64 r1 ∧ i ≤ os.length ∧ Hid (dropsA (r1, a1) (os.drop i) = (r, a')) ∧ Hid (Dw w B d a1 wr)) (fun iv _ _ => os.length - (intOf iv).toNat)
  case atStart => exact ⟨0, r0, a0, rfl, rfl, Nat.zero_le _, HR, HD1⟩
  case round =>
    obtain ⟨i, r1, a1, rfl, rfl, hi, HR1, HD⟩ := hrel
    rename World => wr
    clear HD1 HS HR
    by_cases hlt : i < os.length
    · have i1 : (i : Int) < os.length := by omega
      have sr2 : Sr encI 1 wr K A c os := sr_tn HSR.out HD.out.tn HF.out
      obtain ⟨ad, e2, had, hcell⟩ := sr2.get hlt
      subst e2
      have x1 : wr.cell? (ad.add i) = some (.int .i64 os[i]) := by have := hcell 0 _ rfl; simpa using this
      have ho := hos os[i] (List.getElem_mem hlt)
      have hdr : os.drop i = os[i] :: os.drop (i + 1) := List.drop_eq_getElem_cons hlt
      have HDR := Lib.hid hdr
      generalize os[i] = o at x1 ho HDR
      clear hcell sr2 hdr
      by_cases hr0 : r1 = 0
      · subst hr0
        obtain ⟨r2, a2, h2⟩ : ∃ r2 a2, opD dropA a1 o = (r2, a2) := ⟨_, _, rfl⟩
        have HN : Hid (dropsA (r2, a2) (os.drop (i + 1)) = (r, a')) := Lib.hid (by have := HR1.out; rw [HDR.out] at this; simpa [dropsA, h2] using this)
        have HC := Lib.hid (HD.out.step fun B' D' _ => drop_DD D' ho.1 ho.2 h2)
        clear h2 HR1 HDR ho
        go_wp2_with (go_at_call 27; refine HC.out.mono ?_; rintro e w2 ⟨rfl, D2⟩; have HD2 := Lib.hid D2; clear D2)
        go_roundw
        case rel => exact ⟨i + 1, r2, a2, by go_num, rfl, hlt, HN, HD2⟩
        case measure => simp [intOf]; omega
      · have q0 : (r1 == (0 : Int)) = false := by simpa using hr0
        have HN : Hid ((r1, a1) = (r, a')) := Lib.hid (by rw [← HR1.out, drops_stop hr0])
        clear hr0 HR1 HDR ho
        go_wp2
        (try rw [Exit.noGoto_ret])
        go_ret
        obtain ⟨rfl, rfl⟩ := Prod.mk.inj HN.out
        exact HD.out.dn _
    · obtain rfl : i = os.length := by omega
      have HN : Hid ((r1, a1) = (r, a')) := Lib.hid (by rw [← HR1.out, List.drop_length]; rfl)
      clear HR1
      go_wp2
      go_ret
      obtain ⟨rfl, rfl⟩ := Prod.mk.inj HN.out
      exact HD.out.dn _
set_option maxRecDepth 100000 in
set_option maxHeartbeats 3200000 in
theorem lay_any {A1 A2 : Option Addr} {c1 c2 K1 : Nat} {base : List UInt8} {rs : List (List UInt8)} (D : DD w B d a) (hn1 : -9223372036854775808 ≤ n) (hn2 : n ≤ 9223372036854775807) (hb : Bs w K1 A1 c1 base) (hrr : Rr w K1 A2 c2 rs) (hK1 : K1 ≤ w.heap.size) (hl : base.length ≤ 1048576) (hrl : ∀ x ∈ rs, x.length ≤ 1048576) (hsz : (framesB base rs).length ≤ 140737488355328)
    (sr : Sr encI 1 w K A c os) (hKw : K ≤ w.heap.size) (hfar : 0 < os.length → ∀ ad : Addr, A = some ad → ¬ B ad.block) (hos : ∀ o ∈ os, -9223372036854775808 ≤ o ∧ o ≤ 9223372036854775807) (hr : layA a n (framesB base rs) os = (r, a')) :
    Calls Try.prog 39 #[dP d, .int .i64 n, .agg #[.slice A1 base.length c1, .slice A2 rs.length c2], .slice A os.length c] w (Dn w B d r a') := by
  have hbl := hb.le
  have hrle := hrr.le
  obtain ⟨L9, hL9⟩ : ∃ L9, L9 = framesB base rs := ⟨_, rfl⟩
  obtain ⟨r0, a0, h0⟩ : ∃ r0 a0, appD a n L9 = (r0, a0) := ⟨_, _, rfl⟩
  have hw1 : Below K1 w (w.alloc (.cells #[.slice A1 base.length c1, .slice A2 rs.length c2] 78)) := (Below.refl _ _).alloc hK1 _
  have hF := frames_any K1 A1 c1 base A2 c2 rs _ (hb.below hw1) (hrr.below hw1) (by simp; omega) hl hrl hsz
  rw [← hL9] at hF hr
  have HFR := Lib.hid hF
  have HW1 : Hid (Below w.heap.size w (w.alloc (.cells #[.slice A1 base.length c1, .slice A2 rs.length c2] 78))) := Lib.hid ((Below.refl _ _).alloc (Nat.le_refl _) _)
  have HD := Lib.hid D
  have HSR := Lib.hid sr
  have HF := Lib.hid hfar
  have HOS := Lib.hid hos
  unfold layA at hr
  rw [h0] at hr
  have HR := Lib.hid hr
  have H0 := Lib.hid h0
  have hD1 : ∀ k, B k → k < w.heap.size := D.bt
  clear hw1 hF hL9 hr h0 D sr hfar hos hb hrr hrl hsz
  go_enter Try.func39, Try.ntmps39
  go_wp2_with (go_at_call 47; refine HFR.out.mono ?_; rintro e w1 ⟨A3, c3, rfl, ho1, hb1⟩; have HB1 : Hid (Below w.heap.size w w1) := Lib.hid (HW1.out.trans (hb1.mono HW1.out.size)); have z1 := HB1.out.size; have HO1 := Lib.hid ho1; have zz : w.heap.size < w1.heap.size := (by have := hb1.size; simp at this; omega); clear ho1 hb1)
  refine (Dw.of HB1.out (app_DD (HD.out.below HB1.out) hn2 HO1.out.bs.1 rfl (fun hl ad e hb => ?_) H0.out)).mono ?_
  · have h5 := own_block HO1.out hl e rfl
    have h6 := hD1 _ hb
    have h7 := h5.1
    simp at h7
    omega
  rintro e w2 ⟨rfl, D2⟩
  have HD2 := Lib.hid D2
  clear D2
  by_cases hr0 : r0 = 0
  · subst hr0
    have HK := HR.out
    rw [if_pos rfl] at HK
    have sr2 := sr_tn HSR.out HD2.out.tn HF.out
    have HSR2 := Lib.hid sr2
    have HKK := Lib.hid HK
    have HC := Lib.hid (HD2.out.step (r := r) (a' := a') fun B' D' hB' => keep_any D' hn1 hn2 HSR2.out (fun hl ad e hb => by
      obtain ⟨ad', e', hbk, _⟩ := HSR.out.at_ hl
      rw [e] at e'
      cases e'
      exact (hB' _ hb).elim (HF.out hl ad e) fun h => by omega) HOS.out HKK.out)
    clear HK sr2
    go_wp2_with (go_at_call 48; refine HC.out.mono ?_; rintro e w3 ⟨rfl, D3⟩; have HD3 := Lib.hid D3; clear D3)
    go_ret
    exact HD3.out.dn _
  · have q0 : (r0 == (0 : Int)) = false := by simpa using hr0
    have HN : Hid ((r0, a0) = (r, a')) := Lib.hid (by have := HR.out; rw [if_neg hr0] at this; exact this)
    clear hr0 HR
    go_wp2
    go_ret
    obtain ⟨rfl, rfl⟩ := Prod.mk.inj HN.out
    exact HD2.out.dn _
end
end Go.Proofs.Ytpckbbjlihhpdaa
namespace Go.Proofs.Ytpckbbjlihhpdaa
open Go.RowKit Go.BigFrame

theorem walGo_bounds : ∀ (m : Nat) (l : List UInt8) (s : Bool) (n : Nat), l.length ≤ m → (∀ x ∈ (walGo l s n).1, x.length ≤ 1048576) ∧ (recsB (walGo l s n).1).length ≤ l.length
  | 0, l, s, n, h => by
    have : l = [] := List.eq_nil_of_length_eq_zero (by omega)
    subst this
    rw [walGo_nil]
    exact ⟨fun x hx => (by cases hx), Nat.le_refl _⟩
  | m + 1, l, s, n, h => by
    by_cases h0 : (openB l).2.2.2 = 0
    · have hu := openB_used h0
      have hdl : (l.drop (openB l).2.2.1).length = l.length - (openB l).2.2.1 := List.length_drop
      by_cases h1 : (openB l).1 = 1
      · rw [walGo_rec h0 h1]
        have ih := walGo_bounds m (l.drop (openB l).2.2.1) s (n + (openB l).2.2.1) (by omega)
        refine ⟨fun x hx => ?_, ?_⟩
        · rcases List.mem_cons.1 hx with rfl | hx
          · exact hu.2.2.1
          · exact ih.1 x hx
        · have el : (recsB ((openB l).2.1 :: (walGo (l.drop (openB l).2.2.1) s (n + (openB l).2.2.1)).1)).length = 9 + (openB l).2.1.length + (recsB (walGo (l.drop (openB l).2.2.1) s (n + (openB l).2.2.1)).1).length := by simp [recsB, sealB_length]
          have h2 := ih.2
          simp only
          omega
      · by_cases h3 : (openB l).1 = 3 ∧ s = false
        · obtain ⟨h3, rfl⟩ := h3
          rw [walGo_seal h0 h3]
          have ih := walGo_bounds m (l.drop (openB l).2.2.1) true (n + (openB l).2.2.1) (by omega)
          exact ⟨ih.1, by omega⟩
        · rw [walGo_else h0 h1 h3]
          exact ⟨fun x hx => (by cases hx), Nat.zero_le _⟩
    · rw [walGo_bad h0]
      exact ⟨fun x hx => (by cases hx), Nat.zero_le _⟩
theorem readB_bounds {b base : List UInt8} {rs : List (List UInt8)} {n : Nat} (h : readB b = some (base, rs, n)) : base.length ≤ 1048576 ∧ (∀ x ∈ rs, x.length ≤ 1048576) ∧ (recsB rs).length ≤ b.length := by
  unfold readB at h
  split at h
  · rename_i h1
    have hu := openB_used h1.1
    have hw := walGo_bounds _ (b.drop (openB b).2.2.1) false (openB b).2.2.1 (Nat.le_refl _)
    have hdl : (b.drop (openB b).2.2.1).length = b.length - (openB b).2.2.1 := List.length_drop
    split at h
    · cases h
      exact ⟨hu.2.2.1, hw.1, by omega⟩
    · cases h
  · cases h
theorem newA_at : ∀ {L : List As} {x : As} {b : List UInt8} {r : List (List UInt8)} {n : Nat}, newA L = some (x, b, r, n) → x ∈ L ∧ readB x.b = some (b, r, n)
  | [], _, _, _, _, h => by simp [newA] at h
  | z :: L, x, b, r, n, h => by
    unfold newA at h
    cases hL : newA L with
    | some q =>
      rw [hL] at h
      obtain ⟨x', b', r', n'⟩ := q
      cases h
      have := newA_at hL
      exact ⟨by simp [this.1], this.2⟩
    | none =>
      rw [hL] at h
      cases hz : readB z.b with
      | none => rw [hz] at h; cases h
      | some q =>
        rw [hz] at h
        obtain ⟨b', r', n'⟩ := q
        cases h
        exact ⟨by simp, hz⟩
def grA (L : List As) : Int := ((L.map As.n)[L.length - 1]?).getD 0
def abv (n : Int) : Int := if n = 9223372036854775807 then 0 else n + 1
def lgA (L : List As) : List UInt8 × List (List UInt8) := match newA L with
  | some (_, b, r, _) => (b, r)
  | none => ([], [])
def aloneA (L : List As) : Bool := match newA L with
  | some (x, _, _, n) => alB L x n
  | none => false
/-- A log in memory: its disk, its segment. -/
structure Wp (w : World) (p d : Nat) (seg : Int) : Prop where
  c0 : w.cell? ⟨p, 0, none⟩ = some (dP d)
  c1 : w.cell? ⟨p, 1, none⟩ = some (.int .i64 seg)
  fr : ∀ j, w.frozen? ⟨p, j, none⟩ = false
abbrev wP (p : Nat) : Value := .pointer (some ⟨p, 0, none⟩)
section
variable {w wx wy : World} {B P : Nat → Prop} {d p : Nat} {a : Ad} {seg : Int}
theorem Wp.tn (h : Wp wx p d seg) (t : Tn P wx wy) (hp : ¬ P p) : Wp wy p d seg :=
  ⟨t.cell h.c0 hp, t.cell h.c1 hp, fun j => (t.frozen (p := ⟨p, j, none⟩) (show p < wx.heap.size from World.block_lt_of_cell? _ _ h.c0) hp).trans (h.fr j)⟩
theorem Wp.below (h : Wp wx p d seg) (hb : Below wx.heap.size wx wy) : Wp wy p d seg := h.tn (Tn.ofNew (P := fun _ => False) hb) fun h => h
theorem segs_le (D : DD wx B d a) : ∀ o ∈ a.L.map As.n, 1 ≤ o ∧ o ≤ 9223372036854775807 := by
  obtain ⟨K, mb, M, D1, e, _⟩ := D.ex
  intro o ho
  rw [← e, List.map_map] at ho
  obtain ⟨s, hs, rfl⟩ := List.mem_map.1 ho
  exact ⟨(D1.sg s hs).n1, (D1.sg s hs).n2⟩
theorem open_nild : Calls Try.prog 13 #[.pointer none] w fun e w' => e = .returned (.tuple #[.pointer none, .slice none 0 0, .slice none 0 0, .int .i64 2]) ∧ w' = w := by
  go_enter Try.func13, Try.ntmps13
  go_wp2_with (go_at_call 34; refine segs_nil.mono ?_; rintro e w' ⟨rfl, rfl⟩)
  exact bodyPost_ret (v := .tuple #[.pointer none, .slice none 0 0, .slice none 0 0, .int .i64 2]) (by simp [results, Try.results13, go_sem]) rfl ⟨rfl, rfl⟩
theorem open_down {room fuse : Int} {L : List As} (D : DD w B d ⟨room, fuse, true, L⟩) : Calls Try.prog 13 #[dP d] w fun e w' => e = .returned (.tuple #[.pointer none, .slice none 0 0, .slice none 0 0, .int .i64 5]) ∧ w' = w := by
  have HS := Lib.hid (segs_DDn D)
  clear D
  go_enter Try.func13, Try.ntmps13
  go_wp2_with (go_at_call 34; refine HS.out.mono ?_; rintro e w' ⟨rfl, rfl⟩)
  exact bodyPost_ret (v := .tuple #[.pointer none, .slice none 0 0, .slice none 0 0, .int .i64 5]) (by simp [results, Try.results13, go_sem]) rfl ⟨rfl, rfl⟩
/-- The log is handed out. -/
def OutP (w w' : World) (d : Nat) (seg : Int) (base : List UInt8) (rs : List (List UInt8)) (e : Ending) (p : Nat) : Prop :=
  ∃ A1 c1 A2 c2, e = .returned (.tuple #[wP p, .slice A1 base.length c1, .slice A2 rs.length c2, .int .i64 0]) ∧ Wp w' p d seg ∧ w.heap.size ≤ p ∧ p < w'.heap.size ∧ Ob w' w.heap.size (.slice A1 base.length c1) base ∧ Rw w' w.heap.size 30 (.slice A2 rs.length c2) rs
set_option maxRecDepth 100000 in
set_option maxHeartbeats 3200000 in
theorem open_alone {room fuse : Int} {L : List As} {x : As} {base : List UInt8} {rs : List (List UInt8)} {n : Nat} (D : DD w B d ⟨room, fuse, false, L⟩) (hN : newA L = some (x, base, rs, n)) (hal : alB L x n = true) :
    Calls Try.prog 13 #[dP d] w fun e w' => Below w.heap.size w w' ∧ ∃ p, OutP w w' d (grA L) base rs e p := by
  have HN := Lib.hid hN
  have HAL := Lib.hid hal
  have hxm := (newA_at hN).1
  have hL0 : 0 < L.length := List.length_pos_of_mem hxm
  have HD := Lib.hid D
  obtain ⟨sg, hsg⟩ : ∃ sg, (L.map As.n)[L.length - 1]? = some sg := ⟨_, List.getElem?_eq_getElem (by simp; omega)⟩
  have hsg2 : grA L = sg := by unfold grA; rw [hsg]; rfl
  rw [hsg2]
  have HSG := Lib.hid hsg
  clear D hN hal hxm hsg hsg2
  go_enter Try.func13, Try.ntmps13
  go_wp2_with fail
  refine (segs_DD HD.out rfl).mono ?_
  rintro e w1 ⟨v, rfl, so, b1⟩
  obtain ⟨A, c, hv⟩ := so.form
  subst hv
  simp only [List.length_map] at so ⊢
  have HSO := Lib.hid so
  have HB1 := Lib.hid b1
  clear so b1
  go_wp2_with fail
  refine (newest_any (HD.out.below HB1.out) rfl HSO.out).mono ?_
  rintro e w2 ⟨b2, hcase⟩
  rcases hcase with ⟨h9, _⟩ | ⟨x', base', rs', n', A1, c1, A2, c2, h9, rfl, ob, rw_⟩
  · exact absurd (h9.symm.trans HN.out) (by simp)
  have h8 := h9.symm.trans HN.out
  simp only [Option.some.injEq, Prod.mk.injEq] at h8
  obtain ⟨rfl, rfl, rfl, rfl⟩ := h8
  rw [show alB L x' n' = true from HAL.out]
  have HB2 : Hid (Below w.heap.size w w2) := Lib.hid (HB1.out.trans (b2.mono HB1.out.size))
  have HSO2 := Lib.hid (HSO.out.below b2)
  have HOB := Lib.hid (ob.more (K' := w.heap.size) HB1.out.size)
  have HRW := Lib.hid (rw_.more (K' := w.heap.size) HB1.out.size)
  obtain ⟨g, rfl⟩ := so_addr HSO.out (by simpa using hL0)
  have hg2 : ∀ o : Obj, So encI 1 (w2.alloc o) w.heap.size 3 (.slice (some ⟨g, 0, none⟩) (L.map As.n).length c) (L.map As.n) := fun o => by rw [List.length_map]; exact HSO2.out.alloc o
  have HGR : Hid (∀ o : Obj, Calls Try.prog 37 #[.slice (some ⟨g, 0, none⟩) L.length c] (w2.alloc o) fun e w' => e = .returned (.int .i64 sg) ∧ w' = w2.alloc o) := Lib.hid fun o => by
    have h1 := greatest_any (x := sg) (hg2 o) (by rw [List.length_map]; exact HSG.out)
    rwa [List.length_map] at h1
  have hz2 := HB2.out.size
  clear hg2 ob rw_ b2 h9 HSO HSO2 HN
  go_wp2_with (go_at_call 37; refine (HGR.out _).mono ?_; rintro e w3 ⟨rfl, rfl⟩)
  have HFIN : Hid (∀ o o2 : Obj, Below w.heap.size w (((w2.alloc o).alloc o2).drew) ∧ Ob (((w2.alloc o).alloc o2).drew) w.heap.size (.slice A1 base'.length c1) base' ∧ Rw (((w2.alloc o).alloc o2).drew) w.heap.size 30 (.slice A2 rs'.length c2) rs') := Lib.hid fun o o2 =>
    have hb : Below w2.heap.size w2 (((w2.alloc o).alloc o2).drew) := (((Below.refl w2.heap.size w2).alloc (Nat.le_refl _) o).alloc (by simp) o2).trans ⟨rfl, rfl, rfl, Nat.le_refl _, fun _ _ => rfl⟩
    ⟨HB2.out.trans (hb.mono hz2), HOB.out.below hb, HRW.out.below hb⟩
  clear HGR HOB HRW HB2 HB1 HD HAL
  go_region
  go_wp2_with fail
  refine bodyPost_ret (v := .tuple #[wP (w2.heap.size + 1), .slice A1 base'.length c1, .slice A2 rs'.length c2, .int .i64 0]) (by simp [results, Try.results13, go_sem]) rfl ?_
  refine ⟨(HFIN.out _ _).1, w2.heap.size + 1, A1, c1, A2, c2, rfl, ⟨by simp [go_sem], by simp [go_sem], fun j => by simp [go_sem]⟩, by omega, by simp [go_sem], (HFIN.out _ _).2.1, (HFIN.out _ _).2.2⟩
end
end Go.Proofs.Ytpckbbjlihhpdaa
namespace Go.Proofs.Ytpckbbjlihhpdaa
open Go.RowKit Go.BigFrame

section
variable {w wx : World} {B : Nat → Prop} {d c K : Nat} {a a' : Ad} {A : Option Addr} {r : Int} {L : List As}
theorem greatest_seg (so : So encI 1 wx K 3 (.slice A L.length c) (L.map As.n)) : Calls Try.prog 37 #[.slice A L.length c] wx fun e w' => e = .returned (.int .i64 (grA L)) ∧ w' = wx := by
  by_cases hL : 0 < L.length
  · obtain ⟨g, rfl⟩ := so_addr so (by simpa using hL)
    obtain ⟨sg, hsg⟩ : ∃ sg, (L.map As.n)[L.length - 1]? = some sg := ⟨_, List.getElem?_eq_getElem (by simp; omega)⟩
    have hsg2 : grA L = sg := by unfold grA; rw [hsg]; rfl
    rw [hsg2]
    have h1 := greatest_any (x := sg) (by rw [List.length_map]; exact so) (by rw [List.length_map]; exact hsg)
    rwa [List.length_map] at h1
  · obtain rfl : L = [] := List.eq_nil_of_length_eq_zero (by omega)
    exact greatest_nil
theorem above_seg {n : Int} (h1 : 0 ≤ n) (h2 : n ≤ 9223372036854775807) : Calls Try.prog 38 #[.int .i64 n] wx fun e w' => e = .returned (.int .i64 (abv n)) ∧ w' = wx := by
  unfold abv
  by_cases h : n = 9223372036854775807
  · rw [if_pos h, h]
    exact above_max
  · rw [if_neg h]
    exact above_any (by omega) (by omega)
theorem abv_range {n : Int} (h1 : 0 ≤ n) (h2 : n ≤ 9223372036854775807) : 0 ≤ abv n ∧ abv n ≤ 9223372036854775807 := by
  unfold abv
  split <;> omega
theorem grA_range (D : DD wx B d a) : 0 ≤ grA a.L ∧ grA a.L ≤ 9223372036854775807 := by
  unfold grA
  cases h : (a.L.map As.n)[a.L.length - 1]? with
  | none => simp
  | some x =>
    have := segs_le D x (List.mem_of_getElem? h)
    simp
    omega
theorem lgA_bounds (D : DD wx B d a) : (lgA a.L).1.length ≤ 1048576 ∧ (∀ x ∈ (lgA a.L).2, x.length ≤ 1048576) ∧ (recsB (lgA a.L).2).length ≤ 67108864 := by
  unfold lgA
  cases h : newA a.L with
  | none => exact ⟨by simp, fun x hx => (by cases hx), by simp [recsB]⟩
  | some q =>
    obtain ⟨x, b, rs, n⟩ := q
    have h1 := newA_at h
    have h2 := readB_bounds h1.2
    have h3 := sum_mem h1.1
    have h4 := D.le
    have h5 := D.rm
    exact ⟨h2.1, h2.2.1, by simp only; omega⟩
theorem new_post2 {e : Ending} (h : NewPost w L e wx) (hal : aloneA L = false) : Below w.heap.size w wx ∧ ∃ A1 c1 A2 c2, e = .returned (.tuple #[.agg #[.slice A1 (lgA L).1.length c1, .slice A2 (lgA L).2.length c2], .bool false, .int .i64 0]) ∧ Ob wx w.heap.size (.slice A1 (lgA L).1.length c1) (lgA L).1 ∧ Rw wx w.heap.size 30 (.slice A2 (lgA L).2.length c2) (lgA L).2 := by
  obtain ⟨hb, h⟩ := h
  refine ⟨hb, ?_⟩
  rcases h with ⟨h9, rfl⟩ | ⟨x, base, rs, n, A1, c1, A2, c2, h9, rfl, ob, rw_⟩
  · unfold lgA
    rw [h9]
    exact ⟨none, 0, none, 0, rfl, Ob.empty _ _, Rw.empty _ _ _⟩
  · unfold aloneA at hal
    rw [h9] at hal
    simp only at hal
    unfold lgA
    rw [h9, hal]
    exact ⟨A1, c1, A2, c2, rfl, ob, rw_⟩
/-- What Open leaves, where a log is laid anew. -/
def LaidP (w : World) (B : Nat → Prop) (d : Nat) (seg : Int) (base : List UInt8) (rs : List (List UInt8)) (r : Int) (a' : Ad) (e : Ending) (w' : World) : Prop :=
  (r = 0 ∧ ∃ p B', OutP w w' d seg base rs e p ∧ DD w' B' d a' ∧ Tn B w w' ∧ (∀ k, B' k → B k ∨ w.heap.size ≤ k) ∧ ¬ B' p) ∨
  (r ≠ 0 ∧ e = .returned (.tuple #[.pointer none, .slice none 0 0, .slice none 0 0, .int .i64 r]) ∧ Dw w B d a' w')
set_option maxRecDepth 100000 in
set_option maxHeartbeats 6400000 in
theorem open_lay (D : DD w B d a) (hd : a.down = false) (hal : aloneA a.L = false) (hr : layA a (abv (grA a.L)) (framesB (lgA a.L).1 (lgA a.L).2) (a.L.map As.n) = (r, a')) :
    Calls Try.prog 13 #[dP d] w (LaidP w B d (abv (grA a.L)) (lgA a.L).1 (lgA a.L).2 r a') := by
  have HAL := Lib.hid hal
  have HD := Lib.hid D
  have HBT : Hid (∀ k, B k → k < w.heap.size) := Lib.hid D.bt
  have hgr := grA_range D
  have hbnd := lgA_bounds D
  have hsl := segs_le D
  have HA := Lib.hid (abv_range hgr.1 hgr.2)
  have HGR := Lib.hid hgr
  have HBND := Lib.hid hbnd
  have HSL := Lib.hid hsl
  have HR := Lib.hid hr
  have HDN := Lib.hid hd
  obtain ⟨sg, hsg⟩ : ∃ sg, grA a.L = sg := ⟨_, rfl⟩
  have HSG := Lib.hid hsg
  rw [hsg] at HGR HA HR ⊢
  obtain ⟨sn, hsn⟩ : ∃ sn, abv sg = sn := ⟨_, rfl⟩
  have HAC : Hid (∀ W : World, Calls Try.prog 38 #[.int .i64 sg] W fun e w' => e = .returned (.int .i64 sn) ∧ w' = W) := Lib.hid fun W => by
    rw [← hsn]
    exact above_seg HGR.out.1 HGR.out.2
  rw [hsn] at HA HR ⊢
  clear D hal hgr hbnd hsl hr hsg hsn HGR
  go_enter Try.func13, Try.ntmps13
  go_wp2_with fail
  refine (segs_DD HD.out HDN.out).mono ?_
  rintro e w1 ⟨v, rfl, so, b1⟩
  obtain ⟨A, c, hv⟩ := so.form
  subst hv
  simp only [List.length_map] at so ⊢
  have HSO := Lib.hid so
  have HB1 := Lib.hid b1
  clear so b1
  go_wp2_with fail
  refine (newest_any (HD.out.below HB1.out) HDN.out HSO.out).mono ?_
  rintro e w2 hnp
  obtain ⟨b2, A1, c1, A2, c2, rfl, ob, rw_⟩ := new_post2 hnp HAL.out
  have HB2 : Hid (Below w.heap.size w w2) := Lib.hid (HB1.out.trans (b2.mono HB1.out.size))
  have HSO2 := Lib.hid (HSO.out.below b2)
  have HOB := Lib.hid (ob.more (K' := w.heap.size) HB1.out.size)
  have HRW := Lib.hid (rw_.more (K' := w.heap.size) HB1.out.size)
  have hz2 := HB2.out.size
  have hcl1 := ob.bs.1.le
  have hcl2 := rw_.pr.1.le
  clear ob rw_ b2 hnp hd
  have HGC : Hid (∀ o : Obj, Calls Try.prog 37 #[.slice A a.L.length c] (w2.alloc o) fun e w' => e = .returned (.int .i64 sg) ∧ w' = w2.alloc o) := Lib.hid fun o => by
    rw [← HSG.out]
    exact greatest_seg (HSO2.out.alloc o)
  go_wp2_with (first
    | (go_at_call 37; refine (HGC.out _).mono ?_; rintro e w3 ⟨rfl, rfl⟩)
    | (go_at_call 38; refine (HAC.out _).mono ?_; rintro e w3 ⟨rfl, rfl⟩))
  obtain ⟨o7, ho7⟩ : ∃ o7 : Obj, o7 = .cells #[.slice A1 (lgA a.L).1.length c1, .slice A2 (lgA a.L).2.length c2] 78 := ⟨_, rfl⟩
  have HB3 : Hid (Below w2.heap.size w2 (w2.alloc o7)) := Lib.hid ((Below.refl _ _).alloc (Nat.le_refl _) _)
  have HLY : Hid (Calls Try.prog 39 #[dP d, .int .i64 sn, .agg #[.slice A1 (lgA a.L).1.length c1, .slice A2 (lgA a.L).2.length c2], .slice A a.L.length c] (w2.alloc o7) (Dn (w2.alloc o7) B d r a')) := Lib.hid (by
    have hD3 : DD (w2.alloc o7) B d a := (HD.out.below HB2.out).alloc _
    have hs3 := (HSO2.out.alloc o7).sr encI_len
    have hfar : 0 < (a.L.map As.n).length → ∀ ad : Addr, A = some ad → ¬ B ad.block := fun hl ad e hb => by
      have h1 := HSO2.out
      subst e
      have h2 := (h1.lt ad.block rfl).1
      have h3 := HBT.out _ hb
      have h4 := HB1.out.size
      omega
    have h := lay_any (K := (w2.alloc o7).heap.size) (n := sn) (os := a.L.map As.n) hD3 (by have := HA.out; omega) HA.out.2 (HOB.out.alloc o7).bs.1 (HRW.out.alloc o7).pr.1 (Nat.le_refl _) HBND.out.1 HBND.out.2.1 (by rw [framesB_len]; have h1 := HBND.out.1; have h2 := HBND.out.2.2; omega) hs3.1 (Nat.le_refl _) hfar (fun o ho => by have := HSL.out o ho; omega) HR.out
    rw [List.length_map] at h
    exact h)
  clear HGC HAC HSO HSO2 HSL HA HR
  rw [← ho7]
  go_at_call 39
  refine HLY.out.mono ?_
  rintro e w4 ⟨rfl, B4, D4, t4, hB4⟩
  have HB30 : Hid (Below w.heap.size w (w2.alloc o7)) := Lib.hid (HB2.out.alloc hz2 _)
  have hnB : ¬ B w2.heap.size := fun h => by have := HBT.out _ h; omega
  have hx0 : (w2.alloc o7).cell? ⟨w2.heap.size, 0, none⟩ = some (.slice A1 (lgA a.L).1.length c1) := by rw [ho7]; simp [go_sem]
  have hx1 : (w2.alloc o7).cell? ⟨w2.heap.size, 1, none⟩ = some (.slice A2 (lgA a.L).2.length c2) := by rw [ho7]; simp [go_sem]
  have x0 := t4.cell hx0 hnB
  have x1 := t4.cell hx1 hnB
  have hz4 : w2.heap.size < w4.heap.size := by have := t4.size; simp at this; omega
  have HT4 : Hid (Tn B w w4) := Lib.hid ((Tn.ofNew HB30.out).then t4)
  have HBB : Hid (∀ k, B4 k → B k ∨ w.heap.size ≤ k) := Lib.hid fun k hk => (hB4 k hk).elim .inl fun h => .inr (by have := HB30.out.size; omega)
  have HD4 := Lib.hid D4
  have HOB4 := Lib.hid (t4.ob (HOB.out.alloc o7) fun g hg hb => by have h1 := (HOB.out.lt g hg).1; have h2 := HBT.out _ hb; omega)
  have HRW4 := Lib.hid ((HRW.out.alloc o7).tn t4 fun k hk hb => by have h2 := HBT.out _ hb; omega)
  clear HLY hx0 hx1 hnB D4 t4 hB4 HOB HRW HB3 HB30 ho7
  by_cases hr0 : r = 0
  · subst hr0
    have HFIN : Hid (∀ o : Obj, Ob ((w4.alloc o).drew) w.heap.size (.slice A1 (lgA a.L).1.length c1) (lgA a.L).1 ∧ Rw ((w4.alloc o).drew) w.heap.size 30 (.slice A2 (lgA a.L).2.length c2) (lgA a.L).2 ∧ DD ((w4.alloc o).drew) B4 d a' ∧ Tn B w ((w4.alloc o).drew)) := Lib.hid fun o =>
      have hb : Below w4.heap.size w4 ((w4.alloc o).drew) := ((Below.refl w4.heap.size w4).alloc (Nat.le_refl _) o).trans ⟨rfl, rfl, rfl, Nat.le_refl _, fun _ _ => rfl⟩
      ⟨HOB4.out.below hb, HRW4.out.below hb, HD4.out.below hb, HT4.out.then (Tn.ofNew hb)⟩
    have HBT4 : Hid (∀ k, B4 k → k < w4.heap.size) := Lib.hid HD4.out.bt
    have hsw : w.heap.size ≤ w4.heap.size := HT4.out.size
    clear HOB4 HRW4 HD4 HT4 HD HB1 HB2 HBT HBND
    go_wp2_with fail
    go_region
    go_wp2_with fail
    refine bodyPost_ret (v := .tuple #[wP w4.heap.size, .slice A1 (lgA a.L).1.length c1, .slice A2 (lgA a.L).2.length c2, .int .i64 0]) (by simp [results, Try.results13, go_sem]) rfl ?_
    obtain ⟨f1, f2, f3, f4⟩ := HFIN.out (.cells #[dP d, .int .i64 sn] 84)
    exact .inl ⟨rfl, w4.heap.size, B4, ⟨A1, c1, A2, c2, rfl, ⟨by simp [go_sem], by simp [go_sem], fun j => by simp [go_sem]⟩, hsw, by simp [go_sem], f1, f2⟩, f3, f4, HBB.out, fun h => Nat.lt_irrefl _ (HBT4.out _ h)⟩
  · have q0 : (r == (0 : Int)) = false := by simpa using hr0
    have HFIN : Hid (Dw w B d a' w4) := Lib.hid ⟨B4, HD4.out, HT4.out, HBB.out⟩
    have HR0 := Lib.hid hr0
    clear hr0 HOB4 HRW4 HD4 HT4 HD HB1 HB2 HBT HBND
    go_wp2_with fail
    refine bodyPost_ret (v := .tuple #[.pointer none, .slice none 0 0, .slice none 0 0, .int .i64 r]) (by simp [results, Try.results13, go_sem]) rfl ?_
    exact .inr ⟨HR0.out, rfl, HFIN.out⟩
end
end Go.Proofs.Ytpckbbjlihhpdaa
namespace Go.Proofs.Ytpckbbjlihhpdaa
open Go.RowKit Go.BigFrame

/-- The log and its disk, seen from the world w. -/
structure Gw (w : World) (B : Nat → Prop) (p d : Nat) (seg : Int) (a : Ad) (wx : World) : Prop where
  wl : Wp wx p d seg
  d : DD wx B d a
  b : Below w.heap.size w wx
section
variable {w wx wy : World} {B : Nat → Prop} {p d c K : Nat} {seg r : Int} {a a' : Ad} {A : Option Addr} {p1 : List UInt8}
theorem Gw.below (h : Gw w B p d seg a wx) (hb : Below wx.heap.size wx wy) : Gw w B p d seg a wy := ⟨h.wl.below hb, h.d.below hb, h.b.trans (hb.mono h.b.size)⟩
theorem wapp_nil (A : Option Addr) (n c : Nat) : Calls Try.prog 16 #[.pointer none, .slice A n c] w fun e w' => e = .returned (.int .i64 2) ∧ w' = w := by
  go_enter Try.func16, Try.ntmps16
  go_wp2
  go_ret
  exact ⟨rfl, rfl⟩
theorem wsync_nil : Calls Try.prog 18 #[.pointer none] w fun e w' => e = .returned (.int .i64 2) ∧ w' = w := by
  go_enter Try.func18, Try.ntmps18
  go_wp2
  go_ret
  exact ⟨rfl, rfl⟩
theorem wapp_long (A : Option Addr) (n c : Nat) (hn : 1048576 < n) (hm : n ≤ 9223372036854775807) : Calls Try.prog 16 #[wP p, .slice A n c] w fun e w' => e = .returned (.int .i64 8) ∧ w' = w := by
  go_enter Try.func16, Try.ntmps16
  go_wp2
  go_ret
  exact ⟨rfl, rfl⟩
set_option maxRecDepth 100000 in
set_option maxHeartbeats 6400000 in
theorem wapp_any (hw : Wp w p d seg) (D : DD w B d a) (h2 : seg ≤ 9223372036854775807) (hb : Bs w K A c p1) (hK : K ≤ w.heap.size) (hl : p1.length ≤ 1048576) (hr : appD a seg (sealB 1 p1) = (r, a')) :
    Calls Try.prog 16 #[wP p, .slice A p1.length c] w fun e w' => e = .returned (.int .i64 r) ∧ Dw w B d a' w' := by
  have hcl := hb.le
  obtain ⟨L9, hL9⟩ : ∃ L9, L9 = sealB 1 p1 := ⟨_, rfl⟩
  rw [← hL9] at hr
  have HR := Lib.hid hr
  have HW : Hid (∀ wx, Below w.heap.size w wx → Calls Try.prog 42 #[.slice none 0 0, .int .u8 1, .slice A p1.length c] wx (NewB wx L9)) := Lib.hid fun wx hx => by
    have h := with_any 1 wx.heap.size K none 0 0 [] rfl A c p1 wx (Ob.empty _ _) (Nat.le_refl _) (hb.below (hx.mono hK)) (by have := hx.size; omega) hl (by omega)
    have e : 0 + (9 + p1.length) = L9.length := by rw [hL9, sealB_length]; omega
    rw [e, List.nil_append, ← hL9] at h
    exact h
  have HG0 : Hid (Gw w B p d seg a w) := Lib.hid ⟨hw, D, Below.refl _ _⟩
  have HBT := Lib.hid D.bt
  have hq : (1048576 : Int) < (p1.length : Int) → False := fun h => by omega
  clear hr hL9 hb hw D
  go_enter Try.func16, Try.ntmps16
  go_wp2_with fail
  apply region_VT (Hb w) (Gw w B p d seg a) (fun v w' => v = .int .i64 r ∧ Dw w B d a' w') 10 [.inl (wP p), .inl (wP p), .inl (wP p), .inl (dP d), .inl (wP p), .inl (wP p), .inl (.pointer (some ⟨p, 1, none⟩)), .inl (.int .i64 seg), .inl (.slice A p1.length c), .inr L9, .inl undef] (.inl undef)
  case mono => exact fun p v w0 w9 h hb => Hb.mono h hb
  case hm => kernel_rfl
  case hf => kernel_rfl
  case hl => kernel_rfl
  case hQ => exact (by intro c x y w e h; exact And.intro (e.symm.trans (And.left h)) (And.right h))
  case hF => intro vs; simp only [putAll, Act.put, List.setIfInBounds_toArray, List.set_cons_zero, List.set_cons_succ, Nat.reduceAdd]; rfl
  case h0 => exact HG0.out.below ⟨rfl, rfl, rfl, Nat.le_refl _, fun _ _ => rfl⟩
  case hstep =>
    repeat' (first | exact AllOps.nil | apply AllOps.cons)
    · intro vs wx hG hd K hK
      replace hK : ∀ (uu : Value) (w' : World), Below wx.heap.size wx w' → ((Gw w B p d seg a)) w' → (Hb w) (.inl (wP p)) uu w' → K _ w' := hK
      simp only [Act.put, List.setIfInBounds_toArray, List.set_cons_zero, List.set_cons_succ] at hK ⊢
      have HK := Lib.hid hK
      have HG := Lib.hid hG
      clear hK hd
      clear hG
      go_simp
      exact HK.out _ _ (Below.refl _ _) HG.out rfl
    · intro vs wx hG hd K hK
      have e0 : vs 0 = wP p := hd.get (j := 0) (by simp [depsOf, Region.binds])
      replace hK : ∀ (uu : Value) (w' : World), Below wx.heap.size wx w' → ((Gw w B p d seg a)) w' → (Hb w) (.inl (wP p)) uu w' → K _ w' := hK
      simp only [Act.put, List.setIfInBounds_toArray, List.set_cons_zero, List.set_cons_succ, e0] at hK ⊢
      have HK := Lib.hid hK
      have HG := Lib.hid hG
      clear hK hd e0
      clear hG
      go_simp
      exact HK.out _ _ (Below.refl _ _) HG.out rfl
    · intro vs wx hG hd K hK
      have e1 : vs 1 = wP p := hd.get (j := 1) (by simp [depsOf, Region.binds])
      replace hK : ∀ (uu : Value) (w' : World), Below wx.heap.size wx w' → ((Gw w B p d seg a)) w' → (Hb w) (.inl (wP p)) uu w' → K _ w' := hK
      simp only [Act.put, List.setIfInBounds_toArray, List.set_cons_zero, List.set_cons_succ, e1] at hK ⊢
      have HK := Lib.hid hK
      have HG := Lib.hid hG
      clear hK hd e1
      clear hG
      go_simp
      exact HK.out _ _ (Below.refl _ _) HG.out rfl
    · intro vs wx hG hd K hK
      have e2 : vs 2 = wP p := hd.get (j := 2) (by simp [depsOf, Region.binds])
      replace hK : ∀ (uu : Value) (w' : World), Below wx.heap.size wx w' → ((Gw w B p d seg a)) w' → (Hb w) (.inl (dP d)) uu w' → K _ w' := hK
      simp only [Act.put, List.setIfInBounds_toArray, List.set_cons_zero, List.set_cons_succ, e2] at hK ⊢
      have HK := Lib.hid hK
      have HG := Lib.hid hG
      clear hK hd e2
      have gc0 := HG.out.wl.c0
      have gc1 := HG.out.wl.c1
      clear hG
      go_simp
      exact HK.out _ _ (Below.refl _ _) HG.out rfl
    · intro vs wx hG hd K hK
      replace hK : ∀ (uu : Value) (w' : World), Below wx.heap.size wx w' → ((Gw w B p d seg a)) w' → (Hb w) (.inl (wP p)) uu w' → K _ w' := hK
      simp only [Act.put, List.setIfInBounds_toArray, List.set_cons_zero, List.set_cons_succ] at hK ⊢
      have HK := Lib.hid hK
      have HG := Lib.hid hG
      clear hK hd
      clear hG
      go_simp
      exact HK.out _ _ (Below.refl _ _) HG.out rfl
    · intro vs wx hG hd K hK
      have e4 : vs 4 = wP p := hd.get (j := 4) (by simp [depsOf, Region.binds])
      replace hK : ∀ (uu : Value) (w' : World), Below wx.heap.size wx w' → ((Gw w B p d seg a)) w' → (Hb w) (.inl (wP p)) uu w' → K _ w' := hK
      simp only [Act.put, List.setIfInBounds_toArray, List.set_cons_zero, List.set_cons_succ, e4] at hK ⊢
      have HK := Lib.hid hK
      have HG := Lib.hid hG
      clear hK hd e4
      clear hG
      go_simp
      exact HK.out _ _ (Below.refl _ _) HG.out rfl
    · intro vs wx hG hd K hK
      have e5 : vs 5 = wP p := hd.get (j := 5) (by simp [depsOf, Region.binds])
      replace hK : ∀ (uu : Value) (w' : World), Below wx.heap.size wx w' → ((Gw w B p d seg a)) w' → (Hb w) (.inl (.pointer (some ⟨p, 1, none⟩))) uu w' → K _ w' := hK
      simp only [Act.put, List.setIfInBounds_toArray, List.set_cons_zero, List.set_cons_succ, e5] at hK ⊢
      have HK := Lib.hid hK
      have HG := Lib.hid hG
      clear hK hd e5
      clear hG
      go_simp
      exact HK.out _ _ (Below.refl _ _) HG.out rfl
    · intro vs wx hG hd K hK
      have e6 : vs 6 = .pointer (some ⟨p, 1, none⟩) := hd.get (j := 6) (by simp [depsOf, Region.binds])
      replace hK : ∀ (uu : Value) (w' : World), Below wx.heap.size wx w' → ((Gw w B p d seg a)) w' → (Hb w) (.inl (.int .i64 seg)) uu w' → K _ w' := hK
      simp only [Act.put, List.setIfInBounds_toArray, List.set_cons_zero, List.set_cons_succ, e6] at hK ⊢
      have HK := Lib.hid hK
      have HG := Lib.hid hG
      clear hK hd e6
      have gc0 := HG.out.wl.c0
      have gc1 := HG.out.wl.c1
      clear hG
      go_simp
      exact HK.out _ _ (Below.refl _ _) HG.out rfl
    · intro vs wx hG hd K hK
      replace hK : ∀ (uu : Value) (w' : World), Below wx.heap.size wx w' → ((Gw w B p d seg a)) w' → (Hb w) (.inl (.slice A p1.length c)) uu w' → K _ w' := hK
      simp only [Act.put, List.setIfInBounds_toArray, List.set_cons_zero, List.set_cons_succ] at hK ⊢
      have HK := Lib.hid hK
      have HG := Lib.hid hG
      clear hK hd
      clear hG
      go_simp
      exact HK.out _ _ (Below.refl _ _) HG.out rfl
    · intro vs wx hG hd K hK
      have e8 : vs 8 = .slice A p1.length c := hd.get (j := 8) (by simp [depsOf, Region.binds])
      replace hK : ∀ (uu : Value) (w' : World), Below wx.heap.size wx w' → ((Gw w B p d seg a)) w' → (Hb w) (.inr L9) uu w' → K _ w' := hK
      simp only [Act.put, List.setIfInBounds_toArray, List.set_cons_zero, List.set_cons_succ, e8] at hK ⊢
      have HK := Lib.hid hK
      have HG := Lib.hid hG
      clear hK hd e8
      clear hG
      go_simp
      go_at_call 42
      refine (HW.out _ HG.out.b).mono ?_
      rintro e w9 ⟨A9, c9, rfl, ho, hb⟩
      exact HK.out _ _ hb (HG.out.below hb) ⟨A9, c9, rfl, ho.more HG.out.b.size⟩
    · intro vs wx hG hd K hK
      have e3 : vs 3 = dP d := hd.get (j := 3) (by simp [depsOf, Region.binds])
      have e7 : vs 7 = .int .i64 seg := hd.get (j := 7) (by simp [depsOf, Region.binds])
      obtain ⟨A9, c9, e9, q9⟩ : ∃ Aq cq, vs 9 = .slice Aq L9.length cq ∧ Ob wx w.heap.size (.slice Aq L9.length cq) L9 := hd.get (j := 9) (by simp [depsOf, Region.binds])
      replace hK : ∀ (uu : Value) (w' : World), (fun v w' => v = .int .i64 r ∧ Dw w B d a' w') uu w' → K _ w' := hK
      simp only [Act.put, List.setIfInBounds_toArray, List.set_cons_zero, List.set_cons_succ, e3, e7, e9] at hK ⊢
      have HK := Lib.hid hK
      have HG := Lib.hid hG
      clear hK hd e3 e7 e9
      clear hG
      go_simp
      go_at_call 22
      refine (Dw.of HG.out.b (app_DD (r := r) (a' := a') HG.out.d h2 q9.bs.1 rfl (fun hl ad e hb => by have h5 := own_block q9 hl e rfl; have h6 := HBT.out _ hb; omega) HR.out)).mono ?_
      rintro e w9 ⟨rfl, D9⟩
      exact HK.out _ _ ⟨rfl, D9⟩
    · intro vs wx hE K hK
      simp only [Act.put, List.setIfInBounds_toArray, List.set_cons_zero, List.set_cons_succ] at hK ⊢
      have HK := Lib.hid hK
      clear hK hE
      go_simp
      exact HK.out
  case hend =>
    intro vs wx hE he
    obtain ⟨e1, D9⟩ := hE
    rw [he, e1]
    have HD := Lib.hid D9
    clear he e1 D9
    go_wp2_with fail
    go_ret
    exact ⟨rfl, HD.out⟩
set_option maxRecDepth 100000 in
set_option maxHeartbeats 6400000 in
theorem wsync_any (hw : Wp w p d seg) (D : DD w B d a) (h1 : -9223372036854775808 ≤ seg) (h2 : seg ≤ 9223372036854775807) (hr : opD syncA a seg = (r, a')) :
    Calls Try.prog 18 #[wP p] w fun e w' => e = .returned (.int .i64 r) ∧ Dw w B d a' w' := by
  have HR := Lib.hid hr
  have HG0 : Hid (Gw w B p d seg a w) := Lib.hid ⟨hw, D, Below.refl _ _⟩
  clear hr hw D
  go_enter Try.func18, Try.ntmps18
  go_wp2_with fail
  apply region_VT (Hb w) (Gw w B p d seg a) (fun v w' => v = .int .i64 r ∧ Dw w B d a' w') 8 [.inl (wP p), .inl (wP p), .inl (wP p), .inl (dP d), .inl (wP p), .inl (wP p), .inl (.pointer (some ⟨p, 1, none⟩)), .inl (.int .i64 seg), .inl undef] (.inl undef)
  case mono => exact fun p v w0 w9 h hb => Hb.mono h hb
  case hm => kernel_rfl
  case hf => kernel_rfl
  case hl => kernel_rfl
  case hQ => exact (by intro c x y w e h; exact And.intro (e.symm.trans (And.left h)) (And.right h))
  case hF => intro vs; simp only [putAll, Act.put, List.setIfInBounds_toArray, List.set_cons_zero, List.set_cons_succ, Nat.reduceAdd]; rfl
  case h0 => exact HG0.out.below ⟨rfl, rfl, rfl, Nat.le_refl _, fun _ _ => rfl⟩
  case hstep =>
    repeat' (first | exact AllOps.nil | apply AllOps.cons)
    · intro vs wx hG hd K hK
      replace hK : ∀ (uu : Value) (w' : World), Below wx.heap.size wx w' → ((Gw w B p d seg a)) w' → (Hb w) (.inl (wP p)) uu w' → K _ w' := hK
      simp only [Act.put, List.setIfInBounds_toArray, List.set_cons_zero, List.set_cons_succ] at hK ⊢
      have HK := Lib.hid hK
      have HG := Lib.hid hG
      clear hK hd
      clear hG
      go_simp
      exact HK.out _ _ (Below.refl _ _) HG.out rfl
    · intro vs wx hG hd K hK
      have e0 : vs 0 = wP p := hd.get (j := 0) (by simp [depsOf, Region.binds])
      replace hK : ∀ (uu : Value) (w' : World), Below wx.heap.size wx w' → ((Gw w B p d seg a)) w' → (Hb w) (.inl (wP p)) uu w' → K _ w' := hK
      simp only [Act.put, List.setIfInBounds_toArray, List.set_cons_zero, List.set_cons_succ, e0] at hK ⊢
      have HK := Lib.hid hK
      have HG := Lib.hid hG
      clear hK hd e0
      clear hG
      go_simp
      exact HK.out _ _ (Below.refl _ _) HG.out rfl
    · intro vs wx hG hd K hK
      have e1 : vs 1 = wP p := hd.get (j := 1) (by simp [depsOf, Region.binds])
      replace hK : ∀ (uu : Value) (w' : World), Below wx.heap.size wx w' → ((Gw w B p d seg a)) w' → (Hb w) (.inl (wP p)) uu w' → K _ w' := hK
      simp only [Act.put, List.setIfInBounds_toArray, List.set_cons_zero, List.set_cons_succ, e1] at hK ⊢
      have HK := Lib.hid hK
      have HG := Lib.hid hG
      clear hK hd e1
      clear hG
      go_simp
      exact HK.out _ _ (Below.refl _ _) HG.out rfl
    · intro vs wx hG hd K hK
      have e2 : vs 2 = wP p := hd.get (j := 2) (by simp [depsOf, Region.binds])
      replace hK : ∀ (uu : Value) (w' : World), Below wx.heap.size wx w' → ((Gw w B p d seg a)) w' → (Hb w) (.inl (dP d)) uu w' → K _ w' := hK
      simp only [Act.put, List.setIfInBounds_toArray, List.set_cons_zero, List.set_cons_succ, e2] at hK ⊢
      have HK := Lib.hid hK
      have HG := Lib.hid hG
      clear hK hd e2
      have gc0 := HG.out.wl.c0
      have gc1 := HG.out.wl.c1
      clear hG
      go_simp
      exact HK.out _ _ (Below.refl _ _) HG.out rfl
    · intro vs wx hG hd K hK
      replace hK : ∀ (uu : Value) (w' : World), Below wx.heap.size wx w' → ((Gw w B p d seg a)) w' → (Hb w) (.inl (wP p)) uu w' → K _ w' := hK
      simp only [Act.put, List.setIfInBounds_toArray, List.set_cons_zero, List.set_cons_succ] at hK ⊢
      have HK := Lib.hid hK
      have HG := Lib.hid hG
      clear hK hd
      clear hG
      go_simp
      exact HK.out _ _ (Below.refl _ _) HG.out rfl
    · intro vs wx hG hd K hK
      have e4 : vs 4 = wP p := hd.get (j := 4) (by simp [depsOf, Region.binds])
      replace hK : ∀ (uu : Value) (w' : World), Below wx.heap.size wx w' → ((Gw w B p d seg a)) w' → (Hb w) (.inl (wP p)) uu w' → K _ w' := hK
      simp only [Act.put, List.setIfInBounds_toArray, List.set_cons_zero, List.set_cons_succ, e4] at hK ⊢
      have HK := Lib.hid hK
      have HG := Lib.hid hG
      clear hK hd e4
      clear hG
      go_simp
      exact HK.out _ _ (Below.refl _ _) HG.out rfl
    · intro vs wx hG hd K hK
      have e5 : vs 5 = wP p := hd.get (j := 5) (by simp [depsOf, Region.binds])
      replace hK : ∀ (uu : Value) (w' : World), Below wx.heap.size wx w' → ((Gw w B p d seg a)) w' → (Hb w) (.inl (.pointer (some ⟨p, 1, none⟩))) uu w' → K _ w' := hK
      simp only [Act.put, List.setIfInBounds_toArray, List.set_cons_zero, List.set_cons_succ, e5] at hK ⊢
      have HK := Lib.hid hK
      have HG := Lib.hid hG
      clear hK hd e5
      clear hG
      go_simp
      exact HK.out _ _ (Below.refl _ _) HG.out rfl
    · intro vs wx hG hd K hK
      have e6 : vs 6 = .pointer (some ⟨p, 1, none⟩) := hd.get (j := 6) (by simp [depsOf, Region.binds])
      replace hK : ∀ (uu : Value) (w' : World), Below wx.heap.size wx w' → ((Gw w B p d seg a)) w' → (Hb w) (.inl (.int .i64 seg)) uu w' → K _ w' := hK
      simp only [Act.put, List.setIfInBounds_toArray, List.set_cons_zero, List.set_cons_succ, e6] at hK ⊢
      have HK := Lib.hid hK
      have HG := Lib.hid hG
      clear hK hd e6
      have gc0 := HG.out.wl.c0
      have gc1 := HG.out.wl.c1
      clear hG
      go_simp
      exact HK.out _ _ (Below.refl _ _) HG.out rfl
    · intro vs wx hG hd K hK
      have e3 : vs 3 = dP d := hd.get (j := 3) (by simp [depsOf, Region.binds])
      have e7 : vs 7 = .int .i64 seg := hd.get (j := 7) (by simp [depsOf, Region.binds])
      replace hK : ∀ (uu : Value) (w' : World), (fun v w' => v = .int .i64 r ∧ Dw w B d a' w') uu w' → K _ w' := hK
      simp only [Act.put, List.setIfInBounds_toArray, List.set_cons_zero, List.set_cons_succ, e3, e7] at hK ⊢
      have HK := Lib.hid hK
      have HG := Lib.hid hG
      clear hK hd e3 e7
      clear hG
      go_simp
      go_at_call 23
      refine (Dw.of HG.out.b (sync_DD (r := r) (a' := a') HG.out.d h1 h2 HR.out)).mono ?_
      rintro e w9 ⟨rfl, D9⟩
      exact HK.out _ _ ⟨rfl, D9⟩
    · intro vs wx hE K hK
      simp only [Act.put, List.setIfInBounds_toArray, List.set_cons_zero, List.set_cons_succ] at hK ⊢
      have HK := Lib.hid hK
      clear hK hE
      go_simp
      exact HK.out
  case hend =>
    intro vs wx hE he
    obtain ⟨e1, D9⟩ := hE
    rw [he, e1]
    have HD := Lib.hid D9
    clear he e1 D9
    go_wp2_with fail
    go_ret
    exact ⟨rfl, HD.out⟩
end
end Go.Proofs.Ytpckbbjlihhpdaa
namespace Go.Proofs.Ytpckbbjlihhpdaa
open Go.RowKit Go.BigFrame

section
variable {w wx wy : World} {B : Nat → Prop} {p d c K : Nat} {seg r r2 nx : Int} {a a1 a2 a' : Ad} {A : Option Addr} {p1 : List UInt8}
theorem wreb_nil (A : Option Addr) (n c : Nat) : Calls Try.prog 20 #[.pointer none, .slice A n c] w fun e w' => e = .returned (.int .i64 2) ∧ w' = w := by
  go_enter Try.func20, Try.ntmps20
  go_wp2
  go_ret
  exact ⟨rfl, rfl⟩
theorem wreb_long (A : Option Addr) (n c : Nat) (hn : 1048576 < n) (hm : n ≤ 9223372036854775807) : Calls Try.prog 20 #[wP p, .slice A n c] w fun e w' => e = .returned (.int .i64 8) ∧ w' = w := by
  go_enter Try.func20, Try.ntmps20
  go_wp2
  go_ret
  exact ⟨rfl, rfl⟩
/-- The log and its disk, behind a call. -/
def Lw (w : World) (B : Nat → Prop) (p d : Nat) (seg : Int) (a : Ad) (w' : World) : Prop := ∃ B', DD w' B' d a ∧ Tn (fun k => B k ∨ k = p) w w' ∧ (∀ k, B' k → B k ∨ w.heap.size ≤ k) ∧ Wp w' p d seg ∧ ¬ B' p
theorem Dw.lw (h : Dw w B d a wx) (hw : Wp w p d seg) (hp : ¬ B p) : Lw w B p d seg a wx := by
  obtain ⟨B', D, t, hB⟩ := h
  have hlt := World.block_lt_of_cell? _ _ hw.c0
  exact ⟨B', D, t.mono fun _ _ h => .inl h, hB, hw.tn t hp, fun h => (hB p h).elim hp fun h9 => by simp only at hlt; omega⟩
def rebA (a : Ad) (seg : Int) (b : List UInt8) : Int × Ad × Int :=
  if (appD a (abv seg) b).1 = 0 then ((keepA (appD a (abv seg) b).2 (abv seg) [seg]).1, (keepA (appD a (abv seg) b).2 (abv seg) [seg]).2, abv seg) else ((appD a (abv seg) b).1, (appD a (abv seg) b).2, seg)
set_option maxRecDepth 100000 in
set_option maxHeartbeats 6400000 in
theorem wreb_any (hw : Wp w p d seg) (hp : ¬ B p) (D : DD w B d a) (h1 : 0 ≤ seg) (h2 : seg ≤ 9223372036854775807) (hb : Bs w K A c p1) (hK : K ≤ w.heap.size) (hl : p1.length ≤ 1048576) {sg' : Int} (hr : rebA a seg (framesB p1 []) = (r2, a', sg')) :
    Calls Try.prog 20 #[wP p, .slice A p1.length c] w fun e w' => e = .returned (.int .i64 r2) ∧ Lw w B p d sg' a' w' := by
  have hcl := hb.le
  have hpl : p < w.heap.size := World.block_lt_of_cell? _ _ hw.c0
  obtain ⟨L9, hL9⟩ : ∃ L9, L9 = framesB p1 [] := ⟨_, rfl⟩
  obtain ⟨nx, hnx⟩ : ∃ nx, nx = abv seg := ⟨_, rfl⟩
  obtain ⟨r, a1, ha⟩ : ∃ r a1, appD a nx L9 = (r, a1) := ⟨_, _, rfl⟩
  have hnr := abv_range h1 h2
  rw [← hnx] at hnr
  unfold rebA at hr
  rw [← hnx, ← hL9, ha] at hr
  simp only at hr
  have HR := Lib.hid hr
  have HA := Lib.hid ha
  have HAB : Hid (∀ W : World, Calls Try.prog 38 #[.int .i64 seg] W fun e w' => e = .returned (.int .i64 nx) ∧ w' = W) := Lib.hid fun W => by
    rw [hnx]
    exact above_seg h1 h2
  have HW : Hid (∀ wx, Below w.heap.size w wx → Calls Try.prog 47 #[.agg #[.slice A p1.length c, .slice none 0 0]] wx (NewB wx L9)) := Lib.hid fun wx hx => by
    have h := frames_any K A c p1 none 0 [] wx (hb.below (hx.mono hK)) ⟨Nat.le_refl _, Nat.zero_le _, fun _ => rfl, fun h => absurd h (by simp)⟩ (by have := hx.size; omega) hl (fun x hx => (by cases hx)) (by rw [framesB_len]; simp [recsB]; omega)
    rw [← hL9] at h
    exact h
  have HG0 : Hid (Gw w B p d seg a w) := Lib.hid ⟨hw, D, Below.refl _ _⟩
  have HBT := Lib.hid D.bt
  have HWP := Lib.hid hw
  have HNP := Lib.hid hp
  have hq : (1048576 : Int) < (p1.length : Int) → False := fun h => by omega
  clear hr ha hL9 hnx hb hw D hp
  go_enter Try.func20, Try.ntmps20
  go_wp2_with fail
  apply region_V (Hb w) (Gw w B p d seg a) [.inl (wP p), .inl (wP p), .inl (.pointer (some ⟨p, 1, none⟩)), .inl (.int .i64 seg), .inl (wP p), .inl (wP p), .inl (.pointer (some ⟨p, 1, none⟩)), .inl (.int .i64 seg), .inl (.int .i64 nx), .inl (.int .i64 seg), .inl (.int .i64 nx)] (.inl undef)
  case mono => exact fun p v w0 w9 h hb => Hb.mono h hb
  case hm => kernel_rfl
  case hf => kernel_rfl
  case hQ => exact (by intro c x y w e h; exact And.intro (e.symm.trans (And.left h)) (And.right h))
  case hF => intro vs; simp only [putAll, Act.put, List.setIfInBounds_toArray, List.set_cons_zero, List.set_cons_succ, Nat.reduceAdd]; rfl
  case h0 => exact HG0.out.below ⟨rfl, rfl, rfl, Nat.le_refl _, fun _ _ => rfl⟩
  case hstep =>
    repeat' (first | exact AllOps.nil | apply AllOps.cons)
    · intro vs wx hG hd K hK
      replace hK : ∀ (uu : Value) (w' : World), Below wx.heap.size wx w' → ((Gw w B p d seg a)) w' → (Hb w) (.inl (wP p)) uu w' → K _ w' := hK
      simp only [Act.put, List.setIfInBounds_toArray, List.set_cons_zero, List.set_cons_succ] at hK ⊢
      have HK := Lib.hid hK
      have HG := Lib.hid hG
      clear hK hd
      clear hG
      go_simp
      exact HK.out _ _ (Below.refl _ _) HG.out rfl
    · intro vs wx hG hd K hK
      have e0 : vs 0 = wP p := hd.get (j := 0) (by simp [depsOf, Region.binds])
      replace hK : ∀ (uu : Value) (w' : World), Below wx.heap.size wx w' → ((Gw w B p d seg a)) w' → (Hb w) (.inl (wP p)) uu w' → K _ w' := hK
      simp only [Act.put, List.setIfInBounds_toArray, List.set_cons_zero, List.set_cons_succ, e0] at hK ⊢
      have HK := Lib.hid hK
      have HG := Lib.hid hG
      clear hK hd e0
      clear hG
      go_simp
      exact HK.out _ _ (Below.refl _ _) HG.out rfl
    · intro vs wx hG hd K hK
      have e1 : vs 1 = wP p := hd.get (j := 1) (by simp [depsOf, Region.binds])
      replace hK : ∀ (uu : Value) (w' : World), Below wx.heap.size wx w' → ((Gw w B p d seg a)) w' → (Hb w) (.inl (.pointer (some ⟨p, 1, none⟩))) uu w' → K _ w' := hK
      simp only [Act.put, List.setIfInBounds_toArray, List.set_cons_zero, List.set_cons_succ, e1] at hK ⊢
      have HK := Lib.hid hK
      have HG := Lib.hid hG
      clear hK hd e1
      clear hG
      go_simp
      exact HK.out _ _ (Below.refl _ _) HG.out rfl
    · intro vs wx hG hd K hK
      have e2 : vs 2 = .pointer (some ⟨p, 1, none⟩) := hd.get (j := 2) (by simp [depsOf, Region.binds])
      replace hK : ∀ (uu : Value) (w' : World), Below wx.heap.size wx w' → ((Gw w B p d seg a)) w' → (Hb w) (.inl (.int .i64 seg)) uu w' → K _ w' := hK
      simp only [Act.put, List.setIfInBounds_toArray, List.set_cons_zero, List.set_cons_succ, e2] at hK ⊢
      have HK := Lib.hid hK
      have HG := Lib.hid hG
      clear hK hd e2
      have gc0 := HG.out.wl.c0
      have gc1 := HG.out.wl.c1
      clear hG
      go_simp
      exact HK.out _ _ (Below.refl _ _) HG.out rfl
    · intro vs wx hG hd K hK
      replace hK : ∀ (uu : Value) (w' : World), Below wx.heap.size wx w' → ((Gw w B p d seg a)) w' → (Hb w) (.inl (wP p)) uu w' → K _ w' := hK
      simp only [Act.put, List.setIfInBounds_toArray, List.set_cons_zero, List.set_cons_succ] at hK ⊢
      have HK := Lib.hid hK
      have HG := Lib.hid hG
      clear hK hd
      clear hG
      go_simp
      exact HK.out _ _ (Below.refl _ _) HG.out rfl
    · intro vs wx hG hd K hK
      have e4 : vs 4 = wP p := hd.get (j := 4) (by simp [depsOf, Region.binds])
      replace hK : ∀ (uu : Value) (w' : World), Below wx.heap.size wx w' → ((Gw w B p d seg a)) w' → (Hb w) (.inl (wP p)) uu w' → K _ w' := hK
      simp only [Act.put, List.setIfInBounds_toArray, List.set_cons_zero, List.set_cons_succ, e4] at hK ⊢
      have HK := Lib.hid hK
      have HG := Lib.hid hG
      clear hK hd e4
      clear hG
      go_simp
      exact HK.out _ _ (Below.refl _ _) HG.out rfl
    · intro vs wx hG hd K hK
      have e5 : vs 5 = wP p := hd.get (j := 5) (by simp [depsOf, Region.binds])
      replace hK : ∀ (uu : Value) (w' : World), Below wx.heap.size wx w' → ((Gw w B p d seg a)) w' → (Hb w) (.inl (.pointer (some ⟨p, 1, none⟩))) uu w' → K _ w' := hK
      simp only [Act.put, List.setIfInBounds_toArray, List.set_cons_zero, List.set_cons_succ, e5] at hK ⊢
      have HK := Lib.hid hK
      have HG := Lib.hid hG
      clear hK hd e5
      clear hG
      go_simp
      exact HK.out _ _ (Below.refl _ _) HG.out rfl
    · intro vs wx hG hd K hK
      have e6 : vs 6 = .pointer (some ⟨p, 1, none⟩) := hd.get (j := 6) (by simp [depsOf, Region.binds])
      replace hK : ∀ (uu : Value) (w' : World), Below wx.heap.size wx w' → ((Gw w B p d seg a)) w' → (Hb w) (.inl (.int .i64 seg)) uu w' → K _ w' := hK
      simp only [Act.put, List.setIfInBounds_toArray, List.set_cons_zero, List.set_cons_succ, e6] at hK ⊢
      have HK := Lib.hid hK
      have HG := Lib.hid hG
      clear hK hd e6
      have gc0 := HG.out.wl.c0
      have gc1 := HG.out.wl.c1
      clear hG
      go_simp
      exact HK.out _ _ (Below.refl _ _) HG.out rfl
    · intro vs wx hG hd K hK
      have e7 : vs 7 = .int .i64 seg := hd.get (j := 7) (by simp [depsOf, Region.binds])
      replace hK : ∀ (uu : Value) (w' : World), Below wx.heap.size wx w' → ((Gw w B p d seg a)) w' → (Hb w) (.inl (.int .i64 nx)) uu w' → K _ w' := hK
      simp only [Act.put, List.setIfInBounds_toArray, List.set_cons_zero, List.set_cons_succ, e7] at hK ⊢
      have HK := Lib.hid hK
      have HG := Lib.hid hG
      clear hK hd e7
      clear hG
      go_simp
      go_at_call 38
      refine (HAB.out wx).mono ?_
      rintro e w1 ⟨rfl, hw⟩; have hb : Below wx.heap.size wx w1 := by rw [hw]; exact Below.refl _ _
      exact HK.out _ _ hb (HG.out.below hb) rfl
    · intro vs wx hG hd K hK
      have e3 : vs 3 = .int .i64 seg := hd.get (j := 3) (by simp [depsOf, Region.binds])
      replace hK : ∀ (uu : Value) (w' : World), Below wx.heap.size wx w' → ((Gw w B p d seg a)) w' → (Hb w) (.inl (.int .i64 seg)) uu w' → K _ w' := hK
      simp only [Act.put, List.setIfInBounds_toArray, List.set_cons_zero, List.set_cons_succ, e3] at hK ⊢
      have HK := Lib.hid hK
      have HG := Lib.hid hG
      clear hK hd e3
      clear hG
      go_simp
      exact HK.out _ _ (Below.refl _ _) HG.out rfl
    · intro vs wx hG hd K hK
      have e8 : vs 8 = .int .i64 nx := hd.get (j := 8) (by simp [depsOf, Region.binds])
      replace hK : ∀ (uu : Value) (w' : World), Below wx.heap.size wx w' → ((Gw w B p d seg a)) w' → (Hb w) (.inl (.int .i64 nx)) uu w' → K _ w' := hK
      simp only [Act.put, List.setIfInBounds_toArray, List.set_cons_zero, List.set_cons_succ, e8] at hK ⊢
      have HK := Lib.hid hK
      have HG := Lib.hid hG
      clear hK hd e8
      clear hG
      go_simp
      exact HK.out _ _ (Below.refl _ _) HG.out rfl
  case hend =>
    intro vs wx hG hv
    have e9 : vs 9 = .int .i64 seg := hv 9 (by decide)
    have e10 : vs 10 = .int .i64 nx := hv 10 (by decide)
    rw [e9, e10]
    have HG5 := Lib.hid hG
    clear hv e9 e10 hG
    go_wp2_with fail
    apply region_VT (Hb w) (Gw w B p d seg a) (fun v w' => v = .int .i64 r ∧ Dw w B d a1 w') 8 [.inl (wP p), .inl (wP p), .inl (wP p), .inl (dP d), .inl (.int .i64 nx), .inl (.slice A p1.length c), .inl (.agg #[.slice A p1.length c, .slice none 0 0]), .inr L9, .inl undef] (.inl undef)
    case mono => exact fun p v w0 w9 h hb => Hb.mono h hb
    case hm => kernel_rfl
    case hf => kernel_rfl
    case hl => kernel_rfl
    case hQ => exact (by intro c x y w e h; exact And.intro (e.symm.trans (And.left h)) (And.right h))
    case hF => intro vs; simp only [putAll, Act.put, List.setIfInBounds_toArray, List.set_cons_zero, List.set_cons_succ, Nat.reduceAdd]; rfl
    case h0 => exact HG5.out.below ⟨rfl, rfl, rfl, Nat.le_refl _, fun _ _ => rfl⟩
    case hstep =>
      repeat' (first | exact AllOps.nil | apply AllOps.cons)
      · intro vs wx hG hd K hK
        replace hK : ∀ (uu : Value) (w' : World), Below wx.heap.size wx w' → ((Gw w B p d seg a)) w' → (Hb w) (.inl (wP p)) uu w' → K _ w' := hK
        simp only [Act.put, List.setIfInBounds_toArray, List.set_cons_zero, List.set_cons_succ] at hK ⊢
        have HK := Lib.hid hK
        have HG := Lib.hid hG
        clear hK hd
        clear hG
        go_simp
        exact HK.out _ _ (Below.refl _ _) HG.out rfl
      · intro vs wx hG hd K hK
        have e0 : vs 0 = wP p := hd.get (j := 0) (by simp [depsOf, Region.binds])
        replace hK : ∀ (uu : Value) (w' : World), Below wx.heap.size wx w' → ((Gw w B p d seg a)) w' → (Hb w) (.inl (wP p)) uu w' → K _ w' := hK
        simp only [Act.put, List.setIfInBounds_toArray, List.set_cons_zero, List.set_cons_succ, e0] at hK ⊢
        have HK := Lib.hid hK
        have HG := Lib.hid hG
        clear hK hd e0
        clear hG
        go_simp
        exact HK.out _ _ (Below.refl _ _) HG.out rfl
      · intro vs wx hG hd K hK
        have e1 : vs 1 = wP p := hd.get (j := 1) (by simp [depsOf, Region.binds])
        replace hK : ∀ (uu : Value) (w' : World), Below wx.heap.size wx w' → ((Gw w B p d seg a)) w' → (Hb w) (.inl (wP p)) uu w' → K _ w' := hK
        simp only [Act.put, List.setIfInBounds_toArray, List.set_cons_zero, List.set_cons_succ, e1] at hK ⊢
        have HK := Lib.hid hK
        have HG := Lib.hid hG
        clear hK hd e1
        clear hG
        go_simp
        exact HK.out _ _ (Below.refl _ _) HG.out rfl
      · intro vs wx hG hd K hK
        have e2 : vs 2 = wP p := hd.get (j := 2) (by simp [depsOf, Region.binds])
        replace hK : ∀ (uu : Value) (w' : World), Below wx.heap.size wx w' → ((Gw w B p d seg a)) w' → (Hb w) (.inl (dP d)) uu w' → K _ w' := hK
        simp only [Act.put, List.setIfInBounds_toArray, List.set_cons_zero, List.set_cons_succ, e2] at hK ⊢
        have HK := Lib.hid hK
        have HG := Lib.hid hG
        clear hK hd e2
        have gc0 := HG.out.wl.c0
        have gc1 := HG.out.wl.c1
        clear hG
        go_simp
        exact HK.out _ _ (Below.refl _ _) HG.out rfl
      · intro vs wx hG hd K hK
        replace hK : ∀ (uu : Value) (w' : World), Below wx.heap.size wx w' → ((Gw w B p d seg a)) w' → (Hb w) (.inl (.int .i64 nx)) uu w' → K _ w' := hK
        simp only [Act.put, List.setIfInBounds_toArray, List.set_cons_zero, List.set_cons_succ] at hK ⊢
        have HK := Lib.hid hK
        have HG := Lib.hid hG
        clear hK hd
        clear hG
        go_simp
        exact HK.out _ _ (Below.refl _ _) HG.out rfl
      · intro vs wx hG hd K hK
        replace hK : ∀ (uu : Value) (w' : World), Below wx.heap.size wx w' → ((Gw w B p d seg a)) w' → (Hb w) (.inl (.slice A p1.length c)) uu w' → K _ w' := hK
        simp only [Act.put, List.setIfInBounds_toArray, List.set_cons_zero, List.set_cons_succ] at hK ⊢
        have HK := Lib.hid hK
        have HG := Lib.hid hG
        clear hK hd
        clear hG
        go_simp
        exact HK.out _ _ (Below.refl _ _) HG.out rfl
      · intro vs wx hG hd K hK
        have e5 : vs 5 = .slice A p1.length c := hd.get (j := 5) (by simp [depsOf, Region.binds])
        replace hK : ∀ (uu : Value) (w' : World), Below wx.heap.size wx w' → ((Gw w B p d seg a)) w' → (Hb w) (.inl (.agg #[.slice A p1.length c, .slice none 0 0])) uu w' → K _ w' := hK
        simp only [Act.put, List.setIfInBounds_toArray, List.set_cons_zero, List.set_cons_succ, e5] at hK ⊢
        have HK := Lib.hid hK
        have HG := Lib.hid hG
        clear hK hd e5
        clear hG
        go_simp
        exact HK.out _ _ (Below.refl _ _) HG.out rfl
      · intro vs wx hG hd K hK
        have e6 : vs 6 = .agg #[.slice A p1.length c, .slice none 0 0] := hd.get (j := 6) (by simp [depsOf, Region.binds])
        replace hK : ∀ (uu : Value) (w' : World), Below wx.heap.size wx w' → ((Gw w B p d seg a)) w' → (Hb w) (.inr L9) uu w' → K _ w' := hK
        simp only [Act.put, List.setIfInBounds_toArray, List.set_cons_zero, List.set_cons_succ, e6] at hK ⊢
        have HK := Lib.hid hK
        have HG := Lib.hid hG
        clear hK hd e6
        clear hG
        go_simp
        go_at_call 47
        refine (HW.out _ HG.out.b).mono ?_
        rintro e w9 ⟨A9, c9, rfl, ho, hb⟩
        exact HK.out _ _ hb (HG.out.below hb) ⟨A9, c9, rfl, ho.more HG.out.b.size⟩
      · intro vs wx hG hd K hK
        have e3 : vs 3 = dP d := hd.get (j := 3) (by simp [depsOf, Region.binds])
        have e4 : vs 4 = .int .i64 nx := hd.get (j := 4) (by simp [depsOf, Region.binds])
        obtain ⟨A7, c7, e7, q7⟩ : ∃ Aq cq, vs 7 = .slice Aq L9.length cq ∧ Ob wx w.heap.size (.slice Aq L9.length cq) L9 := hd.get (j := 7) (by simp [depsOf, Region.binds])
        replace hK : ∀ (uu : Value) (w' : World), (fun v w' => v = .int .i64 r ∧ Dw w B d a1 w') uu w' → K _ w' := hK
        simp only [Act.put, List.setIfInBounds_toArray, List.set_cons_zero, List.set_cons_succ, e3, e4, e7] at hK ⊢
        have HK := Lib.hid hK
        have HG := Lib.hid hG
        clear hK hd e3 e4 e7
        clear hG
        go_simp
        go_at_call 22
        refine (Dw.of HG.out.b (app_DD (r := r) (a' := a1) HG.out.d hnr.2 q7.bs.1 rfl (fun hl ad e hb => by have h5 := own_block q7 hl e rfl; have h6 := HBT.out _ hb; omega) HA.out)).mono ?_
        rintro e w9 ⟨rfl, D9⟩
        exact HK.out _ _ ⟨rfl, D9⟩
      · intro vs wx hE K hK
        simp only [Act.put, List.setIfInBounds_toArray, List.set_cons_zero, List.set_cons_succ] at hK ⊢
        have HK := Lib.hid hK
        clear hK hE
        go_simp
        exact HK.out
    case hend =>
      intro vs wy hE he
      obtain ⟨e1, D9⟩ := hE
      rw [he, e1]
      obtain ⟨B1, D1, t1, hB1, W1, hnp1⟩ := D9.lw HWP.out HNP.out
      have y0 := W1.c0
      have y1 := W1.c1
      have yf := W1.fr
      have hyl : p < wy.heap.size := World.block_lt_of_cell? _ _ y0
      clear he e1 D9
      by_cases hr0 : r = 0
      · subst hr0
        obtain ⟨r3, a3, h3⟩ : ∃ r3 a3, keepA a1 nx [seg] = (r3, a3) := ⟨_, _, rfl⟩
        have HN : Hid (r3 = r2 ∧ a3 = a' ∧ nx = sg') := Lib.hid (by have := HR.out; rw [if_pos rfl, h3] at this; simpa using this)
        have t2 := Tn.setCell wy p 1 (.int .i64 nx)
        have D2 : DD (wy.setCell ⟨p, 1, none⟩ (.int .i64 nx)) B1 d a1 := D1.tn t2 fun k hk e => by subst e; exact hnp1 hk
        have W2 : Wp (wy.setCell ⟨p, 1, none⟩ (.int .i64 nx)) p d nx := ⟨by simpa [go_sem] using y0, by simp [go_sem, y1], fun j => by simp [go_sem, yf]⟩
        have D3 := D2.alloc (.cells #[.int .i64 seg] 3)
        have S3 : Sr encI 1 ((wy.setCell ⟨p, 1, none⟩ (.int .i64 nx)).alloc (.cells #[.int .i64 seg] 3)) (wy.heap.size + 1) (some ⟨wy.heap.size, 0, none⟩) 1 [seg] := ⟨Nat.le_refl _, by unfold maxLen; omega, (fun h => by cases h), fun _ => ⟨_, rfl, Nat.lt_succ_self _, fun i x hi j u hu => by
          cases i with
          | succ i => simp at hi
          | zero =>
            simp at hi
            subst hi
            cases j with
            | succ j => simp [encI] at hu
            | zero =>
              simp [encI] at hu
              subst hu
              simp [go_sem, Addr.add]⟩⟩
        have hks : ¬ B1 wy.heap.size := fun h => Nat.lt_irrefl _ (D1.bt _ h)
        have HC := Lib.hid (keep_any (r := r3) (a' := a3) D3 (by omega) hnr.2 S3 (fun _ ad e hb => by cases e; exact hks hb) (fun o ho => by simp at ho; subst ho; omega) h3)
        have t23 : Tn (fun k => B k ∨ k = p) w ((wy.setCell ⟨p, 1, none⟩ (.int .i64 nx)).alloc (.cells #[.int .i64 seg] 3)) := (t1.then (t2.mono fun _ _ h => .inr h)).then (Tn.ofNew ((Below.refl _ _).alloc (Nat.le_refl _) _))
        have HT := Lib.hid t23
        have HB1 := Lib.hid hB1
        have HW2 := Lib.hid (W2.below ((Below.refl _ _).alloc (Nat.le_refl _) (.cells #[.int .i64 seg] 3)))
        have HNP1 := Lib.hid hnp1
        have HT1 := Lib.hid t1.size
        clear h3 D1 t1 hB1 W1 hnp1 t2 D2 W2 D3 S3 hks t23 HR HG5
        go_wp2_with (go_at_call 48; refine HC.out.mono ?_; rintro e w9 ⟨rfl, B9, D9, t9, hB9⟩; have HD9 := Lib.hid D9; have HT9 := Lib.hid t9; have HB9 := Lib.hid hB9; clear D9 t9 hB9)
        go_ret
        obtain ⟨rfl, rfl, rfl⟩ := HN.out
        have hs3 := HT1.out
        refine ⟨rfl, B9, HD9.out, HT.out.thenQ HT9.out fun k hk hb => (HB1.out k hb).elim .inl fun h => absurd hk (by omega), fun k hk => (HB9.out k hk).elim (HB1.out k) fun h => .inr (by simp at h; omega), HW2.out.tn HT9.out HNP1.out, fun h => (HB9.out _ h).elim HNP1.out fun h => by simp at h; omega⟩
      · have q0 : (r == (0 : Int)) = false := by simpa using hr0
        have HN : Hid (r = r2 ∧ a1 = a' ∧ seg = sg') := Lib.hid (by have := HR.out; rw [if_neg hr0] at this; simpa using this)
        have HL : Hid (Lw w B p d seg a1 wy) := Lib.hid ⟨B1, D1, t1, hB1, W1, hnp1⟩
        clear hr0 HR D1 t1 hB1 W1 hnp1 HG5
        go_wp2_with fail
        go_ret
        obtain ⟨rfl, rfl, rfl⟩ := HN.out
        exact ⟨rfl, HL.out⟩
end
end Go.Proofs.Ytpckbbjlihhpdaa
namespace Go.Proofs.Ytpckbbjlihhpdaa
open Go.RowKit Go.BigFrame

/-- A disk with one segment, and power. -/
abbrev Sd (R : Int) (b : List UInt8) (l : Nat) (seg : Int) : Ad := ⟨R, -1, false, [⟨seg, b, l, true⟩]⟩
theorem sd_app {R : Int} {b q : List UInt8} {l : Nat} {seg : Int} (h1 : 1 ≤ seg) (hs : ((b.length + q.length : Nat) : Int) ≤ R) : appD (Sd R b l seg) seg q = (0, Sd R (b ++ q) l seg) := by
  unfold appD
  rw [if_neg (by simp), if_neg (by omega), if_neg (by simp only [sumA]; omega), if_neg (by simp), if_neg (show ¬ (-1 : Int) = 0 by decide)]
  simp [fz, putA]
theorem sd_sync {R : Int} {b : List UInt8} {l : Nat} {seg : Int} : opD syncA (Sd R b l seg) seg = (0, Sd R b b.length seg) := by
  unfold opD
  rw [if_neg (by simp), if_neg (by simp [hasA]), if_neg (show ¬ (-1 : Int) = 0 by decide)]
  simp [fz, syncA]
theorem sd_keep {R : Int} {b q : List UInt8} {l m : Nat} {seg nx : Int} (hlt : seg < nx) : keepA ⟨R, -1, false, [⟨seg, b, l, true⟩, ⟨nx, q, m, false⟩]⟩ nx [seg] = (0, Sd R q q.length nx) := by
  have hne : ¬ seg = nx := by omega
  have hne2 : ¬ nx = seg := by omega
  have e1 : opD syncA ⟨R, -1, false, [⟨seg, b, l, true⟩, ⟨nx, q, m, false⟩]⟩ nx = (0, ⟨R, -1, false, [⟨seg, b, l, true⟩, ⟨nx, q, q.length, true⟩]⟩) := by
    unfold opD
    rw [if_neg (by simp), if_neg (by simp [hasA]), if_neg (show ¬ (-1 : Int) = 0 by decide)]
    simp [fz, syncA, hne]
  have e2 : opD dropA ⟨R, -1, false, [⟨seg, b, l, true⟩, ⟨nx, q, q.length, true⟩]⟩ seg = (0, Sd R q q.length nx) := by
    unfold opD
    rw [if_neg (by simp), if_neg (by simp [hasA]), if_neg (show ¬ (-1 : Int) = 0 by decide)]
    simp [fz, dropA, hne2]
  unfold keepA
  rw [e1]
  simp only [dropsA, if_true, e2]
theorem sd_reb {R : Int} {b q : List UInt8} {l : Nat} {seg : Int} (h1 : 1 ≤ seg) (h2 : seg < 9223372036854775807) (hs : ((b.length + q.length : Nat) : Int) ≤ R) : rebA (Sd R b l seg) seg q = (0, Sd R q q.length (seg + 1), seg + 1) := by
  have ha : abv seg = seg + 1 := if_neg (by omega)
  have hne : ¬ seg = seg + 1 := by omega
  have e1 : appD (Sd R b l seg) (seg + 1) q = (0, ⟨R, -1, false, [⟨seg, b, l, true⟩, ⟨seg + 1, q, 0, false⟩]⟩) := by
    unfold appD
    rw [if_neg (by simp), if_neg (by omega), if_neg (by simp only [sumA]; omega), if_neg (by simp), if_neg (show ¬ (-1 : Int) = 0 by decide)]
    have h3 : ¬ seg + 1 < seg := by omega
    simp [fz, putA, h3, hne]
  unfold rebA
  rw [ha, e1]
  simp only [if_true, sd_keep (show seg < seg + 1 by omega)]
theorem fresh_lay {R : Int} {q : List UInt8} (hs : ((q.length : Nat) : Int) ≤ R) : layA ⟨R, -1, false, []⟩ 1 q [] = (0, Sd R q q.length 1) := by
  have e1 : appD ⟨R, -1, false, []⟩ 1 q = (0, ⟨R, -1, false, [⟨1, q, 0, false⟩]⟩) := by
    unfold appD
    rw [if_neg (by simp), if_neg (by omega), if_neg (by simp only [sumA]; omega), if_neg (by simp), if_neg (show ¬ (-1 : Int) = 0 by decide)]
    simp [fz, putA]
  have e2 : opD syncA ⟨R, -1, false, [⟨1, q, 0, false⟩]⟩ 1 = (0, Sd R q q.length 1) := by
    unfold opD
    rw [if_neg (by simp), if_neg (by simp [hasA]), if_neg (show ¬ (-1 : Int) = 0 by decide)]
    simp [fz, syncA]
  unfold layA keepA
  rw [e1]
  simp only [if_true, e2, dropsA]
/-- The log at p over the disk at d, with these bytes in its segment, in memory of w0's call. -/
structure Wd (w0 wr : World) (p d : Nat) (R : Int) (b : List UInt8) (l : Nat) (seg : Int) : Prop where
  ex : ∃ B, DD wr B d (Sd R b l seg) ∧ (∀ k, B k → w0.heap.size ≤ k) ∧ ¬ B p
  wp : Wp wr p d seg
  hp : w0.heap.size ≤ p
  h1 : 1 ≤ seg
  h2 : seg ≤ 9223372036854775807
  bel : Below w0.heap.size w0 wr
section
variable {w0 wr w' : World} {p d c K l : Nat} {R seg : Int} {b m : List UInt8} {A : Option Addr}
theorem Wd.lt (h : Wd w0 wr p d R b l seg) : p < wr.heap.size := World.block_lt_of_cell? _ _ h.wp.c0
theorem Wd.dlt (h : Wd w0 wr p d R b l seg) : d < wr.heap.size := by obtain ⟨B, D, _⟩ := h.ex; exact D.lt.1
theorem Wd.below (h : Wd w0 wr p d R b l seg) (hb : Below wr.heap.size wr w') : Wd w0 w' p d R b l seg := by
  obtain ⟨B, D, hB, hp⟩ := h.ex
  exact ⟨⟨B, D.below hb, hB, hp⟩, h.wp.below hb, h.hp, h.h1, h.h2, h.bel.trans (hb.mono h.bel.size)⟩
theorem Wd.lw {b2 : List UInt8} {l2 : Nat} {seg2 : Int} {B : Nat → Prop} (h : Wd w0 wr p d R b l seg) (hB : ∀ k, B k → w0.heap.size ≤ k) (h1 : 1 ≤ seg2) (h2 : seg2 ≤ 9223372036854775807) (L : Lw wr B p d seg2 (Sd R b2 l2 seg2) w') : Wd w0 w' p d R b2 l2 seg2 := by
  obtain ⟨B', D', t, hB', W', hp'⟩ := L
  have hs := h.bel.size
  exact ⟨⟨B', D', fun k hk => (hB' k hk).elim (hB k) fun h => by omega, hp'⟩, W', h.hp, h1, h2, t.bel h.bel (fun k hk => hk.elim (hB k) fun e => by rw [e]; exact h.hp) (Nat.le_refl _)⟩
theorem Wd.app (h : Wd w0 wr p d R b l seg) (hb : Bs wr K A c m) (hK : K ≤ wr.heap.size) (hl : m.length ≤ 1048576) (hs : ((b.length + (9 + m.length) : Nat) : Int) ≤ R) :
    Calls Try.prog 16 #[wP p, .slice A m.length c] wr fun e w' => e = .returned (.int .i64 0) ∧ Wd w0 w' p d R (b ++ sealB 1 m) l seg := by
  obtain ⟨B, D, hB, hp⟩ := h.ex
  refine (wapp_any h.wp D h.h2 hb hK hl (sd_app h.h1 (by rw [sealB_length]; exact hs))).mono ?_
  rintro e w' ⟨rfl, D'⟩
  exact ⟨rfl, h.lw hB h.h1 h.h2 (D'.lw h.wp hp)⟩
theorem Wd.sync (h : Wd w0 wr p d R b l seg) : Calls Try.prog 18 #[wP p] wr fun e w' => e = .returned (.int .i64 0) ∧ Wd w0 w' p d R b b.length seg := by
  obtain ⟨B, D, hB, hp⟩ := h.ex
  have h1 := h.h1
  refine (wsync_any h.wp D (by omega) h.h2 sd_sync).mono ?_
  rintro e w' ⟨rfl, D'⟩
  exact ⟨rfl, h.lw hB h.h1 h.h2 (D'.lw h.wp hp)⟩
theorem Wd.reb (h : Wd w0 wr p d R b l seg) (hb : Bs wr K A c m) (hK : K ≤ wr.heap.size) (hl : m.length ≤ 1048576) (hs2 : seg < 9223372036854775807) (hs : ((b.length + (18 + m.length) : Nat) : Int) ≤ R) :
    Calls Try.prog 20 #[wP p, .slice A m.length c] wr fun e w' => e = .returned (.int .i64 0) ∧ Wd w0 w' p d R (framesB m []) (18 + m.length) (seg + 1) := by
  obtain ⟨B, D, hB, hp⟩ := h.ex
  have h1 := h.h1
  have e : (framesB m []).length = 18 + m.length := by rw [framesB_len]; simp [recsB]; omega
  refine (wreb_any h.wp hp D (by omega) h.h2 hb hK hl (sd_reb h.h1 hs2 (by rw [e]; exact hs))).mono ?_
  rintro e' w' ⟨rfl, L⟩
  rw [e] at L
  exact ⟨rfl, h.lw hB (by omega) (by omega) L⟩
theorem Wd.open_ {base : List UInt8} {rs : List (List UInt8)} (h : Wd w0 wr p d R b l seg) (hr : readB b = some (base, rs, b.length)) :
    Calls Try.prog 13 #[dP d] wr fun e w' => Below wr.heap.size wr w' ∧ ∃ p' A1 c1 A2 c2, e = .returned (.tuple #[wP p', .slice A1 base.length c1, .slice A2 rs.length c2, .int .i64 0]) ∧ Wd w0 w' p' d R b l seg ∧ Ob w' wr.heap.size (.slice A1 base.length c1) base ∧ Rw w' wr.heap.size 30 (.slice A2 rs.length c2) rs := by
  obtain ⟨B, D, hB, hp⟩ := h.ex
  refine (open_alone (x := ⟨seg, b, l, true⟩) (base := base) (rs := rs) (n := b.length) D (by simp [newA, hr]) (by simp [alB])).mono ?_
  rintro e w' ⟨hb, p', A1, c1, A2, c2, rfl, W', hp1, hp2, ob, rw_⟩
  have hs := h.bel.size
  refine ⟨hb, p', A1, c1, A2, c2, rfl, ⟨⟨B, D.below hb, hB, fun h => by have := D.bt _ h; omega⟩, ?_, by omega, h.h1, h.h2, h.bel.trans (hb.mono hs)⟩, ob, rw_⟩
  have e9 : grA [⟨seg, b, l, true⟩] = seg := rfl
  rwa [e9] at W'
theorem Wd.crash0 (h : Wd w0 wr p d R b l seg) : Calls Try.prog 24 #[dP d, .slice none 0 0] wr fun e w' => e = .returned (.int .i64 0) ∧ Wd w0 w' p d R (b.take (min l b.length)) (min l b.length) seg := by
  obtain ⟨B, D, hB, hp⟩ := h.ex
  have e9 : crashD (Sd R b l seg) [] = Sd R (b.take (min l b.length)) (min l b.length) seg := by simp [crashD, crashA, tornA, kq]
  refine (crash_DD (ks := []) D (Sr.none_ _ _) (Nat.zero_le _) rfl (fun h => absurd h (by simp))).mono ?_
  rintro e w' ⟨rfl, B', D', t, hB'⟩
  rw [e9] at D'
  exact ⟨rfl, h.lw hB h.h1 h.h2 (Dw.lw ⟨B', D', t, hB'⟩ h.wp hp)⟩
end
theorem Rw.addr {w : World} {K n c : Nat} {T : TypeId} {A : Option Addr} {ps : List (List UInt8)} (h : Rw w K T (.slice A n c) ps) (hl : 0 < ps.length) : ∃ g, A = some ⟨g, 0, none⟩ := by
  obtain ⟨xs, ho, _⟩ := h
  rcases ho.2 with ⟨_, h0⟩ | ⟨g, cap', cur, he, _⟩
  · omega
  · injection he with h1 _ _
    exact ⟨g, h1⟩
theorem Rw.slot {w : World} {K n c g i : Nat} {T : TypeId} {ps : List (List UInt8)} {q : List UInt8} (h : Rw w K T (.slice (some ⟨g, 0, none⟩) n c) ps) (hi : ps[i]? = some q) : ∃ A c', w.cell? ⟨g, i, none⟩ = some (.slice A q.length c') ∧ Bs w w.heap.size A c' q := by
  obtain ⟨xs, ho, hx⟩ := h
  obtain ⟨A, c', h2, h3, _⟩ := hx i q hi
  have h1 := ho.cells (g := g) rfl _ _ h2
  have e : (⟨g, 0, none⟩ : Addr).add i = ⟨g, i, none⟩ := by unfold Addr.add; split <;> simp_all
  rw [e] at h1
  exact ⟨A, c', h1, h3⟩
theorem frames0 : (framesB [] []).length = 18 := by rw [framesB_len]; rfl
/-- A new disk's log. -/
theorem open_new {w0 w1 : World} {B : Nat → Prop} {d : Nat} {R : Int} (D : DD w1 B d ⟨R, -1, false, []⟩) (hB : ∀ k, B k → w0.heap.size ≤ k) (hb : Below w0.heap.size w0 w1) (hR : 18 ≤ R) :
    Calls Try.prog 13 #[dP d] w1 fun e w' => ∃ p A1 c1 A2 c2, e = .returned (.tuple #[wP p, .slice A1 0 c1, .slice A2 0 c2, .int .i64 0]) ∧ Wd w0 w' p d R (framesB [] []) 18 1 := by
  have hl := fresh_lay (R := R) (q := framesB [] []) (by rw [frames0]; exact hR)
  rw [frames0] at hl
  refine (open_lay (r := 0) D rfl rfl hl).mono ?_
  rintro e w' (⟨_, p, B', ⟨A1, c1, A2, c2, rfl, W', hp1, hp2, ob, rw_⟩, D', t, hB', hp'⟩ | ⟨h, _⟩)
  · have hs := hb.size
    exact ⟨p, A1, c1, A2, c2, rfl, ⟨B', D', fun k hk => (hB' k hk).elim (hB k) fun h => by omega, hp'⟩, W', by omega, by decide, by decide, t.bel hb hB (Nat.le_refl _)⟩
  · exact absurd rfl h
set_option maxRecDepth 100000 in
set_option maxHeartbeats 6400000 in
theorem wawake_any (w : World) : Calls Try.prog 12 #[] w (Ok0 w) := by
  have kc := fun (w : World) (C : Array Value) (n c : Nat) => Lib.run_convert_bytes_const (P := Try.prog) w 30 5 C n c Try.underlying30 Try.underlying5
  obtain ⟨F, hF⟩ : ∃ F, F = framesB [] [] := ⟨_, rfl⟩
  have hFl : F.length = 18 := by rw [hF, frames0]
  obtain ⟨S1, hS1⟩ : ∃ S1, S1 = sealB 1 [97] := ⟨_, rfl⟩
  have hS1l : S1.length = 10 := by rw [hS1, sealB_length]; rfl
  obtain ⟨S2, hS2⟩ : ∃ S2, S2 = sealB 1 [98] := ⟨_, rfl⟩
  have hS2l : S2.length = 10 := by rw [hS2, sealB_length]; rfl
  have hrd : readB (F ++ S1) = some ([], [[97]], (F ++ S1).length) := by
    have h := readB_frames [] [] [[97]] (by simp) (fun x hx => (by cases hx)) (fun x hx => (by simp at hx; subst hx; decide))
    have e : recsB [[97]] = S1 := by rw [hS1]; simp [recsB]
    rw [e, ← hF] at h
    exact h
  have htk : (F ++ S1 ++ S2).take (min (F ++ S1).length (F ++ S1 ++ S2).length) = F ++ S1 := by
    rw [show min (F ++ S1).length (F ++ S1 ++ S2).length = (F ++ S1).length by simp only [List.length_append]; omega, List.take_left]
  have hmn : min (F ++ S1).length (F ++ S1 ++ S2).length = (F ++ S1).length := by simp only [List.length_append]; omega
  have HF := Lib.hid hF
  have HS1 := Lib.hid hS1
  have HS2 := Lib.hid hS2
  have HFl := Lib.hid hFl
  have HS1l := Lib.hid hS1l
  have HS2l := Lib.hid hS2l
  have HRD := Lib.hid hrd
  have HTK := Lib.hid htk
  have HMN := Lib.hid hmn
  clear hF hFl hS1 hS1l hS2 hS2l hrd htk hmn
  go_enter Try.func12, Try.ntmps12
  go_wp2_with fail
  refine (new_DD 1000 (by decide) (by decide) w).mono ?_
  rintro e w1 ⟨rfl, ⟨B1, D1, hB1⟩, b1⟩
  generalize w1.heap.size + 1 = d0 at *
  generalize hd : w.heap.size + 1 = d at *
  go_wp2_with fail
  refine (open_new D1 hB1 b1 (by decide)).mono ?_
  rintro e w2 ⟨p, A1, c1, A2, c2, rfl, W2⟩
  rw [← HF.out] at W2
  have z2 := W2.lt
  have HW2 := Lib.hid W2
  clear W2 D1 hB1 b1
  go_wp2_with fail
  refine ((HW2.out.below ((Below.refl _ _).alloc (Nat.le_refl _) _)).app (K := w2.heap.size + 1) (m := [97]) (lit_bsF w2 _ _ _ rfl #[.int .u8 97] 1 [97] rfl rfl (by decide)) (by simp) (by decide) (by have := HFl.out; simp; omega)).mono ?_
  rintro e w3 ⟨rfl, W3⟩
  rw [← HS1.out] at W3
  have z3 := W3.lt
  have HW3 := Lib.hid W3
  clear W3 HW2 z2
  go_wp2_with fail
  refine HW3.out.sync.mono ?_
  rintro e w4 ⟨rfl, W4⟩
  have z4 := W4.lt
  have HW4 := Lib.hid W4
  clear W4 HW3 z3
  go_wp2_with fail
  refine ((HW4.out.below ((Below.refl _ _).alloc (Nat.le_refl _) _)).app (K := w4.heap.size + 1) (m := [98]) (lit_bsF w4 _ _ _ rfl #[.int .u8 98] 1 [98] rfl rfl (by decide)) (by simp) (by decide) (by have := HFl.out; have := HS1l.out; simp; omega)).mono ?_
  rintro e w5 ⟨rfl, W5⟩
  rw [← HS2.out] at W5
  have z5 := W5.lt
  have HW5 := Lib.hid W5
  clear W5 HW4 z4
  go_wp2_with fail
  refine HW5.out.crash0.mono ?_
  rintro e w6 ⟨rfl, W6⟩
  rw [HTK.out, HMN.out] at W6
  have z6 := W6.lt
  have HW6 := Lib.hid W6
  clear W6 HW5 z5
  go_wp2_with fail
  refine (HW6.out.open_ HRD.out).mono ?_
  rintro e w7 ⟨b7, p7, A5, c5, A6, c6, rfl, W7, ob7, rw7⟩
  obtain ⟨g, rfl⟩ := rw7.addr (by simp)
  obtain ⟨A8, c8, x8, bs8⟩ := rw7.slot (i := 0) (q := [97]) rfl
  have hc6 := rw7.pr.1.le
  have hs : (convert 30 9 (.slice A8 1 c8)).run Try.prog w7 = .ok (.string (strB [97])) w7 := bs_str bs8 rfl
  have hq : ((strB [97]).toList == [97]) = true := by decide +kernel
  have HB := Lib.hid W7.bel
  simp only [List.length_cons, List.length_nil, Nat.zero_add] at hc6 x8 ⊢
  clear W7 ob7 rw7 bs8 b7 HW6 z6
  go_wp2_with fail
  go_ret
  exact ⟨rfl, HB.out⟩
end Go.Proofs.Ytpckbbjlihhpdaa
namespace Go.Proofs.Ytpckbbjlihhpdaa
open Go.RowKit

/-- v is a slice of the call's own, all of whose blocks lie in Z, that holds the pieces ps. -/
def Rz (w : World) (Z : Nat → Prop) (T : TypeId) (v : Value) (ps : List (List UInt8)) : Prop :=
  ∃ xs : List Value, w.ownsRow 0 T 1 v ps.length xs ∧ (∀ g, v.ownBlock = some g → Z g) ∧ ∀ (i : Nat) p, ps[i]? = some p → ∃ A cap, xs[i]? = some (.slice A p.length cap) ∧ Bs w w.heap.size A cap p ∧ ∀ ad : Addr, A = some ad → 0 < p.length → Z ad.block ∧ v.ownBlock ≠ some ad.block
section
variable {w w' : World} {Z Z' P : Nat → Prop} {cap : Nat} {A : Option Addr} {ps : List (List UInt8)} {T : TypeId} {v : Value}
theorem Rz.empty (w : World) (Z : Nat → Prop) (T : TypeId) : Rz w Z T (.slice none 0 0) [] := ⟨[], World.ownsRow_nil w 0 _ _, fun g h => by simp [Value.ownBlock] at h, fun i p h => by simp at h⟩
theorem Rz.lt (h : Rz w Z T v ps) : ∀ g, v.ownBlock = some g → g < w.heap.size := by
  obtain ⟨xs, ho, _, _⟩ := h
  exact fun g hg => (World.ownsRow.lt ho g hg).2
theorem Rz.tn (h : Rz w Z T v ps) (t : Tn P w w') (hn : ∀ k, Z k → ¬ P k) : Rz w' Z T v ps := by
  obtain ⟨xs, ho, hz, hx⟩ := h
  have hlt := World.ownsRow.lt ho
  refine ⟨xs, ?_, hz, fun i p hi => ?_⟩
  · rcases ho.2 with ⟨he, h0⟩ | ⟨g, cap', cur, he, hb', hg, hrest⟩
    · exact ⟨ho.1, .inl ⟨he, h0⟩⟩
    · subst he
      exact ⟨ho.1, .inr ⟨g, cap', cur, rfl, hb', (t.block g (hlt g rfl).2 (hn g (hz g rfl))).trans hg, hrest⟩⟩
  · obtain ⟨A, c, h2, h3, h4⟩ := hx i p hi
    exact ⟨A, c, h2, (t.bs h3 fun hl ad e => hn _ (h4 ad e hl).1).more t.size, h4⟩
theorem Rz.below (h : Rz w Z T v ps) (hb : Below w.heap.size w w') : Rz w' Z T v ps := h.tn (Tn.ofNew (P := fun _ => False) hb) fun _ _ h => h
theorem Rz.mono (h : Rz w Z T v ps) (hz' : ∀ k, k < w.heap.size → Z k → Z' k) : Rz w Z' T v ps := by
  obtain ⟨xs, ho, hz, hx⟩ := h
  refine ⟨xs, ho, fun g hg => hz' g (World.ownsRow.lt ho g hg).2 (hz g hg), fun i p hi => ?_⟩
  obtain ⟨A, c, h2, h3, h4⟩ := hx i p hi
  refine ⟨A, c, h2, h3, fun ad e hl => ⟨hz' _ ?_ (h4 ad e hl).1, (h4 ad e hl).2⟩⟩
  obtain ⟨ad', e', hlt, _⟩ := h3.at_ hl
  rw [e] at e'
  cases e'
  exact hlt
theorem Rz.rw_ (h : Rz w Z T v ps) : Rw w 0 T v ps := by
  obtain ⟨xs, ho, hz, hx⟩ := h
  exact ⟨xs, ho, fun i p hi => by
    obtain ⟨A, c, h2, h3, h4⟩ := hx i p hi
    exact ⟨A, c, h2, h3, fun ad e hl => ⟨Nat.zero_le _, (h4 ad e hl).2⟩⟩⟩
/-- One piece more, at the law that append obeys. -/
theorem Rz.push {v' : Value} {w1 : World} {p : List UInt8} {B : Option Addr} {c : Nat} {xs : List Value} (h : w.ownsRow 0 T 1 v ps.length xs)
    (hx : ∀ (i : Nat) p, ps[i]? = some p → ∃ A cap, xs[i]? = some (.slice A p.length cap) ∧ Bs w w.heap.size A cap p ∧ ∀ ad : Addr, A = some ad → 0 < p.length → Z ad.block ∧ v.ownBlock ≠ some ad.block)
    (hb : Bs w w.heap.size B c p) (hne : ∀ ad : Addr, B = some ad → 0 < p.length → Z ad.block ∧ v.ownBlock ≠ some ad.block)
    (hown : w1.ownsRow 0 T 1 v' (ps.length + 1) (xs ++ [.slice B p.length c])) (hz : ∀ g, v.ownBlock = some g → Z g) (hnz : ∀ g, w.heap.size ≤ g → Z g) (hgrow : w.grownBy w1 v.ownBlock) (hat : ∀ g, v'.ownBlock = some g → v.ownBlock = some g ∨ w.heap.size ≤ g) : Rz w1 Z T v' (ps ++ [p]) := by
  have hxl : xs.length = ps.length := by have := h.1; omega
  have far : ∀ {A : Option Addr} {cap : Nat} {q : List UInt8}, Bs w w.heap.size A cap q → (∀ ad : Addr, A = some ad → 0 < q.length → Z ad.block ∧ v.ownBlock ≠ some ad.block) → (Bs w1 w1.heap.size A cap q ∧ ∀ ad : Addr, A = some ad → 0 < q.length → Z ad.block ∧ v'.ownBlock ≠ some ad.block) := fun {A cap q} hq hn => by
    refine ⟨⟨hq.le, hq.max, hq.nil, fun hl => ?_⟩, fun ad e hl => ⟨(hn ad e hl).1, fun he => ?_⟩⟩
    · obtain ⟨ad, e, hlt, hc⟩ := hq.at_ hl
      exact ⟨ad, e, Nat.lt_of_lt_of_le hlt hgrow.size, fun j u hu => (hgrow.cell_far _ (by rw [block_of_add]; exact hlt) (by rw [block_of_add]; exact fun e' => (hn ad e hl).2 e'.symm)).trans (hc j u hu)⟩
    · obtain ⟨ad', e', hlt, _⟩ := hq.at_ hl
      rw [e] at e'
      cases e'
      rcases hat _ he with h' | h'
      · exact (hn ad e hl).2 h'
      · omega
  refine ⟨xs ++ [.slice B p.length c], by rw [List.length_append]; exact hown, fun g hg => (hat g hg).elim (hz g) (hnz g), fun i p' hi => ?_⟩
  rcases Nat.lt_or_ge i ps.length with hlt | hge
  · rw [List.getElem?_append_left hlt] at hi
    obtain ⟨A, cp, h2, h3, h4⟩ := hx i p' hi
    obtain ⟨f1, f2⟩ := far h3 h4
    rw [List.getElem?_append_left (by omega)]
    exact ⟨A, cp, h2, f1, f2⟩
  · have hil : i = ps.length := by
      have := (List.getElem?_eq_some_iff.1 hi).1
      simp at this; omega
    subst hil
    simp at hi
    subst hi
    obtain ⟨f1, f2⟩ := far hb hne
    rw [List.getElem?_append_right (by omega), hxl]
    exact ⟨B, c, by simp, f1, f2⟩
end

section
variable {P : Program}
theorem wpList_pushZ {T ST : TypeId} (hund : P.underlying ST = some (.slice T)) {z : Value} (hinfo : (P.info? T).map (fun i => (i.zero, i.size, i.bytes)) = some (some z, 1, 24)) (hz : z.cells.size = 1)
    {ops : Array Oper} {rest : List Oper} {o : Oper} {a : Act} {Q : Exit → Act → World → Prop} (w : World) (hgd : o.guard = none) (s x : Operand)
    (ho : o.op = .call { callee := .builtin .append, args := #[s, x], argTypes := #[ST, ST] }) (Z : Nat → Prop) (v : Value) (ps : List (List UInt8)) (hs : a.eval s = v) (hown : Rz w Z T v ps)
    (p : List UInt8) (B : Option Addr) (c H : Nat) (hH : w.heap.size = H) (hxx : a.eval x = .slice (some ⟨H, 0, none⟩) 1 1) (hb : Bs w w.heap.size B c p) (hne : ∀ ad : Addr, B = some ad → 0 < p.length → Z ad.block ∧ v.ownBlock ≠ some ad.block)
    (N : Nat) (hN : ps.length + 1 = N) (hsz : N * 24 ≤ 140737488355328) (hnz : ∀ g, w.heap.size ≤ g → Z g)
    (h : ∀ A' cap' w', Rz w' Z T (.slice A' N cap') (ps ++ [p]) → w.grownBy w' v.ownBlock → (∀ g, (Value.slice A' N cap').ownBlock = some g → v.ownBlock = some g ∨ w.heap.size ≤ g) → wpList P ops Q rest (a.put o.dst (.slice A' N cap')) w') :
    wpList P ops Q (o :: rest) a (w.alloc (.cells #[.slice B p.length c] T)) := by
  subst hH hN
  obtain ⟨xs, hx1, hz9, hx2⟩ := hown
  obtain ⟨i0, hi, hz0, hz1, hz2⟩ := info_parts hinfo
  refine wpList_append_lies _ hgd s x ST ho 0 T i0 z 1 24 hund hi hz0 hz1 hz2 hz (by decide) v ps.length xs hs (World.ownsRow.alloc hx1 _) ⟨w.heap.size, 0, none⟩ 1 1 [.slice B p.length c] hxx rfl
    (World.news_of_block (heap_alloc_new w _)) (by intro u hu; simp at hu; subst hu; rfl) (by omega) (by unfold maxLen; omega) hsz (Nat.zero_le _) _ rfl ?_
  intro g cap w1 hown1 hgrow1 hat1 hlt1
  have hg : w.grownBy w1 v.ownBlock := ⟨hgrow1.os, hgrow1.tape, hgrow1.output, Nat.le_trans (by simp) hgrow1.size, fun i hi hne => (hgrow1.block i (by simp; omega) hne).trans (Below.heap_alloc w _ i hi)⟩
  have hat2 : ∀ g', (Value.slice (some ⟨g, 0, none⟩) (ps.length + 1) cap).ownBlock = some g' → v.ownBlock = some g' ∨ w.heap.size ≤ g' := fun g' hg' => by
    have : g' = g := by simpa [Value.ownBlock] using hg'.symm
    subst this
    rcases hat1 with h1 | h1
    · exact .inl h1
    · right; rw [h1]; simp
  exact h _ _ w1 (Rz.push hx1 hx2 hb hne hown1 hz9 hnz hg hat2) hg hat2
end
end Go.Proofs.Ytpckbbjlihhpdaa
namespace Go.Proofs.Ytpckbbjlihhpdaa
open Go.RowKit Go.BigFrame

set_option maxRecDepth 100000 in
set_option maxHeartbeats 3200000 in
theorem wsame_any {K K' c c' : Nat} {A A' : Option Addr} {rs : List (List UInt8)} {w : World} (h : Rr w K A c rs) (h' : Rr w K' A' c' rs) (hK : K ≤ w.heap.size) (hK' : K' ≤ w.heap.size) :
    Calls Try.prog 15 #[.slice A rs.length c, .slice A' rs.length c'] w fun e w' => e = .returned (.bool true) ∧ Below w.heap.size w w' := by
  have H1 := Lib.hid h
  have H2 := Lib.hid h'
  have hc := h.le
  have hm := h.max
  have hc' := h'.le
  have hm' := h'.max
  unfold maxLen at hm hm'
  clear h h'
  go_enter Try.func15, Try.ntmps15
  go_wp2
  go_loopw [5] (fun iv wr => ∃ i : Nat, iv = .int .i64 (i : Int) ∧ i ≤ rs.length ∧ Hid (Below w.heap.size w wr)) (fun iv _ => rs.length - (intOf iv).toNat)
  case atStart => exact ⟨0, rfl, Nat.zero_le _, Lib.hid (Below.refl _ _)⟩
  case round =>
    obtain ⟨i, rfl, hi, HB⟩ := hrel
    rename World => wr
    by_cases hlt : i < rs.length
    · obtain ⟨ad, e1, _, A1, c1, x1, b1⟩ := (H1.out.below (HB.out.mono hK)).get hlt
      obtain ⟨ad', e2, _, A2, c2, x2, b2⟩ := (H2.out.below (HB.out.mono hK')).get hlt
      subst e1 e2
      have i1 : (i : Int) < rs.length := by omega
      have hl1 := b1.le
      have hl2 := b2.le
      generalize rs[i] = q at x1 x2 b1 b2 hl1 hl2
      have q1 := fun k => bs_str (b1.drewN k) (rfl : q.length = q.length)
      have q2 := fun k => bs_str (b2.drewN k) (rfl : q.length = q.length)
      have HD : Hid (∀ k, Below w.heap.size w (wr.drewN k)) := Lib.hid fun k => HB.out.trans ⟨rfl, rfl, rfl, Nat.le_refl _, fun _ _ => rfl⟩
      clear b1 b2
      go_wp2_with fail
      go_big_quiet (fail)
      go_wp2
      go_roundw
      case rel => exact ⟨i + 1, by go_num, by omega, Lib.hid (HD.out _)⟩
      case measure => simp [intOf]; omega
    · obtain rfl : i = rs.length := by omega
      have HB2 := Lib.hid HB.out
      go_wp2
      go_ret
      exact ⟨rfl, HB2.out⟩
end Go.Proofs.Ytpckbbjlihhpdaa
namespace Go.Proofs.Ytpckbbjlihhpdaa
open Go.RowKit Go.BigFrame

/-- The log at p over the disk at d, and a list of records in blocks that are none of theirs. -/
structure Wz (w0 wr : World) (p d : Nat) (R : Int) (b : List UInt8) (l : Nat) (seg : Int) (Aa : Option Addr) (ca : Nat) (all : List (List UInt8)) : Prop where
  ex : ∃ B, DD wr B d (Sd R b l seg) ∧ (∀ k, B k → w0.heap.size ≤ k) ∧ ¬ B p ∧ Rz wr (fun k => w0.heap.size ≤ k ∧ ¬ B k ∧ k ≠ p) 30 (.slice Aa all.length ca) all
  wp : Wp wr p d seg
  hp : w0.heap.size ≤ p
  h1 : 1 ≤ seg
  h2 : seg ≤ 9223372036854775807
  bel : Below w0.heap.size w0 wr
section
variable {w0 wr w' w3 w5 : World} {B : Nat → Prop} {p d c K l : Nat} {R seg : Int} {b m : List UInt8} {A Aa A5 : Option Addr} {ca c5 : Nat} {all : List (List UInt8)}
theorem Wz.lt (h : Wz w0 wr p d R b l seg Aa ca all) : p < wr.heap.size := World.block_lt_of_cell? _ _ h.wp.c0
theorem Wz.below (h : Wz w0 wr p d R b l seg Aa ca all) (hb : Below wr.heap.size wr w') : Wz w0 w' p d R b l seg Aa ca all := by
  obtain ⟨B, D, hB, hp, rz⟩ := h.ex
  exact ⟨⟨B, D.below hb, hB, hp, rz.below hb⟩, h.wp.below hb, h.hp, h.h1, h.h2, h.bel.trans (hb.mono h.bel.size)⟩
/-- Behind a call of the log's. -/
theorem Wz.lw {b2 : List UInt8} {l2 : Nat} {seg2 : Int} (h : Wz w0 wr p d R b l seg Aa ca all) (D : DD wr B d (Sd R b l seg)) (hB : ∀ k, B k → w0.heap.size ≤ k) (rz : Rz wr (fun k => w0.heap.size ≤ k ∧ ¬ B k ∧ k ≠ p) 30 (.slice Aa all.length ca) all) (h1 : 1 ≤ seg2) (h2 : seg2 ≤ 9223372036854775807) (o : Obj) (L : Lw (wr.alloc o) B p d seg2 (Sd R b2 l2 seg2) w') :
    Wz w0 w' p d R b2 l2 seg2 Aa ca all ∧ Tn (fun k => k < wr.heap.size) (wr.alloc o) w' := by
  obtain ⟨B', D', t, hB', W', hp'⟩ := L
  have hs := h.bel.size
  have hpl := h.lt
  have hal : (wr.alloc o).heap.size = wr.heap.size + 1 := by simp
  have hbl : Below w0.heap.size w0 (wr.alloc o) := h.bel.alloc hs o
  refine ⟨⟨⟨B', D', fun k hk => (hB' k hk).elim (hB k) fun h => by omega, hp', ?_⟩, W', h.hp, h1, h2, t.bel hbl (fun k hk => hk.elim (hB k) fun e => by rw [e]; exact h.hp) (Nat.le_refl _)⟩, t.mono fun k _ hk => hk.elim (D.bt k) fun e => by rw [e]; exact hpl⟩
  have rz1 : Rz (wr.alloc o) (fun k => w0.heap.size ≤ k ∧ ¬ B k ∧ k ≠ p) 30 (.slice Aa all.length ca) all := rz.below ((Below.refl _ _).alloc (Nat.le_refl _) o)
  have rz2 := (rz1.mono (Z' := fun k => k < wr.heap.size + 1 ∧ w0.heap.size ≤ k ∧ ¬ B k ∧ k ≠ p) fun k hk hz => ⟨by omega, hz⟩).tn t fun k hz hk => hk.elim hz.2.2.1 hz.2.2.2
  exact rz2.mono fun k _ hz => ⟨hz.2.1, fun hb => (hB' k hb).elim hz.2.2.1 fun h => by omega, hz.2.2.2⟩
theorem Wz.app (h : Wz w0 wr p d R b l seg Aa ca all) (o : Obj) (hb : Bs (wr.alloc o) K A c m) (hK : K ≤ wr.heap.size) (hl : m.length ≤ 1048576) (hs : ((b.length + (9 + m.length) : Nat) : Int) ≤ R) :
    Calls Try.prog 16 #[wP p, .slice A m.length c] (wr.alloc o) fun e w' => e = .returned (.int .i64 0) ∧ Wz w0 w' p d R (b ++ sealB 1 m) l seg Aa ca all ∧ Tn (fun k => k < wr.heap.size) (wr.alloc o) w' := by
  obtain ⟨B, D, hB, hp, rz⟩ := h.ex
  have hbo : Below wr.heap.size wr (wr.alloc o) := (Below.refl _ _).alloc (Nat.le_refl _) o
  have W1 := h.wp.below hbo
  refine (wapp_any W1 (D.alloc o) h.h2 hb (by simp; omega) hl (sd_app h.h1 (by rw [sealB_length]; exact hs))).mono ?_
  rintro e w' ⟨rfl, D'⟩
  exact ⟨rfl, h.lw D hB rz h.h1 h.h2 o (D'.lw W1 hp)⟩
theorem Wz.sync (h : Wz w0 wr p d R b l seg Aa ca all) (o : Obj) : Calls Try.prog 18 #[wP p] (wr.alloc o) fun e w' => e = .returned (.int .i64 0) ∧ Wz w0 w' p d R b b.length seg Aa ca all ∧ Tn (fun k => k < wr.heap.size) (wr.alloc o) w' := by
  obtain ⟨B, D, hB, hp, rz⟩ := h.ex
  have h1 := h.h1
  have W1 := h.wp.below ((Below.refl _ _).alloc (Nat.le_refl _) o)
  refine (wsync_any W1 (D.alloc o) (by omega) h.h2 sd_sync).mono ?_
  rintro e w' ⟨rfl, D'⟩
  exact ⟨rfl, h.lw D hB rz h.h1 h.h2 o (D'.lw W1 hp)⟩
theorem Wz.reb (h : Wz w0 wr p d R b l seg Aa ca all) (o : Obj) (hb : Bs (wr.alloc o) K A c m) (hK : K ≤ wr.heap.size) (hl : m.length ≤ 1048576) (hs2 : seg < 9223372036854775807) (hs : ((b.length + (18 + m.length) : Nat) : Int) ≤ R) :
    Calls Try.prog 20 #[wP p, .slice A m.length c] (wr.alloc o) fun e w' => e = .returned (.int .i64 0) ∧ Wz w0 w' p d R (framesB m []) (18 + m.length) (seg + 1) Aa ca all ∧ Tn (fun k => k < wr.heap.size) (wr.alloc o) w' := by
  obtain ⟨B, D, hB, hp, rz⟩ := h.ex
  have h1 := h.h1
  have e : (framesB m []).length = 18 + m.length := by rw [framesB_len]; simp [recsB]; omega
  have W1 := h.wp.below ((Below.refl _ _).alloc (Nat.le_refl _) o)
  refine (wreb_any W1 hp (D.alloc o) (by omega) h.h2 hb (by simp; omega) hl (sd_reb h.h1 hs2 (by rw [e]; exact hs))).mono ?_
  rintro e' w' ⟨rfl, L⟩
  rw [e] at L
  exact ⟨rfl, h.lw D hB rz (by omega) (by omega) o L⟩
theorem Wz.open_ {base : List UInt8} {rs : List (List UInt8)} (h : Wz w0 wr p d R b l seg Aa ca all) (hr : readB b = some (base, rs, b.length)) :
    Calls Try.prog 13 #[dP d] wr fun e w' => Below wr.heap.size wr w' ∧ ∃ p' A1 c1 A2 c2, e = .returned (.tuple #[wP p', .slice A1 base.length c1, .slice A2 rs.length c2, .int .i64 0]) ∧ Wz w0 w' p' d R b l seg Aa ca all ∧ Ob w' wr.heap.size (.slice A1 base.length c1) base ∧ Rw w' wr.heap.size 30 (.slice A2 rs.length c2) rs := by
  obtain ⟨B, D, hB, hp, rz⟩ := h.ex
  refine (open_alone (x := ⟨seg, b, l, true⟩) (base := base) (rs := rs) (n := b.length) D (by simp [newA, hr]) (by simp [alB])).mono ?_
  rintro e w' ⟨hb, p', A1, c1, A2, c2, rfl, W', hp1, hp2, ob, rw_⟩
  have hs := h.bel.size
  have e9 : grA [⟨seg, b, l, true⟩] = seg := rfl
  rw [e9] at W'
  have rz2 := (rz.mono (Z' := fun k => k < wr.heap.size ∧ w0.heap.size ≤ k ∧ ¬ B k ∧ k ≠ p) fun k hk hz => ⟨hk, hz⟩).below hb
  exact ⟨hb, p', A1, c1, A2, c2, rfl, ⟨⟨B, D.below hb, hB, fun h => by have := D.bt _ h; omega, rz2.mono fun k _ hz => ⟨hz.2.1, hz.2.2.1, fun e => by omega⟩⟩, W', by omega, h.h1, h.h2, h.bel.trans (hb.mono hs)⟩, ob, rw_⟩
/-- Records once more. -/
theorem Wz.all_ {A2 : Option Addr} {c2 : Nat} {all2 : List (List UInt8)} (h : Wz w0 wr p d R b l seg Aa ca all) (D : DD wr B d (Sd R b l seg)) (hB : ∀ k, B k → w0.heap.size ≤ k) (hp : ¬ B p) (t : Tn (fun k => (Value.slice Aa all.length ca).ownBlock = some k) wr w5) (hz : ∀ g, (Value.slice Aa all.length ca).ownBlock = some g → w0.heap.size ≤ g ∧ ¬ B g ∧ g ≠ p) (rz5 : Rz w5 (fun k => w0.heap.size ≤ k ∧ ¬ B k ∧ k ≠ p) 30 (.slice A2 all2.length c2) all2) : Wz w0 w5 p d R b l seg A2 c2 all2 :=
  ⟨⟨B, D.tn t fun k hk e => (hz k e).2.1 hk, hB, hp, rz5⟩, h.wp.tn t fun e => (hz p e).2.2 rfl, h.hp, h.h1, h.h2, t.bel h.bel (fun k hk => (hz k hk).1) (Nat.le_refl _)⟩
theorem Wz.none_ (h : Wz w0 wr p d R b l seg Aa ca all) : Wz w0 wr p d R b l seg none 0 [] := by
  obtain ⟨B, D, hB, hp, rz⟩ := h.ex
  exact ⟨⟨B, D, hB, hp, Rz.empty _ _ _⟩, h.wp, h.hp, h.h1, h.h2, h.bel⟩
theorem Wz.rr (h : Wz w0 wr p d R b l seg Aa ca all) : Rr wr wr.heap.size Aa ca all := by
  obtain ⟨B, D, hB, hp, rz⟩ := h.ex
  exact rz.rw_.pr.1
end
theorem Wd.wz {w0 wr : World} {p d l : Nat} {R seg : Int} {b : List UInt8} (h : Wd w0 wr p d R b l seg) : Wz w0 wr p d R b l seg none 0 [] := by
  obtain ⟨B, D, hB, hp⟩ := h.ex
  exact ⟨⟨B, D, hB, hp, Rz.empty _ _ _⟩, h.wp, h.hp, h.h1, h.h2, h.bel⟩
end Go.Proofs.Ytpckbbjlihhpdaa
namespace Go.Proofs.Ytpckbbjlihhpdaa
open Go.ChangeShapes Go.WideShapes Go.ChangeAt Go.RowKit Go.Deep Go.Joins

structure Op9 where
  k : Int
  n : Int
  p : List UInt8
  ks : List Int
instance : Inhabited Op9 := ⟨⟨0, 0, [], []⟩⟩
/-- The slice at A with capacity cap reads as the steps os, in memory below block K. -/
structure Os9 (w : World) (K : Nat) (A : Option Addr) (cap : Nat) (os : List Op9) : Prop where
  le : os.length ≤ cap
  max : cap ≤ maxLen
  nil : A = none → cap = 0
  at_ : 0 < os.length → ∃ ad : Addr, A = some ad ∧ ad.block < K ∧ ∀ (i : Nat) (o : Op9), os[i]? = some o → w.cell? (ad.add (i * 4)) = some (.int .i64 o.k) ∧ w.cell? (ad.add (i * 4 + 2)) = some (.int .i64 o.n) ∧ (-9223372036854775808 ≤ o.n ∧ o.n ≤ 9223372036854775807) ∧
    (∃ A' c', w.cell? (ad.add (i * 4 + 1)) = some (.slice A' o.p.length c') ∧ Bs w K A' c' o.p) ∧ ∃ A' c', w.cell? (ad.add (i * 4 + 3)) = some (.slice A' o.ks.length c') ∧ Sr encI 1 w K A' c' o.ks

section
variable {w w' : World} {K K' cap : Nat} {A : Option Addr} {os : List Op9}
theorem Os9.keep (h : Os9 w K A cap os) (hk : ∀ p : Addr, p.block < K → w'.cell? p = w.cell? p) : Os9 w' K A cap os :=
  ⟨h.le, h.max, h.nil, fun hn => by
    obtain ⟨ad, e, hb, hc⟩ := h.at_ hn
    refine ⟨ad, e, hb, fun i o hi => ?_⟩
    obtain ⟨h1, h2, h3, ⟨A', c', h4, h5⟩, A2, c2, h6, h7⟩ := hc i o hi
    have hk' := fun j => hk (ad.add j) (by rw [block_of_add]; exact hb)
    exact ⟨(hk' _).trans h1, (hk' _).trans h2, h3, ⟨A', c', (hk' _).trans h4, h5.keep hk⟩, A2, c2, (hk' _).trans h6, h7.keep hk⟩⟩
theorem Os9.below (h : Os9 w K A cap os) (hb : Below K w w') : Os9 w' K A cap os := h.keep fun _ hp => hb.cell hp
/-- The step's cells as the walk spells them. -/
structure At9 (w : World) (K : Nat) (ad : Addr) (o : Op9) (A1 : Option Addr) (c1 : Nat) (A2 : Option Addr) (c2 : Nat) : Prop where
  lt : ad.block < K
  x0 : w.cell? ad = some (.int .i64 o.k)
  x1 : w.cell? ⟨ad.block, ad.off + 2, none⟩ = some (.int .i64 o.n)
  x2 : w.cell? ⟨ad.block, ad.off + 1, none⟩ = some (.slice A1 o.p.length c1)
  x3 : w.cell? ⟨ad.block, ad.off + 3, none⟩ = some (.slice A2 o.ks.length c2)
  n1 : -9223372036854775808 ≤ o.n
  n2 : o.n ≤ 9223372036854775807
  bs : Bs w K A1 c1 o.p
  sr : Sr encI 1 w K A2 c2 o.ks
theorem Os9.get (h : Os9 w K A cap os) {i : Nat} {o : Op9} (hi : os[i]? = some o) : ∃ ad A1 c1 A2 c2, A = some ad ∧ At9 w K (ad.add (i * 4)) o A1 c1 A2 c2 := by
  have hil := (List.getElem?_eq_some_iff.1 hi).1
  obtain ⟨ad, e, hb, hc⟩ := h.at_ (by omega)
  obtain ⟨h1, h2, h3, ⟨A1, c1, h4, h5⟩, A2, c2, h6, h7⟩ := hc i o hi
  refine ⟨ad, A1, c1, A2, c2, e, ⟨by rw [block_of_add]; exact hb, h1, ?_, ?_, ?_, h3.1, h3.2, h5, h7⟩⟩
  · rw [← el_add_pos _ _ (by decide), el_add_of_add]; exact h2
  · rw [← el_add_pos _ _ (by decide), el_add_of_add]; exact h4
  · rw [← el_add_pos _ _ (by decide), el_add_of_add]; exact h6
end

theorem cells_op9 : Try.prog.cellsOf 50 = 4 := by kernel_rfl
theorem sz_op9 {H : Type} {d0 d1 d2 d3 : DataW H} (h : Sz 50 (.agg [d0, d1, d2, d3])) : Sz 31 d3 := by
  unfold Sz at h ⊢
  simp only [DataW.weights, Try.underlying50, List.map_cons, List.map_nil, DataW.weightsEach, List.all_append, Bool.and_eq_true] at h
  exact h.2.2.2.1
theorem sz_mem9 {H : Type} {es sp : List (DataW H)} (h : Sz 37 (.slice es sp)) : ∀ x ∈ es, Sz 50 x := by
  unfold Sz at h
  simp only [DataW.weights, Try.underlying37, List.all_cons, List.all_append, Bool.and_eq_true] at h
  exact sz_all h.2.1
/-- One step's cells, opened. -/
theorem open_op9z {H : Type} {enc : TypeId × Value → H} {W : World} {base fuel : Nat} {sp : Nat → Bool} {held : Bool} {u0 u1 u2 u3 : Value} {x : DataW H × List MemPlace} (ht : DataW.trod enc Try.prog W base sp held fuel 50 [u0, u1, u2, u3] = some x) :
    ∃ (o : Op9) (A1 : Option Addr) (c1 : Nat) (A2 : Option Addr) (c2 : Nat), u0 = .int .i64 o.k ∧ u2 = .int .i64 o.n ∧ (-9223372036854775808 ≤ o.n ∧ o.n ≤ 9223372036854775807) ∧ u1 = .slice A1 o.p.length c1 ∧ Bs W W.heap.size A1 c1 o.p ∧ u3 = .slice A2 o.ks.length c2 ∧ Sr encI 1 W W.heap.size A2 c2 o.ks ∧ (Sz 50 x.1 → o.ks.length * 8 ≤ 140737488351232) := by
  obtain ⟨y0, y1, y2, y3, n, hx, _, g0, g1, g2, g3⟩ := trod_struct4 Try.underlying50 ht
  simp only [cells_int, cells_isl, cells_bsl, List.drop_zero, List.take_succ_cons, List.take_zero, List.drop_succ_cons] at g0 g1 g2 g3
  obtain ⟨a, e0, _, _⟩ := DataW.trod_int Try.underlying3 g0
  obtain ⟨c, e1, _, iw⟩ := DataW.trod_int Try.underlying3 g2
  obtain ⟨A1, c1, l1, e2, hb, _⟩ := open_bs0 g1
  obtain ⟨A2, c2, l2, e3, hs, hz⟩ := open_isr0z g3
  simp at e0 e1 e2 e3
  subst e0 e1 e2 e3
  have ir : -9223372036854775808 ≤ c ∧ c ≤ 9223372036854775807 := by simpa [Lit.wf, IntKind.min, IntKind.max, IntKind.signed, IntKind.bits] using iw
  exact ⟨⟨a, c, l1, l2⟩, A1, c1, A2, c2, rfl, rfl, ir, rfl, hb, rfl, hs, fun h => hz (sz_op9 (by rw [hx] at h; exact h))⟩
set_option maxRecDepth 100000 in
theorem open_ops9z {H : Type} {enc : TypeId × Value → H} {W : World} {base : Nat} {v : Value} {d : DataW H} {p : List MemPlace}
    (hv : Value.okWide Try.prog W .any base 37 v) (h : DataW.Trod enc Try.prog W 0 (fun _ => true) true 37 v d p) :
    ∃ A cap os, v = .slice A os.length cap ∧ Os9 W W.heap.size A cap os ∧ (Sz 37 d → ∀ o ∈ os, o.ks.length * 8 ≤ 140737488351232) := by
  obtain ⟨a1, len, cap, rfl⟩ := okWide_slice Try.underlying37 hv
  obtain ⟨fuel, hf⟩ := h
  rcases open_slice Try.underlying37 hf with ⟨hcs, hx⟩ | ⟨a, len', cap', m, n, D, Pl, hcs, _, hl, hmx, hmm, hx, hi⟩
  · simp [Value.cells] at hcs
    obtain ⟨rfl, rfl, rfl⟩ := hcs
    exact ⟨none, 0, [], rfl, ⟨Nat.le_refl _, Nat.zero_le _, fun _ => rfl, fun h => absurd h (by simp)⟩, fun _ o ho => by cases ho⟩
  · simp [Value.cells] at hcs
    obtain ⟨rfl, rfl, rfl⟩ := hcs
    have hlm : len ≤ m := by rw [hmm]; split <;> omega
    have each : ∀ i, i < len → ∃ x : Op9, (W.cell? (a.add (i * 4)) = some (.int .i64 x.k) ∧ W.cell? (a.add (i * 4 + 2)) = some (.int .i64 x.n) ∧ (-9223372036854775808 ≤ x.n ∧ x.n ≤ 9223372036854775807) ∧
        (∃ A' c', W.cell? (a.add (i * 4 + 1)) = some (.slice A' x.p.length c') ∧ Bs W W.heap.size A' c' x.p) ∧ ∃ A' c', W.cell? (a.add (i * 4 + 3)) = some (.slice A' x.ks.length c') ∧ Sr encI 1 W W.heap.size A' c' x.ks) ∧ (Sz 50 (D i) → x.ks.length * 8 ≤ 140737488351232) := fun i hil => by
      obtain ⟨cs', hc, ht⟩ := hi i (by omega)
      rw [cells_op9] at hc
      obtain ⟨_, hcl, hat⟩ := World.cells?_some hc
      match cs', hcl with
      | [u0, u1, u2, u3], _ =>
        obtain ⟨x, A1, c1, A2, c2, rfl, rfl, hn, rfl, hb, rfl, hs, hz⟩ := open_op9z ht
        have h0 := hat 0 (by omega)
        have h1 := hat 1 (by omega)
        have h2 := hat 2 (by omega)
        have h3 := hat 3 (by omega)
        rw [Go.Deep.add_add] at h0 h1 h2 h3
        rw [Nat.add_zero] at h0
        exact ⟨x, ⟨h0, h2, hn, ⟨A1, c1, h1, hb⟩, A2, c2, h3, hs⟩, hz⟩
    obtain ⟨f, hf'⟩ := choose_lt each
    have hll : ((List.range len).map f).length = len := by simp
    refine ⟨some a, cap, (List.range len).map f, by rw [hll], ⟨by rw [hll]; exact hl, hmx, (fun h => by cases h), fun hn => ⟨a, rfl, ?_, fun i m hk => ?_⟩⟩, fun hs o ho => ?_⟩
    · rw [hll] at hn
      have := World.block_lt_of_cell? W _ (hf' 0 hn).1.1
      rwa [block_of_add] at this
    · simp only [List.getElem?_map, Option.map_eq_some_iff] at hk
      obtain ⟨j, hj, he⟩ := hk
      obtain ⟨hj1, hj2⟩ := List.getElem?_eq_some_iff.1 hj
      simp at hj1 hj2
      subst hj2
      have := (hf' i hj1).1
      rw [he] at this
      exact this
    · obtain ⟨i, hi1, rfl⟩ := List.mem_map.1 ho
      rw [List.mem_range] at hi1
      refine (hf' i hi1).2 (sz_mem9 (by have hd := congrArg Prod.fst hx; simp only at hd; rw [hd] at hs; exact hs) (D i) (List.mem_map.2 ⟨i, List.mem_range.2 hi1, rfl⟩))
end Go.Proofs.Ytpckbbjlihhpdaa
