/- frame.Seal. -/
import Derived.Test.YtpckbbjlihhpdaaBc
import Derived.Test.YtpckbbjlihhpdaaSealM
import Derived.Test.YtpckbbjlihhpdaaCrc
namespace Go.Proofs.Ytpckbbjlihhpdaa
open Go.RowKit

set_option maxRecDepth 100000 in
theorem crc_zero (K : Nat) (A : Option Addr) (n cap : Nat) (l : List UInt8) (w : World) (hn : l.length = n) (hb : Bs w K A cap l) :
    Calls Try.prog 72 #[.int .u32 0, .slice A n cap] w fun e w' => e = .returned (.int .u32 (crcN 0 l : Int)) ∧ w = w' := by
  subst hn
  exact crc_any 0 (by omega) K A cap l w hb

set_option maxRecDepth 100000 in
theorem sumOf_any (K : Nat) (A : Option Addr) (cap : Nat) (h : List UInt8) (K' : Nat) (A' : Option Addr) (cap' : Nat) (l : List UInt8) (w : World) (hb : Bs w K A cap h) (hl : 5 ≤ h.length) (hb' : Bs w K' A' cap' l) :
    Calls Try.prog 67 #[.slice A h.length cap, .slice A' l.length cap'] w fun e w' => e = .returned (.int .u32 (crcN 0 ((h.drop 1).take 4 ++ l) : Int)) ∧ w = w' := by
  have hle := hb.le
  have hmax := hb.max
  unfold maxLen at hmax
  obtain ⟨ad, rfl, _⟩ := hb.some_ (by omega)
  have hcut := hb.cutS (i := 1) (j := 5) (by omega) (by omega) hl (by omega)
  have h4 : ((h.drop 1).take 4).length = 4 := by simp; omega
  rw [show 5 - 1 = 4 from rfl] at hcut
  generalize (h.drop 1).take 4 = m at *
  have c2 := fun (hh : Bs w K' A' cap' l) => crc_any (crcN 0 m) (crcN_lt _ _) K' A' cap' l w hh
  rw [crcN_append] at c2
  have C2 := Lib.hid c2
  have H4 := Lib.hid h4
  clear c2 h4
  go_enter Try.func67, Try.ntmps67
  go_wp2_with fail
  refine (crc_zero K _ 4 _ _ w H4.out hcut).mono ?_
  rintro e w' ⟨rfl, rfl⟩
  go_wp2_with fail
  refine (C2.out hb').mono ?_
  rintro e w' ⟨rfl, rfl⟩
  go_wp2
  go_ret
  exact ⟨rfl, rfl⟩

set_option maxRecDepth 100000 in
theorem head_cells (k : UInt8) (n : Nat) (h : n ≤ 1048576) : [.int .u8 167, bv k, .int .u8 ((n : Int) / 65536), .int .u8 ((n : Int) / 256 % 256), .int .u8 ((n : Int) % 256)] = (167 :: hd4 k n).map bv := by
  have e1 : ((n / 65536 : Nat) : Int) % 256 = (n : Int) / 65536 := by omega
  simp [hd4, bv]
  omega
set_option maxRecDepth 100000 in
theorem le4_cells (c : Nat) (h : c < 4294967296) : [.int .u8 ((c : Int) % 256), .int .u8 ((c : Int) / 256 % 256), .int .u8 ((c : Int) / 65536 % 256), .int .u8 ((c : Int) / 16777216)] = (le4 c).map bv := by
  simp [le4, bv]
  omega
set_option maxRecDepth 100000 in
theorem sumOf_seal (k : UInt8) (K : Nat) (A : Option Addr) (cap : Nat) (K' : Nat) (A' : Option Addr) (cap' : Nat) (l : List UInt8) (w : World) (hb : Bs w K A cap (167 :: hd4 k l.length)) (hb' : Bs w K' A' cap' l) :
    Calls Try.prog 67 #[.slice A 5 cap, .slice A' l.length cap'] w fun e w' => e = .returned (.int .u32 (sumB k l : Int)) ∧ w = w' :=
  sumOf_any K A cap (167 :: hd4 k l.length) K' A' cap' l w hb (by simp [hd4]) hb'

def SealPost (w : World) (k : UInt8) (l : List UInt8) (e : Ending) (w' : World) : Prop :=
  ∃ A' cap', e = .returned (.tuple #[.slice A' (9 + l.length) cap', .int .i64 0]) ∧ Ob w' w.heap.size (.slice A' (9 + l.length) cap') (sealB k l) ∧ Below w.heap.size w w'

set_option maxRecDepth 100000 in
set_option maxHeartbeats 1600000 in
theorem seal_ok (k : UInt8) (K : Nat) (A : Option Addr) (cap : Nat) (l : List UInt8) (w : World) (hb : Bs w K A cap l) (hK : K ≤ w.heap.size) (hl : l.length ≤ 1048576) :
    Calls Try.prog 60 #[bv k, .slice A l.length cap] w (SealPost w k l) := by
  have hle := hb.le
  have hmax := hb.max
  obtain ⟨i0, hi, hz0, hz1, hz2⟩ := info_parts info_u8
  unfold maxLen at hmax
  have hs := sumB_lt k l
  go_enter Try.func60, Try.ntmps60
  go_wp2_with (first
    | (at_make; refine wpList_make_own _ rfl _ _ 30 rfl w.heap.size 5 i0 (.int .u8 0) 1 Try.underlying30 hi hz0 hz1 _ _ _ (9 + l.length) rfl rfl (by omega) (by rw [hz2]; omega) (by unfold maxLen; omega) (Nat.le_refl _) ?_; intro w1 hown1 hgrow1; have B1 : Below w.heap.size w w1 := (Below.refl _ _).grown hgrow1 (Nat.le_refl _) (by simp); have z1 := B1.size)
    | (at_builtin; refine wpList_app _ rfl (.tmp 17) (.tmp 27) rfl w.heap.size _ [] rfl ((Ob.made hown1).alloc _) (some ⟨w1.heap.size, 0, none⟩) 5 5 (167 :: hd4 k l.length) rfl rfl _ (lit_bs w1 _ _ (167 :: hd4 k l.length) (head_cells k l.length hl) (by simp [hd4, maxLen])) 5 rfl (by simp [hd4]) (by simp; omega) ?_; intro A2 cap2 w2 hown2 hgrow2 hat2; have B2 : Below w.heap.size w w2 := grown_below (B1.alloc z1 _) hgrow2 (by simp; omega) (fun _ h => (hown1.lt _ h).1); have z2 := B2.size)
    | (go_at_call 67; refine (sumOf_seal k _ A2 cap2 _ A cap l _ hown2.bs.1 (hb.below (B2.mono hK))).mono ?_; rintro e w' ⟨rfl, rfl⟩)
    | (at_builtin; refine wpList_app _ rfl (.tmp 32) (.tmp 44) rfl w.heap.size _ (167 :: hd4 k l.length) rfl (hown2.alloc _) (some ⟨w2.heap.size, 0, none⟩) 4 4 (le4 (sumB k l)) rfl rfl _ (lit_bs w2 _ _ (le4 (sumB k l)) (le4_cells _ hs) (by simp [le4, maxLen])) 9 rfl (by simp [hd4, le4]) (by simp; omega) ?_; intro A3 cap3 w3 hown3 hgrow3 hat3; have B3 : Below w.heap.size w w3 := grown_below (B2.alloc z2 _) hgrow3 (by simp; omega) (fun _ h => (hown2.lt _ h).1); have z3 := B3.size)
    | (at_builtin; refine wpList_app _ rfl (.tmp 46) (.tmp 47) rfl w.heap.size _ (167 :: hd4 k l.length ++ le4 (sumB k l)) rfl hown3 A l.length cap l rfl rfl _ (hb.below (B3.mono hK)) (9 + l.length) (by simp [hd4, le4]) (by simp [hd4, le4]; omega) z3 ?_; intro A4 cap4 w4 hown4 hgrow4 hat4; have B4 : Below w.heap.size w w4 := grown_below B3 hgrow4 z3 (fun _ h => (hown3.lt _ h).1)))
  go_ret2
  exact ⟨A4, cap4, rfl, hown4, B4⟩

set_option maxRecDepth 100000 in
theorem seal_long (k : UInt8) (A : Option Addr) (cap : Nat) (n : Nat) (w : World) (hl : 1048576 < n) (hn : n ≤ maxLen) :
    Calls Try.prog 60 #[bv k, .slice A n cap] w fun e w' => e = .returned (.tuple #[.slice none 0 0, .int .i64 8]) ∧ w = w' := by
  unfold maxLen at hn
  go_enter Try.func60, Try.ntmps60
  go_wp2
  go_ret2
  exact ⟨rfl, rfl⟩
end Go.Proofs.Ytpckbbjlihhpdaa
