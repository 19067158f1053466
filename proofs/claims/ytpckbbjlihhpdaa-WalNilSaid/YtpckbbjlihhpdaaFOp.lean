/- frame.Open. -/
import Derived.Test.YtpckbbjlihhpdaaFSl
import Derived.Test.YtpckbbjlihhpdaaOpenM
import Derived.Deep.QuietTactic
import Derived.BigQuiet
import Derived.Laws.BitsLemmas
import Derived.Deep.RegionHeld3
namespace Go.Proofs.Ytpckbbjlihhpdaa
open Go.RowKit

set_option maxRecDepth 100000 in
theorem results_four {fn : Func} {t u v x : Tmp} (h : fn.results = #[.tmp t, .tmp u, .tmp v, .tmp x]) (tmps : Array Value) (P : Program) (w : World) :
    (results fn tmps).run P w = .ok (.tuple #[tmps.getD t undef, tmps.getD u undef, tmps.getD v undef, tmps.getD x undef]) w := by simp [results, h]

def OpenPost (w : World) (l : List UInt8) (e : Ending) (w' : World) : Prop :=
  ∃ A' cap', e = .returned (.tuple #[bv (openB l).1, .slice A' (openB l).2.1.length cap', .int .i64 ((openB l).2.2.1 : Nat), .int .i64 ((openB l).2.2.2 : Nat)]) ∧ Ob w' w.heap.size (.slice A' (openB l).2.1.length cap') (openB l).2.1 ∧ Below w.heap.size w w'

set_option maxRecDepth 100000 in
theorem toNat_i64 (a : Nat) (ha : a < 9223372036854775808) : (BitVec.ofInt 64 (a : Int)).toNat = a := by
  rw [BitVec.ofInt_natCast, BitVec.toNat_ofNat]; exact Nat.mod_eq_of_lt (by omega)
set_option maxRecDepth 100000 in
theorem or_i64 (a b : Nat) (ha : a < 9223372036854775808) (hb : b < 9223372036854775808) : bits .or .i64 (a : Int) (b : Int) = ((a ||| b : Nat) : Int) := by
  have hx : a ||| b < 2 ^ 63 := Nat.or_lt_two_pow (by omega) (by omega)
  show IntKind.i64.wrap ((BitVec.ofInt 64 (a : Int) ||| BitVec.ofInt 64 (b : Int)).toNat : Int) = _
  rw [BitVec.toNat_or, toNat_i64 a ha, toNat_i64 b hb, IntKind.wrap_i64]
  omega
set_option maxRecDepth 100000 in
theorem i64_or_add (a b i : Nat) (ha : a < 9223372036854775808) (hb : b < 2 ^ i) (hm : a % 2 ^ i = 0) (hb' : b < 9223372036854775808) : bits .or .i64 (a : Int) (b : Int) = ((a + b : Nat) : Int) := by
  rw [or_i64 a b ha hb', nat_join i a b hm hb]
set_option maxRecDepth 100000 in
theorem len_or {a b c : Nat} (ha : a < 256) (hb : b < 256) (hc : c < 256) : bits .or .i64 (bits .or .i64 ((a : Int) * 65536) ((b : Int) * 256)) (c : Int) = ((a * 65536 + b * 256 + c : Nat) : Int) := by
  rw [show ((a : Int) * 65536) = ((a * 65536 : Nat) : Int) by omega, show ((b : Int) * 256) = ((b * 256 : Nat) : Int) by omega, i64_or_add (a * 65536) (b * 256) 16 (by omega) (by omega) (by omega) (by omega), i64_or_add _ c 8 (by omega) (by omega) (by omega) (by omega)]
set_option maxRecDepth 100000 in
theorem u32_or_add (a b i : Nat) (ha : a < 2 ^ i) (hm : b % 2 ^ i = 0) (ha' : a < 4294967296) (hb' : b < 4294967296) : bits .or .u32 (a : Int) (b : Int) = ((a + b : Nat) : Int) := by
  rw [u32_or_nat a b ha' hb', Nat.or_comm, nat_join i b a hm ha, Nat.add_comm]
set_option maxRecDepth 100000 in
theorem sum_or {a b c d : Nat} (ha : a < 256) (hb : b < 256) (hc : c < 256) (hd : d < 256) :
    bits .or .u32 (bits .or .u32 (bits .or .u32 (a : Int) ((b : Int) * 256)) ((c : Int) * 65536)) ((d : Int) * 16777216) = ((a + b * 256 + c * 65536 + d * 16777216 : Nat) : Int) := by
  rw [show ((b : Int) * 256) = ((b * 256 : Nat) : Int) by omega, show ((c : Int) * 65536) = ((c * 65536 : Nat) : Int) by omega, show ((d : Int) * 16777216) = ((d * 16777216 : Nat) : Int) by omega,
    u32_or_add a (b * 256) 8 (by omega) (by omega) (by omega) (by omega), u32_or_add _ (c * 65536) 16 (by omega) (by omega) (by omega) (by omega), u32_or_add _ (d * 16777216) 24 (by omega) (by omega) (by omega) (by omega)]

set_option maxRecDepth 100000 in
theorem sumOf_open (K : Nat) (A : Option Addr) (cap : Nat) (h : List UInt8) (n K' : Nat) (A' : Option Addr) (n' cap' : Nat) (w : World) (hb : Bs w K A cap h) (hn : h.length = n) (hl : 9 ≤ h.length) (hb' : Bs w K' A' cap' (payB h)) (hn' : (payB h).length = n') :
    Calls Try.prog 67 #[.slice A n cap, .slice A' n' cap'] w fun e w' => e = .returned (.int .u32 (sumO h : Int)) ∧ w = w' := by
  subst hn hn'
  exact sumOf_any K A cap h K' A' cap' (payB h) w hb (by omega) hb'

set_option maxRecDepth 100000 in
theorem Bs.g {w : World} {K cap : Nat} {A : Option Addr} {l : List UInt8} (h : Bs w K A cap l) {k : Nat} (hk : k < l.length) : ∃ ad : Addr, A = some ad ∧ w.cell? (ad.add k) = some (.int .u8 (at0 l k : Int)) := by
  obtain ⟨ad, e, _, hc⟩ := h.get hk
  exact ⟨ad, e, by rw [hc]; simp [at0, hk]⟩
set_option maxRecDepth 100000 in
theorem below_drewNo {B : Nat} {w : World} (n : Nat) : Below B w (w.drewN n) := ⟨rfl, rfl, rfl, Nat.le_refl _, fun _ _ => rfl⟩

section
variable (K cap : Nat) (l : List UInt8) (w : World)
set_option maxRecDepth 100000 in
theorem open_bad {n : Nat} (hn : openB l = (0, [], 0, n)) {w' : World} (hw : Below w.heap.size w w') : OpenPost w l (.returned (.tuple #[.int .u8 0, .slice none 0 0, .int .i64 0, .int .i64 (n : Int)])) w' :=
  ⟨none, 0, by rw [hn]; rfl, by rw [hn]; exact Ob.empty _ _, hw⟩

set_option maxRecDepth 100000 in
theorem open_good (hn : openB l = (l.getD 1 0, payB l, 9 + lenB l, 0)) {W w1 : World} (hW : Below w.heap.size w W) {A1 : Option Addr} {cap1 : Nat} (hob : Ob w1 W.heap.size (.slice A1 (payB l).length cap1) (payB l)) (hbl : Below W.heap.size W w1) {x : Int} (hx : x = 9 + (lenB l : Int)) :
    OpenPost w l (.returned (.tuple #[.int .u8 (at0 l 1 : Int), .slice A1 (payB l).length cap1, .int .i64 x, .int .i64 0])) w1 := by
  subst hx
  refine ⟨A1, cap1, ?_, ?_, hW.trans (hbl.mono hW.size)⟩
  · rw [hn]; rfl
  · rw [hn]; exact hob.more hW.size

set_option maxRecDepth 100000 in
theorem open_none (A : Option Addr) (h0 : l.length = 0) : Calls Try.prog 65 #[.slice A 0 cap] w (OpenPost w l) := by
  have hp := open_bad l w (openB_short (.inl h0) (by omega)) (Below.refl _ w)
  have HP := Lib.hid hp
  clear hp h0
  go_enter Try.func65, Try.ntmps65
  go_wp2
  refine bodyPost_ret (results_four rfl _ _ _) rfl ?_; exact HP.out

variable {ad : Addr} (hb : Bs w K (some ad) cap l) (hK : K ≤ w.heap.size)
include hb
set_option maxRecDepth 100000 in
theorem open_form (h0 : 0 < l.length) (h1 : ¬ at0 l 0 = 167) : Calls Try.prog 65 #[.slice (some ad) l.length cap] w (OpenPost w l) := by
  have hle := hb.le
  have hmax := hb.max
  unfold maxLen at hmax
  have hp := open_bad l w (openB_form h0 h1) (Below.refl _ w)
  have HP := Lib.hid hp
  clear hp
  have c0 : w.cell? ad = some (.int .u8 (at0 l 0 : Int)) := hb.c0 h0
  have hne : ((at0 l 0 : Int) == 167) = false := by simp; omega
  go_enter Try.func65, Try.ntmps65
  go_wp2
  refine bodyPost_ret (results_four rfl _ _ _) rfl ?_; exact HP.out

set_option maxRecDepth 100000 in
theorem open_few (h0 : 0 < l.length) (h1 : at0 l 0 = 167) (h9 : l.length < 9) : Calls Try.prog 65 #[.slice (some ad) l.length cap] w (OpenPost w l) := by
  have hle := hb.le
  have hmax := hb.max
  unfold maxLen at hmax
  have hp := open_bad l w (openB_short (.inr h1) h9) (Below.refl _ w)
  have HP := Lib.hid hp
  clear hp
  have c0 : w.cell? ad = some (.int .u8 (at0 l 0 : Int)) := hb.c0 h0
  rw [h1] at c0
  clear h1
  go_enter Try.func65, Try.ntmps65
  go_wp2
  refine bodyPost_ret (results_four rfl _ _ _) rfl ?_; exact HP.out

set_option maxRecDepth 100000 in
set_option maxHeartbeats 1600000 in
theorem open_limit (h1 : at0 l 0 = 167) (h9 : 9 ≤ l.length) (hm : 1048576 < lenB l) : Calls Try.prog 65 #[.slice (some ad) l.length cap] w (OpenPost w l) := by
  have hp := fun w' (hbl : Below w.heap.size w w') => open_bad l w (openB_limit h1 h9 hm) hbl
  have HP := Lib.hid hp
  clear hp
  have hle := hb.le
  have hmax := hb.max
  unfold maxLen at hmax
  have c0 : w.cell? ad = some (.int .u8 (at0 l 0 : Int)) := hb.c0 (by omega)
  have c1 : w.cell? ⟨ad.block, ad.off + 1, none⟩ = some (.int .u8 (at0 l 1 : Int)) := hb.c 1 (by omega) (by omega)
  have c2 : w.cell? ⟨ad.block, ad.off + 2, none⟩ = some (.int .u8 (at0 l 2 : Int)) := hb.c 2 (by omega) (by omega)
  have c3 : w.cell? ⟨ad.block, ad.off + 3, none⟩ = some (.int .u8 (at0 l 3 : Int)) := hb.c 3 (by omega) (by omega)
  have c4 : w.cell? ⟨ad.block, ad.off + 4, none⟩ = some (.int .u8 (at0 l 4 : Int)) := hb.c 4 (by omega) (by omega)
  have c5 : w.cell? ⟨ad.block, ad.off + 5, none⟩ = some (.int .u8 (at0 l 5 : Int)) := hb.c 5 (by omega) (by omega)
  have c6 : w.cell? ⟨ad.block, ad.off + 6, none⟩ = some (.int .u8 (at0 l 6 : Int)) := hb.c 6 (by omega) (by omega)
  have c7 : w.cell? ⟨ad.block, ad.off + 7, none⟩ = some (.int .u8 (at0 l 7 : Int)) := hb.c 7 (by omega) (by omega)
  have c8 : w.cell? ⟨ad.block, ad.off + 8, none⟩ = some (.int .u8 (at0 l 8 : Int)) := hb.c 8 (by omega) (by omega)
  rw [h1] at c0
  have hor : bits .or .i64 (bits .or .i64 ((at0 l 2 : Int) * 65536) ((at0 l 3 : Int) * 256)) (at0 l 4 : Int) = (lenB l : Int) := len_or (at0_lt l 2) (at0_lt l 3) (at0_lt l 4)
  have hsm : bits .or .u32 (bits .or .u32 (bits .or .u32 (at0 l 5 : Int) ((at0 l 6 : Int) * 256)) ((at0 l 7 : Int) * 65536)) ((at0 l 8 : Int) * 16777216) = (sum4 l : Int) := sum_or (at0_lt l 5) (at0_lt l 6) (at0_lt l 7) (at0_lt l 8)
  have b2 := at0_lt l 2
  have b3 := at0_lt l 3
  have b4 := at0_lt l 4
  have b5 := at0_lt l 5
  have b6 := at0_lt l 6
  have b7 := at0_lt l 7
  have b8 := at0_lt l 8
  clear h1
  go_enter Try.func65, Try.ntmps65
  go_wp2
  go_quiet (fail)
  go_wp2
  refine bodyPost_ret (results_four rfl _ _ _) rfl ?_; exact HP.out _ (below_drewNo _)

set_option maxRecDepth 100000 in
set_option maxHeartbeats 1600000 in
theorem open_cut (h1 : at0 l 0 = 167) (h9 : 9 ≤ l.length) (hm : lenB l ≤ 1048576) (h : l.length < 9 + lenB l) : Calls Try.prog 65 #[.slice (some ad) l.length cap] w (OpenPost w l) := by
  have hp := fun w' (hbl : Below w.heap.size w w') => open_bad l w (openB_short2 h1 h9 hm h) hbl
  have HP := Lib.hid hp
  clear hp
  have hle := hb.le
  have hmax := hb.max
  unfold maxLen at hmax
  have c0 : w.cell? ad = some (.int .u8 (at0 l 0 : Int)) := hb.c0 (by omega)
  have c1 : w.cell? ⟨ad.block, ad.off + 1, none⟩ = some (.int .u8 (at0 l 1 : Int)) := hb.c 1 (by omega) (by omega)
  have c2 : w.cell? ⟨ad.block, ad.off + 2, none⟩ = some (.int .u8 (at0 l 2 : Int)) := hb.c 2 (by omega) (by omega)
  have c3 : w.cell? ⟨ad.block, ad.off + 3, none⟩ = some (.int .u8 (at0 l 3 : Int)) := hb.c 3 (by omega) (by omega)
  have c4 : w.cell? ⟨ad.block, ad.off + 4, none⟩ = some (.int .u8 (at0 l 4 : Int)) := hb.c 4 (by omega) (by omega)
  have c5 : w.cell? ⟨ad.block, ad.off + 5, none⟩ = some (.int .u8 (at0 l 5 : Int)) := hb.c 5 (by omega) (by omega)
  have c6 : w.cell? ⟨ad.block, ad.off + 6, none⟩ = some (.int .u8 (at0 l 6 : Int)) := hb.c 6 (by omega) (by omega)
  have c7 : w.cell? ⟨ad.block, ad.off + 7, none⟩ = some (.int .u8 (at0 l 7 : Int)) := hb.c 7 (by omega) (by omega)
  have c8 : w.cell? ⟨ad.block, ad.off + 8, none⟩ = some (.int .u8 (at0 l 8 : Int)) := hb.c 8 (by omega) (by omega)
  rw [h1] at c0
  have hor : bits .or .i64 (bits .or .i64 ((at0 l 2 : Int) * 65536) ((at0 l 3 : Int) * 256)) (at0 l 4 : Int) = (lenB l : Int) := len_or (at0_lt l 2) (at0_lt l 3) (at0_lt l 4)
  have hsm : bits .or .u32 (bits .or .u32 (bits .or .u32 (at0 l 5 : Int) ((at0 l 6 : Int) * 256)) ((at0 l 7 : Int) * 65536)) ((at0 l 8 : Int) * 16777216) = (sum4 l : Int) := sum_or (at0_lt l 5) (at0_lt l 6) (at0_lt l 7) (at0_lt l 8)
  have b2 := at0_lt l 2
  have b3 := at0_lt l 3
  have b4 := at0_lt l 4
  have b5 := at0_lt l 5
  have b6 := at0_lt l 6
  have b7 := at0_lt l 7
  have b8 := at0_lt l 8
  clear h1
  go_enter Try.func65, Try.ntmps65
  go_wp2
  go_quiet (fail)
  go_wp2
  refine bodyPost_ret (results_four rfl _ _ _) rfl ?_; exact HP.out _ (below_drewNo _)

set_option maxRecDepth 100000 in
set_option maxHeartbeats 1600000 in
theorem open_sum (h1 : at0 l 0 = 167) (h9 : 9 ≤ l.length) (hm : lenB l ≤ 1048576) (h : 9 + lenB l ≤ l.length) (hs : ¬ sum4 l = sumO l) : Calls Try.prog 65 #[.slice (some ad) l.length cap] w (OpenPost w l) := by
  have hp := fun w' (hbl : Below w.heap.size w w') => open_bad l w (openB_sum h1 h9 hm h hs) hbl
  have HP := Lib.hid hp
  clear hp
  have hle := hb.le
  have hmax := hb.max
  unfold maxLen at hmax
  have c0 : w.cell? ad = some (.int .u8 (at0 l 0 : Int)) := hb.c0 (by omega)
  have c1 : w.cell? ⟨ad.block, ad.off + 1, none⟩ = some (.int .u8 (at0 l 1 : Int)) := hb.c 1 (by omega) (by omega)
  have c2 : w.cell? ⟨ad.block, ad.off + 2, none⟩ = some (.int .u8 (at0 l 2 : Int)) := hb.c 2 (by omega) (by omega)
  have c3 : w.cell? ⟨ad.block, ad.off + 3, none⟩ = some (.int .u8 (at0 l 3 : Int)) := hb.c 3 (by omega) (by omega)
  have c4 : w.cell? ⟨ad.block, ad.off + 4, none⟩ = some (.int .u8 (at0 l 4 : Int)) := hb.c 4 (by omega) (by omega)
  have c5 : w.cell? ⟨ad.block, ad.off + 5, none⟩ = some (.int .u8 (at0 l 5 : Int)) := hb.c 5 (by omega) (by omega)
  have c6 : w.cell? ⟨ad.block, ad.off + 6, none⟩ = some (.int .u8 (at0 l 6 : Int)) := hb.c 6 (by omega) (by omega)
  have c7 : w.cell? ⟨ad.block, ad.off + 7, none⟩ = some (.int .u8 (at0 l 7 : Int)) := hb.c 7 (by omega) (by omega)
  have c8 : w.cell? ⟨ad.block, ad.off + 8, none⟩ = some (.int .u8 (at0 l 8 : Int)) := hb.c 8 (by omega) (by omega)
  rw [h1] at c0
  have hor : bits .or .i64 (bits .or .i64 ((at0 l 2 : Int) * 65536) ((at0 l 3 : Int) * 256)) (at0 l 4 : Int) = (lenB l : Int) := len_or (at0_lt l 2) (at0_lt l 3) (at0_lt l 4)
  have hsm : bits .or .u32 (bits .or .u32 (bits .or .u32 (at0 l 5 : Int) ((at0 l 6 : Int) * 256)) ((at0 l 7 : Int) * 65536)) ((at0 l 8 : Int) * 16777216) = (sum4 l : Int) := sum_or (at0_lt l 5) (at0_lt l 6) (at0_lt l 7) (at0_lt l 8)
  have b2 := at0_lt l 2
  have b3 := at0_lt l 3
  have b4 := at0_lt l 4
  have b5 := at0_lt l 5
  have b6 := at0_lt l 6
  have b7 := at0_lt l 7
  have b8 := at0_lt l 8
  clear h1
  have hne : ((sum4 l : Int) != (sumO l : Int)) = true := by rw [bne_iff_ne]; omega
  have HS := Lib.hid hs
  clear hs
  by_cases hc : cap = 9
  · have hl9 : l.length = 9 := by omega
    have hm0 : lenB l = 0 := by omega
    have hpay : Bs w K (some ad) 0 (payB l) := by
      have := hb.cut (i := 9) (j := 9) (by omega) (by omega)
      rw [if_pos hc, hc] at this
      unfold payB
      rw [hm0]
      exact this
    have hpl : (payB l).length = 0 := by rw [payB_length h, hm0]
    subst hc
    rw [hm0] at hor
    rw [hl9]
    have HM := Lib.hid hm0
    have HL := Lib.hid hl9
    have HPL := Lib.hid hpl
    clear hm0 hl9 hpl hm h h9 hle hmax
    go_enter Try.func65, Try.ntmps65
    go_wp2
    go_quiet (fail)
    go_wp2
    go_quiet (fail)
    go_wp2_with (go_at_call 67; refine (sumOf_open K _ _ l _ K _ _ _ _ (hb.drewN _) HL.out (by rw [HL.out]; omega) (hpay.drewN _) HPL.out).mono ?_; rintro e w' ⟨rfl, rfl⟩)
    refine bodyPost_ret (results_four rfl _ _ _) rfl ?_; exact HP.out _ (below_drewNo _)

  · have hpay := hb.cutS (i := 9) (j := 9 + lenB l) (by omega) (by omega) h (by omega)
    have hpl := payB_length h
    rw [show 9 + lenB l - 9 = lenB l by omega] at hpay
    change Bs w K _ _ (payB l) at hpay
    have e9 : 9 + lenB l - 9 = lenB l := by omega
    have i1 : (1 : Int) < (l.length : Int) := by omega
    have HPL := Lib.hid hpl
    clear hpl
    go_enter Try.func65, Try.ntmps65
    go_wp2
    go_quiet (fail)
    go_wp2
    go_quiet (fail)
    go_wp2_with (go_at_call 67; refine (sumOf_open K _ _ l _ K _ _ _ _ (hb.drewN _) rfl h9 (hpay.drewN _) HPL.out).mono ?_; rintro e w' ⟨rfl, rfl⟩)
    refine bodyPost_ret (results_four rfl _ _ _) rfl ?_; exact HP.out _ (below_drewNo _)


include hK
set_option maxRecDepth 100000 in
set_option maxHeartbeats 1600000 in
theorem open_ok (h1 : at0 l 0 = 167) (h9 : 9 ≤ l.length) (hm : lenB l ≤ 1048576) (h : 9 + lenB l ≤ l.length) (hs : sum4 l = sumO l) : Calls Try.prog 65 #[.slice (some ad) l.length cap] w (OpenPost w l) := by
  have hp := openB_ok h1 h9 hm h hs
  have HP := Lib.hid hp
  clear hp
  have hle := hb.le
  have hmax := hb.max
  unfold maxLen at hmax
  have c0 : w.cell? ad = some (.int .u8 (at0 l 0 : Int)) := hb.c0 (by omega)
  have c1 : w.cell? ⟨ad.block, ad.off + 1, none⟩ = some (.int .u8 (at0 l 1 : Int)) := hb.c 1 (by omega) (by omega)
  have c2 : w.cell? ⟨ad.block, ad.off + 2, none⟩ = some (.int .u8 (at0 l 2 : Int)) := hb.c 2 (by omega) (by omega)
  have c3 : w.cell? ⟨ad.block, ad.off + 3, none⟩ = some (.int .u8 (at0 l 3 : Int)) := hb.c 3 (by omega) (by omega)
  have c4 : w.cell? ⟨ad.block, ad.off + 4, none⟩ = some (.int .u8 (at0 l 4 : Int)) := hb.c 4 (by omega) (by omega)
  have c5 : w.cell? ⟨ad.block, ad.off + 5, none⟩ = some (.int .u8 (at0 l 5 : Int)) := hb.c 5 (by omega) (by omega)
  have c6 : w.cell? ⟨ad.block, ad.off + 6, none⟩ = some (.int .u8 (at0 l 6 : Int)) := hb.c 6 (by omega) (by omega)
  have c7 : w.cell? ⟨ad.block, ad.off + 7, none⟩ = some (.int .u8 (at0 l 7 : Int)) := hb.c 7 (by omega) (by omega)
  have c8 : w.cell? ⟨ad.block, ad.off + 8, none⟩ = some (.int .u8 (at0 l 8 : Int)) := hb.c 8 (by omega) (by omega)
  rw [h1] at c0
  have hor : bits .or .i64 (bits .or .i64 ((at0 l 2 : Int) * 65536) ((at0 l 3 : Int) * 256)) (at0 l 4 : Int) = (lenB l : Int) := len_or (at0_lt l 2) (at0_lt l 3) (at0_lt l 4)
  have hsm : bits .or .u32 (bits .or .u32 (bits .or .u32 (at0 l 5 : Int) ((at0 l 6 : Int) * 256)) ((at0 l 7 : Int) * 65536)) ((at0 l 8 : Int) * 16777216) = (sum4 l : Int) := sum_or (at0_lt l 5) (at0_lt l 6) (at0_lt l 7) (at0_lt l 8)
  have b2 := at0_lt l 2
  have b3 := at0_lt l 3
  have b4 := at0_lt l 4
  have b5 := at0_lt l 5
  have b6 := at0_lt l 6
  have b7 := at0_lt l 7
  have b8 := at0_lt l 8
  clear h1
  have hne : ((sum4 l : Int) != (sumO l : Int)) = false := by rw [bne_eq_false_iff_eq]; omega
  have HS := Lib.hid hs
  clear hs
  by_cases hc : cap = 9
  · have hl9 : l.length = 9 := by omega
    have hm0 : lenB l = 0 := by omega
    have hpay : Bs w K (some ad) 0 (payB l) := by
      have := hb.cut (i := 9) (j := 9) (by omega) (by omega)
      rw [if_pos hc, hc] at this
      unfold payB
      rw [hm0]
      exact this
    have hpl : (payB l).length = 0 := by rw [payB_length h, hm0]
    subst hc
    rw [hm0] at hor
    rw [hl9]
    have HM := Lib.hid hm0
    have HL := Lib.hid hl9
    have HPL := Lib.hid hpl
    clear hm0 hl9 hpl hm h h9 hle hmax
    go_enter Try.func65, Try.ntmps65
    go_wp2
    go_quiet (fail)
    go_wp2
    go_quiet (fail)
    go_wp2_with (go_at_call 67; refine (sumOf_open K _ _ l _ K _ _ _ _ (hb.drewN _) HL.out (by rw [HL.out]; omega) (hpay.drewN _) HPL.out).mono ?_; rintro e w' ⟨rfl, rfl⟩)
    go_wp2
    go_region_held3 (fun w' => w'.cell? ⟨ad.block, ad.off + 1, none⟩ = some (.int .u8 (at0 l 1 : Int))) (((try dsimp only); go_split_ands; (repeat' apply And.intro) <;> first | assumption | (apply kept; assumption; assumption) | (apply via; assumption; assumption; apply Below.size; assumption) | (go_grown; done) | (repeat' first | assumption | (simp; done) | apply keptD | apply keptA | (apply kept; assumption)))) ((go_at_call 71; refine (bclone_any K _ _ _ (payB l) _ HPL.out (hpay.drewN _) (by simpa using hK) (by rw [HPL.out]; omega)).mono ?_; rintro e w1 ⟨A1, cap1, rfl, hob, hbl⟩))
    go_wp2
    refine bodyPost_ret (results_four rfl _ _ _) rfl ?_; exact open_good l w HP.out (below_drewNo _) hob hbl (by rw [HM.out]; rfl)

  · have hpay := hb.cutS (i := 9) (j := 9 + lenB l) (by omega) (by omega) h (by omega)
    have hpl := payB_length h
    rw [show 9 + lenB l - 9 = lenB l by omega] at hpay
    change Bs w K _ _ (payB l) at hpay
    have e9 : 9 + lenB l - 9 = lenB l := by omega
    have i1 : (1 : Int) < (l.length : Int) := by omega
    have HPL := Lib.hid hpl
    clear hpl
    go_enter Try.func65, Try.ntmps65
    go_wp2
    go_quiet (fail)
    go_wp2
    go_quiet (fail)
    go_wp2_with (go_at_call 67; refine (sumOf_open K _ _ l _ K _ _ _ _ (hb.drewN _) rfl h9 (hpay.drewN _) HPL.out).mono ?_; rintro e w' ⟨rfl, rfl⟩)
    go_wp2
    go_region_held3 (fun w' => w'.cell? ⟨ad.block, ad.off + 1, none⟩ = some (.int .u8 (at0 l 1 : Int))) (((try dsimp only); go_split_ands; (repeat' apply And.intro) <;> first | assumption | (apply kept; assumption; assumption) | (apply via; assumption; assumption; apply Below.size; assumption) | (go_grown; done) | (repeat' first | assumption | (simp; done) | apply keptD | apply keptA | (apply kept; assumption)))) ((go_at_call 71; refine (bclone_any K _ _ _ (payB l) _ HPL.out (hpay.drewN _) (by simpa using hK) (by rw [HPL.out]; omega)).mono ?_; rintro e w1 ⟨A1, cap1, rfl, hob, hbl⟩))
    go_wp2
    refine bodyPost_ret (results_four rfl _ _ _) rfl ?_; exact open_good l w HP.out (below_drewNo _) hob hbl rfl


omit hb hK in
set_option maxRecDepth 100000 in
theorem open_any (A : Option Addr) (hb : Bs w K A cap l) (hK : K ≤ w.heap.size) : Calls Try.prog 65 #[.slice A l.length cap] w (OpenPost w l) := by
  rcases Nat.eq_zero_or_pos l.length with h0 | h0
  · have := open_none cap l w A h0
    rw [← h0] at this
    exact this
  · obtain ⟨ad, rfl, _⟩ := hb.some_ h0
    by_cases h1 : at0 l 0 = 167
    · by_cases h9 : 9 ≤ l.length
      · by_cases hm : lenB l ≤ 1048576
        · by_cases h : 9 + lenB l ≤ l.length
          · by_cases hs : sum4 l = sumO l
            · exact open_ok K cap l w hb hK h1 h9 hm h hs
            · exact open_sum K cap l w hb h1 h9 hm h hs
          · exact open_cut K cap l w hb h1 h9 hm (by omega)
        · exact open_limit K cap l w hb h1 h9 (by omega)
      · exact open_few K cap l w hb h0 h1 (by omega)
    · exact open_form K cap l w hb h0 h1
end
end Go.Proofs.Ytpckbbjlihhpdaa
