/- The document's Seal. -/
import Derived.Test.YtkkaehaoahpibaaPk10
import Derived.Deep.QuietTactic
import Derived.BigQuiet
import Derived.Laws.BitsLemmas
import Derived.Deep.RegionHeld3
import Derived.LoopTactic
namespace Go.Proofs.Ytkkaehaoahpibaa
open Go.RowKit

set_option maxRecDepth 100000 in
theorem crc_zero (K : Nat) (A : Option Addr) (n cap : Nat) (l : List UInt8) (w : World) (hn : l.length = n) (hb : Bs w K A cap l) :
    Calls Try.prog 68 #[.int .u32 0, .slice A n cap] w fun e w' => e = .returned (.int .u32 (crcN 0 l : Int)) ∧ w = w' := by
  subst hn
  exact crc_any 0 (by omega) K A cap l w hb

set_option maxRecDepth 100000 in
theorem sumOf_any (K : Nat) (A : Option Addr) (cap : Nat) (h : List UInt8) (K' : Nat) (A' : Option Addr) (cap' : Nat) (l : List UInt8) (w : World) (hb : Bs w K A cap h) (hl : 5 ≤ h.length) (hb' : Bs w K' A' cap' l) :
    Calls Try.prog 63 #[.slice A h.length cap, .slice A' l.length cap'] w fun e w' => e = .returned (.int .u32 (crcN 0 ((h.drop 1).take 4 ++ l) : Int)) ∧ w = w' := by
  have hle := hb.le
  have hmax := hb.max
  unfold maxLen at hmax
  obtain ⟨ad, rfl, _⟩ := hb.some_ (by omega)
  have hcut := hb.cutS (i := 1) (j := 5) (by omega) (by omega) hl (by omega)
  have h4 : ((h.drop 1).take 4).length = 4 := by simp; omega
  rw [show 5 - 1 = 4 from rfl] at hcut
  generalize (h.drop 1).take 4 = m at *
  have c2 := fun (hh : Bs w K' A' cap' l) => crc_any (crcN 0 m) (crcN_lt _ _) K' A' cap' l w hh
  rw [crcN_append] at c2
  have C2 := Lib.hid c2
  have H4 := Lib.hid h4
  clear c2 h4
  go_enter Try.func63, Try.ntmps63
  go_wp2_with fail
  refine (crc_zero K _ 4 _ _ w H4.out hcut).mono ?_
  rintro e w' ⟨rfl, rfl⟩
  go_wp2_with fail
  refine (C2.out hb').mono ?_
  rintro e w' ⟨rfl, rfl⟩
  go_wp2
  go_ret
  exact ⟨rfl, rfl⟩

set_option maxRecDepth 100000 in
theorem head_cells (k : UInt8) (n : Nat) (h : n ≤ 1048576) : [.int .u8 167, bv k, .int .u8 ((n : Int) / 65536), .int .u8 ((n : Int) / 256 % 256), .int .u8 ((n : Int) % 256)] = (167 :: hd4 k n).map bv := by
  have e1 : ((n / 65536 : Nat) : Int) % 256 = (n : Int) / 65536 := by omega
  simp [hd4, bv]
  omega
set_option maxRecDepth 100000 in
theorem le4_cells (c : Nat) (h : c < 4294967296) : [.int .u8 ((c : Int) % 256), .int .u8 ((c : Int) / 256 % 256), .int .u8 ((c : Int) / 65536 % 256), .int .u8 ((c : Int) / 16777216)] = (le4 c).map bv := by
  simp [le4, bv]
  omega
set_option maxRecDepth 100000 in
theorem sumOf_seal (k : UInt8) (K : Nat) (A : Option Addr) (cap : Nat) (K' : Nat) (A' : Option Addr) (cap' : Nat) (l : List UInt8) (w : World) (hb : Bs w K A cap (167 :: hd4 k l.length)) (hb' : Bs w K' A' cap' l) :
    Calls Try.prog 63 #[.slice A 5 cap, .slice A' l.length cap'] w fun e w' => e = .returned (.int .u32 (sumB k l : Int)) ∧ w = w' :=
  sumOf_any K A cap (167 :: hd4 k l.length) K' A' cap' l w hb (by simp [hd4]) hb'

def SealPost (w : World) (k : UInt8) (l : List UInt8) (e : Ending) (w' : World) : Prop :=
  ∃ A' cap', e = .returned (.tuple #[.slice A' (9 + l.length) cap', .int .i64 0]) ∧ Ob w' w.heap.size (.slice A' (9 + l.length) cap') (sealB k l) ∧ Below w.heap.size w w'

set_option maxRecDepth 100000 in
set_option maxHeartbeats 1600000 in
theorem seal_ok (k : UInt8) (K : Nat) (A : Option Addr) (cap : Nat) (l : List UInt8) (w : World) (hb : Bs w K A cap l) (hK : K ≤ w.heap.size) (hl : l.length ≤ 1048576) :
    Calls Try.prog 56 #[bv k, .slice A l.length cap] w (SealPost w k l) := by
  have hle := hb.le
  have hmax := hb.max
  obtain ⟨i0, hi, hz0, hz1, hz2⟩ := info_parts info_u8
  unfold maxLen at hmax
  have hs := sumB_lt k l
  go_enter Try.func56, Try.ntmps56
  go_wp2_with (first
    | (at_make; refine wpList_make_own _ rfl _ _ 32 rfl w.heap.size 5 i0 (.int .u8 0) 1 Try.underlying32 hi hz0 hz1 _ _ _ (9 + l.length) rfl rfl (by omega) (by rw [hz2]; omega) (by unfold maxLen; omega) (Nat.le_refl _) ?_; intro w1 hown1 hgrow1; have B1 : Below w.heap.size w w1 := (Below.refl _ _).grown hgrow1 (Nat.le_refl _) (by simp); have z1 := B1.size)
    | (at_builtin; refine wpList_app _ rfl (.tmp 17) (.tmp 27) rfl w.heap.size _ [] rfl ((Ob.made hown1).alloc _) (some ⟨w1.heap.size, 0, none⟩) 5 5 (167 :: hd4 k l.length) rfl rfl _ (lit_bs w1 _ _ (167 :: hd4 k l.length) (head_cells k l.length hl) (by simp [hd4, maxLen])) 5 rfl (by simp [hd4]) (by simp; omega) ?_; intro A2 cap2 w2 hown2 hgrow2 hat2; have B2 : Below w.heap.size w w2 := grown_below (B1.alloc z1 _) hgrow2 (by simp; omega) (fun _ h => (hown1.lt _ h).1); have z2 := B2.size)
    | (go_at_call 63; refine (sumOf_seal k _ A2 cap2 _ A cap l _ hown2.bs.1 (hb.below (B2.mono hK))).mono ?_; rintro e w' ⟨rfl, rfl⟩)
    | (at_builtin; refine wpList_app _ rfl (.tmp 32) (.tmp 44) rfl w.heap.size _ (167 :: hd4 k l.length) rfl (hown2.alloc _) (some ⟨w2.heap.size, 0, none⟩) 4 4 (le4 (sumB k l)) rfl rfl _ (lit_bs w2 _ _ (le4 (sumB k l)) (le4_cells _ hs) (by simp [le4, maxLen])) 9 rfl (by simp [hd4, le4]) (by simp; omega) ?_; intro A3 cap3 w3 hown3 hgrow3 hat3; have B3 : Below w.heap.size w w3 := grown_below (B2.alloc z2 _) hgrow3 (by simp; omega) (fun _ h => (hown2.lt _ h).1); have z3 := B3.size)
    | (at_builtin; refine wpList_app _ rfl (.tmp 46) (.tmp 47) rfl w.heap.size _ (167 :: hd4 k l.length ++ le4 (sumB k l)) rfl hown3 A l.length cap l rfl rfl _ (hb.below (B3.mono hK)) (9 + l.length) (by simp [hd4, le4]) (by simp [hd4, le4]; omega) z3 ?_; intro A4 cap4 w4 hown4 hgrow4 hat4; have B4 : Below w.heap.size w w4 := grown_below B3 hgrow4 z3 (fun _ h => (hown3.lt _ h).1)))
  go_ret2
  exact ⟨A4, cap4, rfl, hown4, B4⟩

set_option maxRecDepth 100000 in
theorem seal_long (k : UInt8) (A : Option Addr) (cap : Nat) (n : Nat) (w : World) (hl : 1048576 < n) (hn : n ≤ maxLen) :
    Calls Try.prog 56 #[bv k, .slice A n cap] w fun e w' => e = .returned (.tuple #[.slice none 0 0, .int .i64 8]) ∧ w = w' := by
  unfold maxLen at hn
  go_enter Try.func56, Try.ntmps56
  go_wp2
  go_ret2
  exact ⟨rfl, rfl⟩
end Go.Proofs.Ytkkaehaoahpibaa
namespace Go.Proofs.Ytkkaehaoahpibaa

def at0 (l : List UInt8) (i : Nat) : Nat := (l.getD i 0).toNat
def lenB (l : List UInt8) : Nat := at0 l 2 * 65536 + at0 l 3 * 256 + at0 l 4
def sum4 (l : List UInt8) : Nat := at0 l 5 + at0 l 6 * 256 + at0 l 7 * 65536 + at0 l 8 * 16777216
def payB (l : List UInt8) : List UInt8 := (l.drop 9).take (lenB l)
def sumO (l : List UInt8) : Nat := crcN 0 ((l.drop 1).take 4 ++ payB l)
/-- Kind, payload, number of bytes, error. -/
def openB (l : List UInt8) : UInt8 × List UInt8 × Nat × Nat :=
  if 0 < l.length ∧ at0 l 0 ≠ 167 then (0, [], 0, 10)
  else if l.length < 9 then (0, [], 0, 9)
  else if 1048576 < lenB l then (0, [], 0, 8)
  else if l.length < 9 + lenB l then (0, [], 0, 9)
  else if sum4 l ≠ sumO l then (0, [], 0, 30)
  else (l.getD 1 0, payB l, 9 + lenB l, 0)

theorem at0_lt (l : List UInt8) (i : Nat) : at0 l i < 256 := (l.getD i 0).toNat_lt
theorem payB_length {l : List UInt8} (h : 9 + lenB l ≤ l.length) : (payB l).length = lenB l := by simp [payB]; omega

theorem openB_form {l : List UInt8} (h0 : 0 < l.length) (h1 : ¬ at0 l 0 = 167) : openB l = (0, [], 0, 10) := by simp [openB, h0, h1]
theorem openB_short {l : List UInt8} (h1 : l.length = 0 ∨ at0 l 0 = 167) (h9 : l.length < 9) : openB l = (0, [], 0, 9) := by
  unfold openB
  rw [if_neg (fun ⟨a, b⟩ => by rcases h1 with h | h; exact absurd h (by omega); exact b h), if_pos h9]
section
variable {l : List UInt8} (h1 : at0 l 0 = 167) (h9 : 9 ≤ l.length)
include h1 h9
theorem openB_limit (h : 1048576 < lenB l) : openB l = (0, [], 0, 8) := by
  unfold openB; rw [if_neg (fun ⟨_, b⟩ => b h1), if_neg (by omega), if_pos h]
theorem openB_short2 (hm : lenB l ≤ 1048576) (h : l.length < 9 + lenB l) : openB l = (0, [], 0, 9) := by
  unfold openB; rw [if_neg (fun ⟨_, b⟩ => b h1), if_neg (by omega), if_neg (by omega), if_pos h]
theorem openB_sum (hm : lenB l ≤ 1048576) (h : 9 + lenB l ≤ l.length) (hs : ¬ sum4 l = sumO l) : openB l = (0, [], 0, 30) := by
  unfold openB; rw [if_neg (fun ⟨_, b⟩ => b h1), if_neg (by omega), if_neg (by omega), if_neg (by omega), if_pos hs]
theorem openB_ok (hm : lenB l ≤ 1048576) (h : 9 + lenB l ≤ l.length) (hs : sum4 l = sumO l) : openB l = (l.getD 1 0, payB l, 9 + lenB l, 0) := by
  unfold openB; rw [if_neg (fun ⟨_, b⟩ => b h1), if_neg (by omega), if_neg (by omega), if_neg (by omega), if_neg (by simpa using hs)]
end
theorem sum4_lt (l : List UInt8) : sum4 l < 4294967296 := by
  have := at0_lt l 5; have := at0_lt l 6; have := at0_lt l 7; have := at0_lt l 8
  unfold sum4; omega

/-- The document seals what it took for the payload once more, and looks at the first nine bytes. -/
def again (l : List UInt8) : List UInt8 := sealB (l.getD 1 0) (payB l)
theorem byte_of (b : UInt8) (x : Nat) (h : x % 256 = b.toNat) : UInt8.ofNat x = b := by
  apply UInt8.toNat_inj.1; simp [h]
theorem nine {l : List UInt8} (h : 9 ≤ l.length) : ∃ x0 x1 x2 x3 x4 x5 x6 x7 x8 r, l = x0 :: x1 :: x2 :: x3 :: x4 :: x5 :: x6 :: x7 :: x8 :: r := by
  rcases l with _ | ⟨x0, l⟩
  · simp at h
  rcases l with _ | ⟨x1, l⟩
  · simp at h
  rcases l with _ | ⟨x2, l⟩
  · simp at h
  rcases l with _ | ⟨x3, l⟩
  · simp at h
  rcases l with _ | ⟨x4, l⟩
  · simp at h
  rcases l with _ | ⟨x5, l⟩
  · simp at h
  rcases l with _ | ⟨x6, l⟩
  · simp at h
  rcases l with _ | ⟨x7, l⟩
  · simp at h
  rcases l with _ | ⟨x8, l⟩
  · simp at h
  exact ⟨x0, x1, x2, x3, x4, x5, x6, x7, x8, l, rfl⟩
theorem hd_eq {l : List UInt8} (h9 : 9 ≤ l.length) (hp : (payB l).length = lenB l) : hd4 (l.getD 1 0) (payB l).length = (l.drop 1).take 4 := by
  rw [hp]
  obtain ⟨x0, x1, x2, x3, x4, x5, x6, x7, x8, r, rfl⟩ := nine h9
  have b2 := x2.toNat_lt; have b3 := x3.toNat_lt; have b4 := x4.toNat_lt
  · simp only [hd4, lenB, at0, List.getD_cons_succ, List.getD_cons_zero, List.drop_succ_cons, List.drop_zero, List.take_succ_cons, List.take_zero]
    rw [byte_of x2 _ (by omega), byte_of x3 _ (by omega), byte_of x4 _ (by omega)]
theorem again_sum {l : List UInt8} (h9 : 9 ≤ l.length) (hp : (payB l).length = lenB l) : sumB (l.getD 1 0) (payB l) = sumO l := by
  unfold sumB sumO; rw [hd_eq h9 hp]
theorem again_eq {l : List UInt8} (h9 : 9 ≤ l.length) (hp : (payB l).length = lenB l) : again l = 167 :: (l.drop 1).take 4 ++ le4 (sumO l) ++ payB l := by
  unfold again sealB; rw [again_sum h9 hp, hd_eq h9 hp]
theorem again_iff {l : List UInt8} (h1 : at0 l 0 = 167) (h9 : 9 ≤ l.length) (hp : (payB l).length = lenB l) : (∀ i, i < 9 → at0 (again l) i = at0 l i) ↔ sum4 l = sumO l := by
  have hs : sumO l < 4294967296 := crcN_lt _ _
  rw [again_eq h9 hp]
  generalize sumO l = c at *
  generalize payB l = p at *
  obtain ⟨x0, x1, x2, x3, x4, x5, x6, x7, x8, r, rfl⟩ := nine h9
  have b5 := x5.toNat_lt; have b6 := x6.toNat_lt; have b7 := x7.toNat_lt; have b8 := x8.toNat_lt
  simp only [at0, List.getD_cons_zero] at h1
  simp only [sum4, at0, le4, List.getD_cons_succ, List.getD_cons_zero, List.drop_succ_cons, List.drop_zero, List.take_succ_cons, List.take_zero, List.cons_append, List.nil_append]
  constructor
  · intro h
    have h5 := h 5 (by omega); have h6 := h 6 (by omega); have h7 := h 7 (by omega); have h8 := h 8 (by omega)
    simp at h5 h6 h7 h8
    omega
  · intro h i hi
    match i, hi with
    | 0, _ => simp [h1]
    | 1, _ => rfl
    | 2, _ => rfl
    | 3, _ => rfl
    | 4, _ => rfl
    | 5, _ => simp; omega
    | 6, _ => simp; omega
    | 7, _ => simp; omega
    | 8, _ => simp; omega

theorem le4_sum {c : Nat} (h : c < 4294967296) (x0 x1 x2 x3 x4 : UInt8) (r : List UInt8) : sum4 (x0 :: x1 :: x2 :: x3 :: x4 :: le4 c ++ r) = c := by
  simp [sum4, at0, le4]; omega
/-- What was sealed is opened again, whatever stands behind. -/
theorem openB_seal (k : UInt8) (p r : List UInt8) (hl : p.length ≤ 1048576) : openB (sealB k p ++ r) = (k, p, 9 + p.length, 0) := by
  have hlen : (sealB k p ++ r).length = 9 + p.length + r.length := by rw [List.length_append, sealB_length]
  have hL : lenB (sealB k p ++ r) = p.length := by
    simp [lenB, at0, sealB, hd4]; omega
  have hP : payB (sealB k p ++ r) = p := by
    unfold payB; rw [hL]; simp [sealB, hd4, le4]
  have hS : sum4 (sealB k p ++ r) = sumB k p := by
    have := le4_sum (sumB_lt k p) 167 k (UInt8.ofNat (p.length / 65536)) (UInt8.ofNat (p.length / 256)) (UInt8.ofNat p.length) (p ++ r)
    rw [← this]; simp [sealB, hd4]
  have hO : sumO (sealB k p ++ r) = sumB k p := by
    unfold sumO sumB; rw [hP]; simp [sealB, hd4]
  have h0 : at0 (sealB k p ++ r) 0 = 167 := by simp [at0, sealB]
  rw [openB_ok h0 (by omega) (by omega) (by omega) (by rw [hS, hO]), hP, hL]
  simp [sealB, hd4]

end Go.Proofs.Ytkkaehaoahpibaa
namespace Go.Proofs.Ytkkaehaoahpibaa
open Go.RowKit

set_option maxRecDepth 100000 in
theorem results_four {fn : Func} {t u v x : Tmp} (h : fn.results = #[.tmp t, .tmp u, .tmp v, .tmp x]) (tmps : Array Value) (P : Program) (w : World) :
    (results fn tmps).run P w = .ok (.tuple #[tmps.getD t undef, tmps.getD u undef, tmps.getD v undef, tmps.getD x undef]) w := by simp [results, h]

def OpenPost (w : World) (l : List UInt8) (e : Ending) (w' : World) : Prop :=
  ∃ A' cap', e = .returned (.tuple #[bv (openB l).1, .slice A' (openB l).2.1.length cap', .int .i64 ((openB l).2.2.1 : Nat), .int .i64 ((openB l).2.2.2 : Nat)]) ∧ Ob w' w.heap.size (.slice A' (openB l).2.1.length cap') (openB l).2.1 ∧ Below w.heap.size w w'

set_option maxRecDepth 100000 in
theorem toNat_i64 (a : Nat) (ha : a < 9223372036854775808) : (BitVec.ofInt 64 (a : Int)).toNat = a := by
  rw [BitVec.ofInt_natCast, BitVec.toNat_ofNat]; exact Nat.mod_eq_of_lt (by omega)
set_option maxRecDepth 100000 in
theorem or_i64 (a b : Nat) (ha : a < 9223372036854775808) (hb : b < 9223372036854775808) : bits .or .i64 (a : Int) (b : Int) = ((a ||| b : Nat) : Int) := by
  have hx : a ||| b < 2 ^ 63 := Nat.or_lt_two_pow (by omega) (by omega)
  show IntKind.i64.wrap ((BitVec.ofInt 64 (a : Int) ||| BitVec.ofInt 64 (b : Int)).toNat : Int) = _
  rw [BitVec.toNat_or, toNat_i64 a ha, toNat_i64 b hb, IntKind.wrap_i64]
  omega
set_option maxRecDepth 100000 in
theorem i64_or_add (a b i : Nat) (ha : a < 9223372036854775808) (hb : b < 2 ^ i) (hm : a % 2 ^ i = 0) (hb' : b < 9223372036854775808) : bits .or .i64 (a : Int) (b : Int) = ((a + b : Nat) : Int) := by
  rw [or_i64 a b ha hb', nat_join i a b hm hb]
set_option maxRecDepth 100000 in
theorem len_or {a b c : Nat} (ha : a < 256) (hb : b < 256) (hc : c < 256) : bits .or .i64 (bits .or .i64 ((a : Int) * 65536) ((b : Int) * 256)) (c : Int) = ((a * 65536 + b * 256 + c : Nat) : Int) := by
  rw [show ((a : Int) * 65536) = ((a * 65536 : Nat) : Int) by omega, show ((b : Int) * 256) = ((b * 256 : Nat) : Int) by omega, i64_or_add (a * 65536) (b * 256) 16 (by omega) (by omega) (by omega) (by omega), i64_or_add _ c 8 (by omega) (by omega) (by omega) (by omega)]
set_option maxRecDepth 100000 in
theorem u32_or_add (a b i : Nat) (ha : a < 2 ^ i) (hm : b % 2 ^ i = 0) (ha' : a < 4294967296) (hb' : b < 4294967296) : bits .or .u32 (a : Int) (b : Int) = ((a + b : Nat) : Int) := by
  rw [u32_or_nat a b ha' hb', Nat.or_comm, nat_join i b a hm ha, Nat.add_comm]
set_option maxRecDepth 100000 in
theorem sum_or {a b c d : Nat} (ha : a < 256) (hb : b < 256) (hc : c < 256) (hd : d < 256) :
    bits .or .u32 (bits .or .u32 (bits .or .u32 (a : Int) ((b : Int) * 256)) ((c : Int) * 65536)) ((d : Int) * 16777216) = ((a + b * 256 + c * 65536 + d * 16777216 : Nat) : Int) := by
  rw [show ((b : Int) * 256) = ((b * 256 : Nat) : Int) by omega, show ((c : Int) * 65536) = ((c * 65536 : Nat) : Int) by omega, show ((d : Int) * 16777216) = ((d * 16777216 : Nat) : Int) by omega,
    u32_or_add a (b * 256) 8 (by omega) (by omega) (by omega) (by omega), u32_or_add _ (c * 65536) 16 (by omega) (by omega) (by omega) (by omega), u32_or_add _ (d * 16777216) 24 (by omega) (by omega) (by omega) (by omega)]

set_option maxRecDepth 100000 in
theorem sumOf_open (K : Nat) (A : Option Addr) (cap : Nat) (h : List UInt8) (n K' : Nat) (A' : Option Addr) (n' cap' : Nat) (w : World) (hb : Bs w K A cap h) (hn : h.length = n) (hl : 9 ≤ h.length) (hb' : Bs w K' A' cap' (payB h)) (hn' : (payB h).length = n') :
    Calls Try.prog 63 #[.slice A n cap, .slice A' n' cap'] w fun e w' => e = .returned (.int .u32 (sumO h : Int)) ∧ w = w' := by
  subst hn hn'
  exact sumOf_any K A cap h K' A' cap' (payB h) w hb (by omega) hb'

set_option maxRecDepth 100000 in
theorem Bs.g {w : World} {K cap : Nat} {A : Option Addr} {l : List UInt8} (h : Bs w K A cap l) {k : Nat} (hk : k < l.length) : ∃ ad : Addr, A = some ad ∧ w.cell? (ad.add k) = some (.int .u8 (at0 l k : Int)) := by
  obtain ⟨ad, e, _, hc⟩ := h.get hk
  exact ⟨ad, e, by rw [hc]; simp [at0, hk]⟩
set_option maxRecDepth 100000 in
theorem below_drewNo {B : Nat} {w : World} (n : Nat) : Below B w (w.drewN n) := ⟨rfl, rfl, rfl, Nat.le_refl _, fun _ _ => rfl⟩

section
variable (K cap : Nat) (l : List UInt8) (w : World)
set_option maxRecDepth 100000 in
theorem open_bad {n : Nat} (hn : openB l = (0, [], 0, n)) {w' : World} (hw : Below w.heap.size w w') : OpenPost w l (.returned (.tuple #[.int .u8 0, .slice none 0 0, .int .i64 0, .int .i64 (n : Int)])) w' :=
  ⟨none, 0, by rw [hn]; rfl, by rw [hn]; exact Ob.empty _ _, hw⟩

set_option maxRecDepth 100000 in
theorem open_good (hn : openB l = (l.getD 1 0, payB l, 9 + lenB l, 0)) {W w1 : World} (hW : Below w.heap.size w W) {A1 : Option Addr} {cap1 : Nat} (hob : Ob w1 W.heap.size (.slice A1 (payB l).length cap1) (payB l)) (hbl : Below W.heap.size W w1) {x : Int} (hx : x = 9 + (lenB l : Int)) :
    OpenPost w l (.returned (.tuple #[.int .u8 (at0 l 1 : Int), .slice A1 (payB l).length cap1, .int .i64 x, .int .i64 0])) w1 := by
  subst hx
  refine ⟨A1, cap1, ?_, ?_, hW.trans (hbl.mono hW.size)⟩
  · rw [hn]; rfl
  · rw [hn]; exact hob.more hW.size

set_option maxRecDepth 100000 in
theorem open_none (A : Option Addr) (h0 : l.length = 0) : Calls Try.prog 61 #[.slice A 0 cap] w (OpenPost w l) := by
  have hp := open_bad l w (openB_short (.inl h0) (by omega)) (Below.refl _ w)
  have HP := Lib.hid hp
  clear hp h0
  go_enter Try.func61, Try.ntmps61
  go_wp2
  refine bodyPost_ret (results_four rfl _ _ _) rfl ?_; exact HP.out

variable {ad : Addr} (hb : Bs w K (some ad) cap l) (hK : K ≤ w.heap.size)
include hb
set_option maxRecDepth 100000 in
theorem open_form (h0 : 0 < l.length) (h1 : ¬ at0 l 0 = 167) : Calls Try.prog 61 #[.slice (some ad) l.length cap] w (OpenPost w l) := by
  have hle := hb.le
  have hmax := hb.max
  unfold maxLen at hmax
  have hp := open_bad l w (openB_form h0 h1) (Below.refl _ w)
  have HP := Lib.hid hp
  clear hp
  have c0 : w.cell? ad = some (.int .u8 (at0 l 0 : Int)) := hb.c0 h0
  have hne : ((at0 l 0 : Int) == 167) = false := by simp; omega
  go_enter Try.func61, Try.ntmps61
  go_wp2
  refine bodyPost_ret (results_four rfl _ _ _) rfl ?_; exact HP.out

set_option maxRecDepth 100000 in
theorem open_few (h0 : 0 < l.length) (h1 : at0 l 0 = 167) (h9 : l.length < 9) : Calls Try.prog 61 #[.slice (some ad) l.length cap] w (OpenPost w l) := by
  have hle := hb.le
  have hmax := hb.max
  unfold maxLen at hmax
  have hp := open_bad l w (openB_short (.inr h1) h9) (Below.refl _ w)
  have HP := Lib.hid hp
  clear hp
  have c0 : w.cell? ad = some (.int .u8 (at0 l 0 : Int)) := hb.c0 h0
  rw [h1] at c0
  clear h1
  go_enter Try.func61, Try.ntmps61
  go_wp2
  refine bodyPost_ret (results_four rfl _ _ _) rfl ?_; exact HP.out

set_option maxRecDepth 100000 in
set_option maxHeartbeats 1600000 in
theorem open_limit (h1 : at0 l 0 = 167) (h9 : 9 ≤ l.length) (hm : 1048576 < lenB l) : Calls Try.prog 61 #[.slice (some ad) l.length cap] w (OpenPost w l) := by
  have hp := fun w' (hbl : Below w.heap.size w w') => open_bad l w (openB_limit h1 h9 hm) hbl
  have HP := Lib.hid hp
  clear hp
  have hle := hb.le
  have hmax := hb.max
  unfold maxLen at hmax
  have c0 : w.cell? ad = some (.int .u8 (at0 l 0 : Int)) := hb.c0 (by omega)
  have c1 : w.cell? ⟨ad.block, ad.off + 1, none⟩ = some (.int .u8 (at0 l 1 : Int)) := hb.c 1 (by omega) (by omega)
  have c2 : w.cell? ⟨ad.block, ad.off + 2, none⟩ = some (.int .u8 (at0 l 2 : Int)) := hb.c 2 (by omega) (by omega)
  have c3 : w.cell? ⟨ad.block, ad.off + 3, none⟩ = some (.int .u8 (at0 l 3 : Int)) := hb.c 3 (by omega) (by omega)
  have c4 : w.cell? ⟨ad.block, ad.off + 4, none⟩ = some (.int .u8 (at0 l 4 : Int)) := hb.c 4 (by omega) (by omega)
  have c5 : w.cell? ⟨ad.block, ad.off + 5, none⟩ = some (.int .u8 (at0 l 5 : Int)) := hb.c 5 (by omega) (by omega)
  have c6 : w.cell? ⟨ad.block, ad.off + 6, none⟩ = some (.int .u8 (at0 l 6 : Int)) := hb.c 6 (by omega) (by omega)
  have c7 : w.cell? ⟨ad.block, ad.off + 7, none⟩ = some (.int .u8 (at0 l 7 : Int)) := hb.c 7 (by omega) (by omega)
  have c8 : w.cell? ⟨ad.block, ad.off + 8, none⟩ = some (.int .u8 (at0 l 8 : Int)) := hb.c 8 (by omega) (by omega)
  rw [h1] at c0
  have hor : bits .or .i64 (bits .or .i64 ((at0 l 2 : Int) * 65536) ((at0 l 3 : Int) * 256)) (at0 l 4 : Int) = (lenB l : Int) := len_or (at0_lt l 2) (at0_lt l 3) (at0_lt l 4)
  have hsm : bits .or .u32 (bits .or .u32 (bits .or .u32 (at0 l 5 : Int) ((at0 l 6 : Int) * 256)) ((at0 l 7 : Int) * 65536)) ((at0 l 8 : Int) * 16777216) = (sum4 l : Int) := sum_or (at0_lt l 5) (at0_lt l 6) (at0_lt l 7) (at0_lt l 8)
  have b2 := at0_lt l 2
  have b3 := at0_lt l 3
  have b4 := at0_lt l 4
  have b5 := at0_lt l 5
  have b6 := at0_lt l 6
  have b7 := at0_lt l 7
  have b8 := at0_lt l 8
  clear h1
  go_enter Try.func61, Try.ntmps61
  go_wp2
  go_quiet (fail)
  go_wp2
  refine bodyPost_ret (results_four rfl _ _ _) rfl ?_; exact HP.out _ (below_drewNo _)

set_option maxRecDepth 100000 in
set_option maxHeartbeats 1600000 in
theorem open_cut (h1 : at0 l 0 = 167) (h9 : 9 ≤ l.length) (hm : lenB l ≤ 1048576) (h : l.length < 9 + lenB l) : Calls Try.prog 61 #[.slice (some ad) l.length cap] w (OpenPost w l) := by
  have hp := fun w' (hbl : Below w.heap.size w w') => open_bad l w (openB_short2 h1 h9 hm h) hbl
  have HP := Lib.hid hp
  clear hp
  have hle := hb.le
  have hmax := hb.max
  unfold maxLen at hmax
  have c0 : w.cell? ad = some (.int .u8 (at0 l 0 : Int)) := hb.c0 (by omega)
  have c1 : w.cell? ⟨ad.block, ad.off + 1, none⟩ = some (.int .u8 (at0 l 1 : Int)) := hb.c 1 (by omega) (by omega)
  have c2 : w.cell? ⟨ad.block, ad.off + 2, none⟩ = some (.int .u8 (at0 l 2 : Int)) := hb.c 2 (by omega) (by omega)
  have c3 : w.cell? ⟨ad.block, ad.off + 3, none⟩ = some (.int .u8 (at0 l 3 : Int)) := hb.c 3 (by omega) (by omega)
  have c4 : w.cell? ⟨ad.block, ad.off + 4, none⟩ = some (.int .u8 (at0 l 4 : Int)) := hb.c 4 (by omega) (by omega)
  have c5 : w.cell? ⟨ad.block, ad.off + 5, none⟩ = some (.int .u8 (at0 l 5 : Int)) := hb.c 5 (by omega) (by omega)
  have c6 : w.cell? ⟨ad.block, ad.off + 6, none⟩ = some (.int .u8 (at0 l 6 : Int)) := hb.c 6 (by omega) (by omega)
  have c7 : w.cell? ⟨ad.block, ad.off + 7, none⟩ = some (.int .u8 (at0 l 7 : Int)) := hb.c 7 (by omega) (by omega)
  have c8 : w.cell? ⟨ad.block, ad.off + 8, none⟩ = some (.int .u8 (at0 l 8 : Int)) := hb.c 8 (by omega) (by omega)
  rw [h1] at c0
  have hor : bits .or .i64 (bits .or .i64 ((at0 l 2 : Int) * 65536) ((at0 l 3 : Int) * 256)) (at0 l 4 : Int) = (lenB l : Int) := len_or (at0_lt l 2) (at0_lt l 3) (at0_lt l 4)
  have hsm : bits .or .u32 (bits .or .u32 (bits .or .u32 (at0 l 5 : Int) ((at0 l 6 : Int) * 256)) ((at0 l 7 : Int) * 65536)) ((at0 l 8 : Int) * 16777216) = (sum4 l : Int) := sum_or (at0_lt l 5) (at0_lt l 6) (at0_lt l 7) (at0_lt l 8)
  have b2 := at0_lt l 2
  have b3 := at0_lt l 3
  have b4 := at0_lt l 4
  have b5 := at0_lt l 5
  have b6 := at0_lt l 6
  have b7 := at0_lt l 7
  have b8 := at0_lt l 8
  clear h1
  go_enter Try.func61, Try.ntmps61
  go_wp2
  go_quiet (fail)
  go_wp2
  refine bodyPost_ret (results_four rfl _ _ _) rfl ?_; exact HP.out _ (below_drewNo _)

set_option maxRecDepth 100000 in
set_option maxHeartbeats 1600000 in
theorem open_sum (h1 : at0 l 0 = 167) (h9 : 9 ≤ l.length) (hm : lenB l ≤ 1048576) (h : 9 + lenB l ≤ l.length) (hs : ¬ sum4 l = sumO l) : Calls Try.prog 61 #[.slice (some ad) l.length cap] w (OpenPost w l) := by
  have hp := fun w' (hbl : Below w.heap.size w w') => open_bad l w (openB_sum h1 h9 hm h hs) hbl
  have HP := Lib.hid hp
  clear hp
  have hle := hb.le
  have hmax := hb.max
  unfold maxLen at hmax
  have c0 : w.cell? ad = some (.int .u8 (at0 l 0 : Int)) := hb.c0 (by omega)
  have c1 : w.cell? ⟨ad.block, ad.off + 1, none⟩ = some (.int .u8 (at0 l 1 : Int)) := hb.c 1 (by omega) (by omega)
  have c2 : w.cell? ⟨ad.block, ad.off + 2, none⟩ = some (.int .u8 (at0 l 2 : Int)) := hb.c 2 (by omega) (by omega)
  have c3 : w.cell? ⟨ad.block, ad.off + 3, none⟩ = some (.int .u8 (at0 l 3 : Int)) := hb.c 3 (by omega) (by omega)
  have c4 : w.cell? ⟨ad.block, ad.off + 4, none⟩ = some (.int .u8 (at0 l 4 : Int)) := hb.c 4 (by omega) (by omega)
  have c5 : w.cell? ⟨ad.block, ad.off + 5, none⟩ = some (.int .u8 (at0 l 5 : Int)) := hb.c 5 (by omega) (by omega)
  have c6 : w.cell? ⟨ad.block, ad.off + 6, none⟩ = some (.int .u8 (at0 l 6 : Int)) := hb.c 6 (by omega) (by omega)
  have c7 : w.cell? ⟨ad.block, ad.off + 7, none⟩ = some (.int .u8 (at0 l 7 : Int)) := hb.c 7 (by omega) (by omega)
  have c8 : w.cell? ⟨ad.block, ad.off + 8, none⟩ = some (.int .u8 (at0 l 8 : Int)) := hb.c 8 (by omega) (by omega)
  rw [h1] at c0
  have hor : bits .or .i64 (bits .or .i64 ((at0 l 2 : Int) * 65536) ((at0 l 3 : Int) * 256)) (at0 l 4 : Int) = (lenB l : Int) := len_or (at0_lt l 2) (at0_lt l 3) (at0_lt l 4)
  have hsm : bits .or .u32 (bits .or .u32 (bits .or .u32 (at0 l 5 : Int) ((at0 l 6 : Int) * 256)) ((at0 l 7 : Int) * 65536)) ((at0 l 8 : Int) * 16777216) = (sum4 l : Int) := sum_or (at0_lt l 5) (at0_lt l 6) (at0_lt l 7) (at0_lt l 8)
  have b2 := at0_lt l 2
  have b3 := at0_lt l 3
  have b4 := at0_lt l 4
  have b5 := at0_lt l 5
  have b6 := at0_lt l 6
  have b7 := at0_lt l 7
  have b8 := at0_lt l 8
  clear h1
  have hne : ((sum4 l : Int) != (sumO l : Int)) = true := by rw [bne_iff_ne]; omega
  have HS := Lib.hid hs
  clear hs
  by_cases hc : cap = 9
  · have hl9 : l.length = 9 := by omega
    have hm0 : lenB l = 0 := by omega
    have hpay : Bs w K (some ad) 0 (payB l) := by
      have := hb.cut (i := 9) (j := 9) (by omega) (by omega)
      rw [if_pos hc, hc] at this
      unfold payB
      rw [hm0]
      exact this
    have hpl : (payB l).length = 0 := by rw [payB_length h, hm0]
    subst hc
    rw [hm0] at hor
    rw [hl9]
    have HM := Lib.hid hm0
    have HL := Lib.hid hl9
    have HPL := Lib.hid hpl
    clear hm0 hl9 hpl hm h h9 hle hmax
    go_enter Try.func61, Try.ntmps61
    go_wp2
    go_quiet (fail)
    go_wp2
    go_quiet (fail)
    go_wp2_with (go_at_call 63; refine (sumOf_open K _ _ l _ K _ _ _ _ (hb.drewN _) HL.out (by rw [HL.out]; omega) (hpay.drewN _) HPL.out).mono ?_; rintro e w' ⟨rfl, rfl⟩)
    refine bodyPost_ret (results_four rfl _ _ _) rfl ?_; exact HP.out _ (below_drewNo _)

  · have hpay := hb.cutS (i := 9) (j := 9 + lenB l) (by omega) (by omega) h (by omega)
    have hpl := payB_length h
    rw [show 9 + lenB l - 9 = lenB l by omega] at hpay
    change Bs w K _ _ (payB l) at hpay
    have e9 : 9 + lenB l - 9 = lenB l := by omega
    have i1 : (1 : Int) < (l.length : Int) := by omega
    have HPL := Lib.hid hpl
    clear hpl
    go_enter Try.func61, Try.ntmps61
    go_wp2
    go_quiet (fail)
    go_wp2
    go_quiet (fail)
    go_wp2_with (go_at_call 63; refine (sumOf_open K _ _ l _ K _ _ _ _ (hb.drewN _) rfl h9 (hpay.drewN _) HPL.out).mono ?_; rintro e w' ⟨rfl, rfl⟩)
    refine bodyPost_ret (results_four rfl _ _ _) rfl ?_; exact HP.out _ (below_drewNo _)


include hK
set_option maxRecDepth 100000 in
set_option maxHeartbeats 1600000 in
theorem open_ok (h1 : at0 l 0 = 167) (h9 : 9 ≤ l.length) (hm : lenB l ≤ 1048576) (h : 9 + lenB l ≤ l.length) (hs : sum4 l = sumO l) : Calls Try.prog 61 #[.slice (some ad) l.length cap] w (OpenPost w l) := by
  have hp := openB_ok h1 h9 hm h hs
  have HP := Lib.hid hp
  clear hp
  have hle := hb.le
  have hmax := hb.max
  unfold maxLen at hmax
  have c0 : w.cell? ad = some (.int .u8 (at0 l 0 : Int)) := hb.c0 (by omega)
  have c1 : w.cell? ⟨ad.block, ad.off + 1, none⟩ = some (.int .u8 (at0 l 1 : Int)) := hb.c 1 (by omega) (by omega)
  have c2 : w.cell? ⟨ad.block, ad.off + 2, none⟩ = some (.int .u8 (at0 l 2 : Int)) := hb.c 2 (by omega) (by omega)
  have c3 : w.cell? ⟨ad.block, ad.off + 3, none⟩ = some (.int .u8 (at0 l 3 : Int)) := hb.c 3 (by omega) (by omega)
  have c4 : w.cell? ⟨ad.block, ad.off + 4, none⟩ = some (.int .u8 (at0 l 4 : Int)) := hb.c 4 (by omega) (by omega)
  have c5 : w.cell? ⟨ad.block, ad.off + 5, none⟩ = some (.int .u8 (at0 l 5 : Int)) := hb.c 5 (by omega) (by omega)
  have c6 : w.cell? ⟨ad.block, ad.off + 6, none⟩ = some (.int .u8 (at0 l 6 : Int)) := hb.c 6 (by omega) (by omega)
  have c7 : w.cell? ⟨ad.block, ad.off + 7, none⟩ = some (.int .u8 (at0 l 7 : Int)) := hb.c 7 (by omega) (by omega)
  have c8 : w.cell? ⟨ad.block, ad.off + 8, none⟩ = some (.int .u8 (at0 l 8 : Int)) := hb.c 8 (by omega) (by omega)
  rw [h1] at c0
  have hor : bits .or .i64 (bits .or .i64 ((at0 l 2 : Int) * 65536) ((at0 l 3 : Int) * 256)) (at0 l 4 : Int) = (lenB l : Int) := len_or (at0_lt l 2) (at0_lt l 3) (at0_lt l 4)
  have hsm : bits .or .u32 (bits .or .u32 (bits .or .u32 (at0 l 5 : Int) ((at0 l 6 : Int) * 256)) ((at0 l 7 : Int) * 65536)) ((at0 l 8 : Int) * 16777216) = (sum4 l : Int) := sum_or (at0_lt l 5) (at0_lt l 6) (at0_lt l 7) (at0_lt l 8)
  have b2 := at0_lt l 2
  have b3 := at0_lt l 3
  have b4 := at0_lt l 4
  have b5 := at0_lt l 5
  have b6 := at0_lt l 6
  have b7 := at0_lt l 7
  have b8 := at0_lt l 8
  clear h1
  have hne : ((sum4 l : Int) != (sumO l : Int)) = false := by rw [bne_eq_false_iff_eq]; omega
  have HS := Lib.hid hs
  clear hs
  by_cases hc : cap = 9
  · have hl9 : l.length = 9 := by omega
    have hm0 : lenB l = 0 := by omega
    have hpay : Bs w K (some ad) 0 (payB l) := by
      have := hb.cut (i := 9) (j := 9) (by omega) (by omega)
      rw [if_pos hc, hc] at this
      unfold payB
      rw [hm0]
      exact this
    have hpl : (payB l).length = 0 := by rw [payB_length h, hm0]
    subst hc
    rw [hm0] at hor
    rw [hl9]
    have HM := Lib.hid hm0
    have HL := Lib.hid hl9
    have HPL := Lib.hid hpl
    clear hm0 hl9 hpl hm h h9 hle hmax
    go_enter Try.func61, Try.ntmps61
    go_wp2
    go_quiet (fail)
    go_wp2
    go_quiet (fail)
    go_wp2_with (go_at_call 63; refine (sumOf_open K _ _ l _ K _ _ _ _ (hb.drewN _) HL.out (by rw [HL.out]; omega) (hpay.drewN _) HPL.out).mono ?_; rintro e w' ⟨rfl, rfl⟩)
    go_wp2
    go_region_held3 (fun w' => w'.cell? ⟨ad.block, ad.off + 1, none⟩ = some (.int .u8 (at0 l 1 : Int))) (((try dsimp only); go_split_ands; (repeat' apply And.intro) <;> first | assumption | (apply kept; assumption; assumption) | (apply via; assumption; assumption; apply Below.size; assumption) | (go_grown; done) | (repeat' first | assumption | (simp; done) | apply keptD | apply keptA | (apply kept; assumption)))) ((go_at_call 67; refine (bclone_any K _ _ _ (payB l) _ HPL.out (hpay.drewN _) (by simpa using hK) (by rw [HPL.out]; omega)).mono ?_; rintro e w1 ⟨A1, cap1, rfl, hob, hbl⟩))
    go_wp2
    refine bodyPost_ret (results_four rfl _ _ _) rfl ?_; exact open_good l w HP.out (below_drewNo _) hob hbl (by rw [HM.out]; rfl)

  · have hpay := hb.cutS (i := 9) (j := 9 + lenB l) (by omega) (by omega) h (by omega)
    have hpl := payB_length h
    rw [show 9 + lenB l - 9 = lenB l by omega] at hpay
    change Bs w K _ _ (payB l) at hpay
    have e9 : 9 + lenB l - 9 = lenB l := by omega
    have i1 : (1 : Int) < (l.length : Int) := by omega
    have HPL := Lib.hid hpl
    clear hpl
    go_enter Try.func61, Try.ntmps61
    go_wp2
    go_quiet (fail)
    go_wp2
    go_quiet (fail)
    go_wp2_with (go_at_call 63; refine (sumOf_open K _ _ l _ K _ _ _ _ (hb.drewN _) rfl h9 (hpay.drewN _) HPL.out).mono ?_; rintro e w' ⟨rfl, rfl⟩)
    go_wp2
    go_region_held3 (fun w' => w'.cell? ⟨ad.block, ad.off + 1, none⟩ = some (.int .u8 (at0 l 1 : Int))) (((try dsimp only); go_split_ands; (repeat' apply And.intro) <;> first | assumption | (apply kept; assumption; assumption) | (apply via; assumption; assumption; apply Below.size; assumption) | (go_grown; done) | (repeat' first | assumption | (simp; done) | apply keptD | apply keptA | (apply kept; assumption)))) ((go_at_call 67; refine (bclone_any K _ _ _ (payB l) _ HPL.out (hpay.drewN _) (by simpa using hK) (by rw [HPL.out]; omega)).mono ?_; rintro e w1 ⟨A1, cap1, rfl, hob, hbl⟩))
    go_wp2
    refine bodyPost_ret (results_four rfl _ _ _) rfl ?_; exact open_good l w HP.out (below_drewNo _) hob hbl rfl


omit hb hK in
set_option maxRecDepth 100000 in
theorem open_any (A : Option Addr) (hb : Bs w K A cap l) (hK : K ≤ w.heap.size) : Calls Try.prog 61 #[.slice A l.length cap] w (OpenPost w l) := by
  rcases Nat.eq_zero_or_pos l.length with h0 | h0
  · have := open_none cap l w A h0
    rw [← h0] at this
    exact this
  · obtain ⟨ad, rfl, _⟩ := hb.some_ h0
    by_cases h1 : at0 l 0 = 167
    · by_cases h9 : 9 ≤ l.length
      · by_cases hm : lenB l ≤ 1048576
        · by_cases h : 9 + lenB l ≤ l.length
          · by_cases hs : sum4 l = sumO l
            · exact open_ok K cap l w hb hK h1 h9 hm h hs
            · exact open_sum K cap l w hb h1 h9 hm h hs
          · exact open_cut K cap l w hb h1 h9 hm (by omega)
        · exact open_limit K cap l w hb h1 h9 (by omega)
      · exact open_few K cap l w hb h0 h1 (by omega)
    · exact open_form K cap l w hb h0 h1
end
end Go.Proofs.Ytkkaehaoahpibaa
namespace Go.Proofs.Ytkkaehaoahpibaa
open Go.RowKit

set_option maxHeartbeats 800000 in
theorem refCrc_any (s : Nat) (hs : s < 4294967296) (K : Nat) (A : Option Addr) (cap : Nat) (l : List UInt8) (w : World) (hb : Bs w K A cap l) :
    Calls Try.prog 57 #[.int .u32 (s : Int), .slice A l.length cap] w fun e w' => e = .returned (.int .u32 (crcN s l : Int)) ∧ w = w' := by
  have hle := hb.le
  have hmax := hb.max
  unfold maxLen at hmax
  go_enter Try.func57, Try.ntmps57
  go_wp2
  go_loop [5, 6] (fun c i => ∃ k : Nat, k ≤ l.length ∧ i = .int .i64 k ∧ c = .int .u32 (crcTo (fullN - s) (l.take k))) (fun _ i => l.length - (intOf i).toNat)
  case atStart => exact ⟨0, Nat.zero_le _, rfl, by simp [crcTo, fullN]; omega⟩
  case round =>
    obtain ⟨k, hk, rfl, rfl⟩ := hrel
    have hc := crcTo_lt (l.take k) (c := fullN - s) (by unfold fullN; omega)
    by_cases hlt : k < l.length
    · obtain ⟨ad, rfl, _, hcell⟩ := hb.get hlt
      have hstep := crcTo_take (c := fullN - s) hlt
      have hy := l[k].toNat_lt
      generalize l[k] = b at *
      generalize crcTo (fullN - s) (l.take k) = c at *
      have Hs := Lib.hid hstep
      clear hstep
      have ex : bits .xor .u32 (c : Int) (b.toNat : Int) = ((c ^^^ b.toNat : Nat) : Int) := u32_xor_nat _ _ hc (by omega)
      go_wp2
      clear ex
      have hx := xor_byte_lt hc b
      go_loop [5, 7] (fun c' i => ∃ j : Nat, j ≤ 8 ∧ i = .int .i64 j ∧ c' = .int .u32 (bitsTo (c ^^^ b.toNat) j)) (fun _ i => 8 - (intOf i).toNat)
      case atStart => exact ⟨0, Nat.zero_le _, rfl, rfl⟩
      case round =>
        obtain ⟨j, hj, rfl, rfl⟩ := hrel
        have hz := bitsTo_lt hx j
        by_cases hlt : j < 8
        · have hzz : bitStep (bitsTo (c ^^^ b.toNat) j) = bitsTo (c ^^^ b.toNat) (j + 1) := rfl
          generalize bitsTo (c ^^^ b.toNat) j = z at *
          have Hz := Lib.hid hzz
          clear hzz
          have ez : bits .xor .u32 ((z : Int) / 2) 2197175160 = (((z / 2) ^^^ polyN : Nat) : Int) := by
            rw [show (2197175160 : Int) = ((2197175160 : Nat) : Int) from rfl, show ((z : Int) / 2) = ((z / 2 : Nat) : Int) by omega, u32_xor_nat _ _ (by omega) (by omega)]; rfl
          by_cases hodd : z % 2 = 1
          · have ho : (z : Int) % 2 = 1 := by omega
            have Ho := Lib.hid hodd
            clear hodd
            go_wp2
            go_round
            case rel => exact ⟨j + 1, by omega, by go_num, by rw [← Hz.out, bitStep, if_pos Ho.out]⟩
            case measure => simp [intOf]; omega
          · have ho : (z : Int) % 2 = 0 := by omega
            have Ho := Lib.hid hodd
            clear hodd
            go_wp2
            go_round
            case rel => exact ⟨j + 1, by omega, by go_num, by rw [← Hz.out, bitStep, if_neg Ho.out]; rfl⟩
            case measure => simp [intOf]; omega
        · have hj8 : j = 8 := by omega
          subst hj8
          have hzz : bitsTo (c ^^^ b.toNat) 8 = byteStep c b := rfl
          rw [hzz] at hz ⊢
          generalize byteStep c b = y at *
          clear hzz
          go_wp2
          go_round
          case rel => exact ⟨k + 1, by omega, by go_num, by rw [Hs.out]⟩
          case measure => simp [intOf]; omega
    · have hkl : k = l.length := by omega
      subst hkl
      rw [List.take_length] at hc ⊢
      go_wp2
      go_ret
      exact ⟨ret_int (by unfold crcN fullN at *; omega), rfl⟩

end Go.Proofs.Ytkkaehaoahpibaa
namespace Go.Proofs.Ytkkaehaoahpibaa
open Go.RowKit

set_option maxRecDepth 100000 in
theorem hd4_cells (k : UInt8) (n : Nat) (h : n ≤ 1048576) : [bv k, .int .u8 ((n : Int) / 65536), .int .u8 ((n : Int) / 256 % 256), .int .u8 ((n : Int) % 256)] = (hd4 k n).map bv := by
  have := head_cells k n h
  simp only [List.map_cons, List.cons.injEq] at this
  exact this.2
set_option maxRecDepth 100000 in
theorem le4_step (c j : Nat) (hj : j < 4) : (le4 c).take j ++ [UInt8.ofNat (c / 256 ^ j)] = (le4 c).take (j + 1) := by
  match j, hj with
  | 0, _ => simp [le4]
  | 1, _ => simp [le4]
  | 2, _ => simp [le4]
  | 3, _ => simp [le4]
set_option maxRecDepth 100000 in
theorem le4_byte (x : Nat) : [Value.int .u8 ((x : Int) % 256)] = [UInt8.ofNat x].map bv := by simp [bv]
set_option maxRecDepth 100000 in
theorem le4_len (c j : Nat) (hj : j ≤ 4) : ((le4 c).take j).length = j := by simp [le4]; omega

set_option maxRecDepth 100000 in
theorem refCrc_zero (K : Nat) (A : Option Addr) (n cap : Nat) (l : List UInt8) (w : World) (hn : l.length = n) (hb : Bs w K A cap l) :
    Calls Try.prog 57 #[.int .u32 0, .slice A n cap] w fun e w' => e = .returned (.int .u32 (crcN 0 l : Int)) ∧ w = w' := by
  subst hn
  exact refCrc_any 0 (by omega) K A cap l w hb

set_option maxRecDepth 100000 in
set_option maxHeartbeats 1600000 in
theorem refSeal_ok (k : UInt8) (K : Nat) (A : Option Addr) (cap : Nat) (l : List UInt8) (w : World) (hb : Bs w K A cap l) (hK : K ≤ w.heap.size) (hl : l.length ≤ 1048576) :
    Calls Try.prog 39 #[bv k, .slice A l.length cap] w (SealPost w k l) := by
  have hle := hb.le
  have hmax := hb.max
  unfold maxLen at hmax
  have hs := sumB_lt k l
  have in1 := fun cs hcs => lit_bsH w 5 w.heap.size rfl cs 4 (hd4 k l.length) hcs rfl (by decide)
  have IN1 := Lib.hid in1
  clear in1
  have H1 : w.heap.size < w.heap.size + 1 := by omega
  go_enter Try.func39, Try.ntmps39
  go_wp2_with (first
    | (at_builtin; refine wpList_app _ rfl (.tmp 28) (.tmp 29) rfl (w.heap.size + 1) (.slice (some ⟨w.heap.size + 1, 0, none⟩) 0 0) [] rfl (lit_ob _ (w.heap.size + 1) (w.heap.size + 1) (by simp) (by omega) _ 0 [] rfl rfl (by decide)) (some ⟨w.heap.size, 0, none⟩) 4 4 (hd4 k l.length) rfl rfl (w.heap.size + 1) (Bs.alloc (IN1.out _ (hd4_cells k _ hl)) (by simp) _) 4 rfl (by simp [hd4]) (by simp) ?_; intro A2 cap2 w2 hown2 hgrow2 hat2; have B2 : Below (w.heap.size + 1) (w.alloc (.cells _ _)) w2 := grown_below ((Below.refl _ _).alloc (by simp) _) hgrow2 (by simp) (by simp [Value.ownBlock]); have z2 := B2.size; have IN2 := (IN1.out _ (hd4_cells k _ hl)).below B2; have BB2 : Below w.heap.size w w2 := ((Below.refl _ w).alloc (Nat.le_refl _) _).trans (B2.mono (by omega)); simp at z2)
    | (at_builtin; refine wpList_app _ rfl (.tmp 30) (.tmp 31) rfl (w.heap.size + 1) _ (hd4 k l.length) rfl hown2 A l.length cap l rfl rfl _ (hb.below (BB2.mono hK)) (4 + l.length) (by simp [hd4]) (by simp [hd4]; omega) (by omega) ?_; intro A3 cap3 w3 hown3 hgrow3 hat3; have B3 : Below (w.heap.size + 1) w2 w3 := grown_below (Below.refl _ _) hgrow3 (by omega) (fun _ h => (hown2.lt _ h).1); have z3 := B3.size; have IN3 := IN2.below B3; have BB3 : Below w.heap.size w w3 := BB2.trans (B3.mono (by omega)))
    | (go_at_call 57; refine (refCrc_zero _ A3 _ cap3 (hd4 k l.length ++ l) _ (by simp [hd4]; omega) hown3.bs.1).mono ?_; rintro e w' ⟨rfl, rfl⟩)
    | (at_builtin; refine wpList_app _ rfl (.tmp 36) (.tmp 37) rfl w.heap.size (.slice (some ⟨w3.heap.size, 0, none⟩) 1 1) [167] rfl (lit_ob w3 w.heap.size _ rfl (by omega) _ 1 [167] rfl rfl (by decide)) (some ⟨w.heap.size, 0, none⟩) 4 4 (hd4 k l.length) rfl rfl (w.heap.size + 1) (IN3.alloc (by omega) _) 5 rfl (by simp [hd4]) (by simp; omega) ?_; intro A4 cap4 w4 hown4 hgrow4 hat4; have BB4 : Below w.heap.size w w4 := grown_below (BB3.alloc (by omega) _) hgrow4 (by simp; omega) (by simp [Value.ownBlock]; omega)))
  change Ob w4 w.heap.size (.slice A4 5 cap4) (167 :: hd4 k l.length) at hown4
  have es : crcN 0 (hd4 k l.length ++ l) = sumB k l := rfl
  rw [es]
  clear es hown2 hown3 hgrow2 hgrow3 hgrow4 hat2 hat3 hat4 B2 B3 IN1 IN2 IN3 BB2 BB3 z2 z3
  generalize hc : sumB k l = c at hs ⊢
  have Hc := Lib.hid hc
  clear hc
  go_loopw [9, 10, 11] (fun cv v i wr => ∃ j A' cap', j ≤ 4 ∧ i = .int .i64 (j : Nat) ∧ cv = .int .u32 ((c / 256 ^ j : Nat) : Int) ∧ v = .slice A' (5 + j) cap' ∧ Ob wr w.heap.size (.slice A' (5 + j) cap') (167 :: hd4 k l.length ++ (le4 c).take j) ∧ Below w.heap.size w wr) (fun _ _ i _ => 4 - (intOf i).toNat)
  case atStart => exact ⟨0, A4, cap4, by omega, rfl, by simp, rfl, by simpa using hown4, BB4⟩
  case round =>
    obtain ⟨j, A5, cap5, hj, rfl, rfl, rfl, hown5, BB5⟩ := hrel
    have z5 := BB5.size
    by_cases hlt : j < 4
    · have hd : c / 256 ^ j / 256 = c / 256 ^ (j + 1) := by rw [Nat.div_div_eq_div_mul, Nat.pow_succ]
      have hst := le4_step c j hlt
      have hx : c / 256 ^ j < 4294967296 := Nat.lt_of_le_of_lt (Nat.div_le_self _ _) hs
      have hln := le4_len c j hj
      generalize c / 256 ^ j = x at *
      have Hd := Lib.hid hd
      have Hst := Lib.hid hst
      have Hln := Lib.hid hln
      clear hd hst hln
      go_wp2_with (at_builtin; refine wpList_app _ rfl (.tmp 43) (.tmp 47) rfl w.heap.size _ (167 :: hd4 k l.length ++ (le4 c).take j) rfl (hown5.alloc _) (some ⟨wr.heap.size, 0, none⟩) 1 1 [UInt8.ofNat x] rfl rfl _ (lit_bsH wr _ wr.heap.size rfl _ 1 _ (le4_byte x) rfl (by decide)) (5 + j + 1) (by simp [hd4, Hln.out]; omega) (by simp [hd4, Hln.out]; omega) (by simp; omega) ?_; intro A6 cap6 w6 hown6 hgrow6 hat6; have BB6 : Below w.heap.size w w6 := grown_below (BB5.alloc z5 _) hgrow6 (by simp; omega) (fun _ h => (hown5.lt _ h).1))
      go_roundw
      case rel => exact ⟨j + 1, A6, cap6, by omega, by go_num, by rw [← Hd.out]; go_num, by rw [Nat.add_assoc], by rw [← Nat.add_assoc, ← Hst.out, ← List.append_assoc]; exact hown6, BB6⟩
      case measure => simp [intOf]; omega
    · have hj4 : j = 4 := by omega
      subst hj4
      have hl4 : (le4 c).take 4 = le4 c := rfl
      rw [hl4] at hown5
      clear hl4
      generalize c / 256 ^ 4 = y
      go_wp2_with (at_builtin; refine wpList_app _ rfl (.tmp 51) (.tmp 52) rfl w.heap.size _ (167 :: hd4 k l.length ++ le4 c) rfl hown5 A l.length cap l rfl rfl _ (hb.below (BB5.mono hK)) (9 + l.length) (by simp [hd4, le4] <;> omega) (by simp [hd4, le4] <;> omega) z5 ?_; intro A6 cap6 w6 hown6 hgrow6 hat6; have BB6 : Below w.heap.size w w6 := grown_below BB5 hgrow6 z5 (fun _ h => (hown5.lt _ h).1))
      go_ret2
      refine ⟨A6, cap6, rfl, ?_, BB6⟩
      have := Hc.out
      subst this
      exact hown6
end Go.Proofs.Ytkkaehaoahpibaa
