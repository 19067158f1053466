/- The document's Text of rules. -/
import Derived.Test.YtcfbcidakddhfaaGreatDoorPr19
import Derived.BigQuiet
import Derived.Test.YtcfbcidakddhfaaGreatDoorPr17
import Derived.Test.YtcfbcidakddhfaaGreatDoorPr14
import Derived.Test.YtcfbcidakddhfaaGreatDoorPr9
import Derived.RegionTactic
namespace Go.Proofs.YtcfbcidakddhfaaGreatDoor
open Go.RowKit

/-- With how many samples ahead of a time a list begins. -/
def ah (l : List Smp) (T : Int) : Nat := (l.takeWhile fun s => decide (s.1 < T)).length
theorem ah_le (l : List Smp) (T : Int) : ah l T ≤ l.length := by
  have := congrArg List.length (List.takeWhile_append_dropWhile (p := fun s : Smp => decide (s.1 < T)) (l := l))
  rw [List.length_append] at this
  unfold ah
  omega
theorem ah_at {l : List Smp} {T : Int} {k : Nat} (hk : k < l.length) (h : ∀ j (hj : j < k), l[j].1 < T) (hx : ¬ l[k].1 < T) : ah l T = k := by
  induction l generalizing k with
  | nil => simp at hk
  | cons x l ih =>
    cases k with
    | zero =>
      simp only [List.getElem_cons_zero] at hx
      unfold ah
      rw [List.takeWhile_cons, if_neg (by simpa using hx)]
      rfl
    | succ k =>
      have h0 := h 0 (by omega)
      simp only [List.getElem_cons_zero] at h0
      have := ih (k := k) (by simpa using hk) (fun j hj => by have := h (j + 1) (by omega); simpa using this) (by simpa using hx)
      unfold ah at this ⊢
      rw [List.takeWhile_cons, if_pos (by simpa using h0), List.length_cons, this]
theorem ah_all {l : List Smp} {T : Int} (h : ∀ j (hj : j < l.length), l[j].1 < T) : ah l T = l.length := by
  induction l with
  | nil => rfl
  | cons x l ih =>
    have h0 := h 0 (by simp)
    simp only [List.getElem_cons_zero] at h0
    have := ih fun j hj => by have := h (j + 1) (by simp; omega); simpa using this
    unfold ah at this ⊢
    rw [List.takeWhile_cons, if_pos (by simpa using h0), List.length_cons, this, List.length_cons]
set_option maxHeartbeats 800000 in
theorem ahead1_any (x : Smp) (b : Nat) (T : Int) (w : World) (h : w.cell? ⟨b, 0, none⟩ = some (.int .i64 T)) :
    Calls Tryz.prog 88 #[agS x, .pointer (some ⟨b, 0, none⟩)] w fun e w' => e = .returned (.bool (decide (T ≤ x.1))) ∧ Below w.heap.size w w' := by
  have hb := World.block_lt_of_cell? w _ h
  go_enter Tryz.func88, Tryz.ntmps88
  go_wp2
  go_ret
  exact ⟨rfl, by go_grown⟩
/-- What IndexFunc tells. -/
def ixI (l : List Smp) (T : Int) : Int := if ah l T = l.length then -1 else (ah l T : Int)
set_option maxRecDepth 100000 in
set_option maxHeartbeats 1600000 in
theorem index_any (K : Nat) (A : Option Addr) (n cap : Nat) (l : List Smp) (b : Nat) (T : Int) (w : World) (hln : l.length = n) (hp : Sr encSm 2 w K A cap l) (hK : K ≤ w.heap.size) (h : w.cell? ⟨b, 0, none⟩ = some (.int .i64 T)) :
    Calls Tryz.prog 87 #[.slice A n cap, .func (.func 88) #[] #[.pointer (some ⟨b, 0, none⟩)]] w fun e w' => e = .returned (.int .i64 (ixI l T)) ∧ Below w.heap.size w w' := by
  subst hln
  have hle := hp.le
  have hmax := hp.max
  unfold maxLen at hmax
  go_enter Tryz.func87, Tryz.ntmps87
  go_wp2
  go_loopw [8] (fun i wr => ∃ (k : Nat), k ≤ l.length ∧ i = .int .i64 k ∧ Hid (∀ j (hj : j < l.length), j < k → l[j].1 < T) ∧ Below w.heap.size w wr) (fun i _ => l.length - (intOf i).toNat)
  case atStart => exact ⟨0, Nat.zero_le _, rfl, Lib.hid (fun j _ h => absurd h (by omega)), Below.refl _ _⟩
  case round =>
    obtain ⟨k, hk, rfl, HJ, hbl⟩ := hrel
    have z := hbl.size
    have hc := kept hbl h
    by_cases hlt : k < l.length
    · obtain ⟨ad, rfl, hadK, h1, h2⟩ := s_cells (hp.below (hbl.mono hK)) hlt
      have HX : Hid (∀ x, l[k] = x → (∀ (hx : T ≤ x.1), ixI l T = (k : Int)) ∧ (¬ T ≤ x.1 → ∀ j (hj : j < l.length), j < k + 1 → l[j].1 < T)) := Lib.hid (fun x hx => ⟨fun hT => by
          have e : ah l T = k := ah_at hlt (fun j hj => HJ.out j (by omega) hj) (by rw [hx]; omega)
          unfold ixI
          rw [e, if_neg (by omega)], fun hT j hj hjk => by
          by_cases e : j = k
          · subst e; rw [hx]; omega
          · exact HJ.out j hj (by omega)⟩)
      generalize hxx : l[k] = x at *
      have HXX := Lib.hid (HX.out x rfl)
      clear HX hxx
      obtain ⟨xn, xv⟩ := x
      simp only at h1 h2
      have HA := Lib.hid (ahead1_any (xn, xv) b T wr hc)
      cases hd : decide (T ≤ xn) with
      | true =>
        have HA2 : Hid (Calls Tryz.prog 88 #[agS (xn, xv), .pointer (some ⟨b, 0, none⟩)] wr fun e w' => e = .returned (.bool true) ∧ Below wr.heap.size wr w') := Lib.hid (by have := HA.out; simp only [hd] at this; exact this)
        have HI := Lib.hid (HXX.out.1 (of_decide_eq_true hd))
        clear HA hd
        go_wp2_with (go_at_call 88; refine HA2.out.mono ?_; rintro e w1 ⟨rfl, hb1⟩)
        go_ret
        exact ⟨ret_int HI.out.symm, hbl.trans (hb1.mono z)⟩
      | false =>
        have HA2 : Hid (Calls Tryz.prog 88 #[agS (xn, xv), .pointer (some ⟨b, 0, none⟩)] wr fun e w' => e = .returned (.bool false) ∧ Below wr.heap.size wr w') := Lib.hid (by have := HA.out; simp only [hd] at this; exact this)
        have HI := Lib.hid (HXX.out.2 (of_decide_eq_false hd))
        clear HA hd
        go_wp2_with (go_at_call 88; refine HA2.out.mono ?_; rintro e w1 ⟨rfl, hb1⟩)
        go_roundw
        case rel => exact ⟨k + 1, by omega, by go_num, Lib.hid HI.out, hbl.trans (hb1.mono z)⟩
        case measure => simp [intOf]; omega
    · have hkl : k = l.length := by omega
      subst hkl
      have HI : Hid (ixI l T = -1) := Lib.hid (if_pos (ah_all fun j hj => HJ.out j hj hj))
      go_wp2
      go_ret
      exact ⟨ret_int HI.out.symm, hbl⟩
set_option maxHeartbeats 800000 in
theorem ahead_any (K : Nat) (A : Option Addr) (n cap : Nat) (l : List Smp) (T : Int) (w : World) (hln : l.length = n) (hp : Sr encSm 2 w K A cap l) (hK : K ≤ w.heap.size) :
    Calls Tryz.prog 72 #[.slice A n cap, .int .i64 T] w fun e w' => e = .returned (.int .i64 (ah l T : Nat)) ∧ Below w.heap.size w w' := by
  subst hln
  have HI := Lib.hid (fun W (h : Sr encSm 2 W K A cap l) (hW : K ≤ W.heap.size) (hc : W.cell? ⟨w.heap.size, 0, none⟩ = some (.int .i64 T)) => index_any K A l.length cap l w.heap.size T W rfl h hW hc)
  have hs := fun o => hp.alloc hK o
  by_cases h0 : ah l T = l.length
  · have e : ixI l T = -1 := if_pos h0
    rw [h0]
    rw [e] at HI
    clear e h0
    go_enter Tryz.func72, Tryz.ntmps72
    go_wp2_with (go_at_call 87; refine (HI.out _ (hs _) (by simp; omega) (by simp [go_sem])).mono ?_; rintro e w1 ⟨rfl, hb1⟩)
    go_ret
    exact ⟨rfl, via hb1 (by go_grown) (by simp)⟩
  · have e : ixI l T = (ah l T : Int) := if_neg h0
    rw [e] at HI
    generalize ah l T = q at *
    clear e h0
    go_enter Tryz.func72, Tryz.ntmps72
    go_wp2_with (go_at_call 87; refine (HI.out _ (hs _) (by simp; omega) (by simp [go_sem])).mono ?_; rintro e w1 ⟨rfl, hb1⟩)
    go_ret
    exact ⟨rfl, via hb1 (by go_grown) (by simp)⟩
def spanB (a b : Int) : Bool := decide (0 ≤ a) && decide (a ≤ b) && decide (b ≤ 4611686018427387904)
set_option maxHeartbeats 800000 in
theorem isSpan_any (a b : Int) (w : World) : Calls Tryz.prog 70 #[.int .i64 a, .int .i64 b] w fun e w' => e = .returned (.bool (spanB a b)) ∧ w' = w := by
  cases h1 : decide (0 ≤ a) <;> cases h2 : decide (a ≤ b) <;> cases h3 : decide (b ≤ 4611686018427387904)
  all_goals
    unfold spanB
    rw [h1, h2, h3]
    go_enter Tryz.func70, Tryz.ntmps70
    go_wp2
    go_ret
    exact ⟨rfl, rfl⟩
def longB (a b s : Int) : Bool := decide (1024 ≤ (b - a - 1).tdiv s)
set_option maxHeartbeats 800000 in
theorem isLong_any (a b s : Int) (h : spanB a b = true) (hs : 1 ≤ s) (hs2 : s ≤ 9223372036854775807) (w : World) : Calls Tryz.prog 71 #[.int .i64 a, .int .i64 b, .int .i64 s] w fun e w' => e = .returned (.bool (longB a b s)) ∧ w' = w := by
  unfold spanB at h
  simp at h
  have h1 := wrapI (b - a) (by omega) (by omega)
  have h2 := wrapI (b - a - 1) (by omega) (by omega)
  have h0 : ¬ s = 0 := by omega
  have h00 : (s == 0) = false := beq_eq_false_iff_ne.2 h0
  obtain ⟨d, hd⟩ : ∃ d, b - a - 1 = d := ⟨_, rfl⟩
  have e1 : wrap64 (b - a - 1) = d := by unfold wrap64; omega
  have e2 : -1 ≤ d ∧ d ≤ 4611686018427387904 := by omega
  unfold longB
  rw [hd]
  clear h1 h2
  go_enter Tryz.func71, Tryz.ntmps71
  go_wp2
  go_ret
  exact ⟨rfl, rfl⟩
end Go.Proofs.YtcfbcidakddhfaaGreatDoor
namespace Go.Proofs.YtcfbcidakddhfaaGreatDoor
open Go.RowKit

def upd (f : Nat → Int) (i : Nat) (x : Int) : Nat → Int := fun j => if j = i then x else f j
/-- Eight digits in a box. -/
structure Ds (w : World) (D : Nat) (f : Nat → Int) : Prop where
  c : ∀ i, i < 8 → w.cell? ⟨D, i, none⟩ = some (.int .i64 (f i))
  fz : ∀ i, w.frozen? ⟨D, i, none⟩ = false
theorem Ds.put {w : World} {D : Nat} {f : Nat → Int} (h : Ds w D f) (i : Nat) (x : Int) : Ds (w.setCell ⟨D, i, none⟩ (.int .i64 x)) D (upd f i x) := by
  refine ⟨fun j hj => ?_, fun j => by simp [go_sem, h.fz]⟩
  by_cases e : j = i
  · subst e
    simp [go_sem, h.c j hj, upd]
  · rw [cellO (by intro he; injection he with _ he; exact e he.symm) (h.c j hj)]
    simp [upd, e]
def dv (f : Nat → Int) : Int := f 0 + f 1 * 65536 + f 2 * 4294967296 + f 3 * 281474976710656 + f 4 * 18446744073709551616 + f 5 * 1208925819614629174706176 + f 6 * 79228162514264337593543950336 + f 7 * 5192296858534827628530496329220096
def pw : Nat → Int
  | 0 => 1
  | 1 => 65536
  | 2 => 4294967296
  | 3 => 281474976710656
  | _ => 18446744073709551616
/-- The digits while one number is added (s = 1) or taken away (s = -1). -/
structure In (s T B : Int) (k : Nat) (v : Int) (f : Nat → Int) : Prop where
  v0 : 0 ≤ v
  vb : v * pw k < 18446744073709551616
  val : dv f + s * (v * pw k) = T
  lo : ∀ i, i < 4 → -(B + 65535) ≤ f i ∧ f i ≤ B + 65535
  un : ∀ i, k ≤ i → i < 4 → -B ≤ f i ∧ f i ≤ B
  hi : ∀ i, 4 ≤ i → f i = 0
theorem upd_at (f : Nat → Int) (i : Nat) (x : Int) : upd f i x i = x := by simp [upd]
theorem upd_ne (f : Nat → Int) {i j : Nat} (x : Int) (h : j ≠ i) : upd f i x j = f j := by simp [upd, h]
theorem In.step {s T B : Int} {k : Nat} {v : Int} {f : Nat → Int} (hs : s = 1 ∨ s = -1) (h : In s T B k v f) (hk : k < 4) : In s T B (k + 1) (v / 65536) (upd f k (f k + s * (v % 65536))) := by
  obtain ⟨v0, vb, val, lo, un, hi⟩ := h
  have hk' := un k (Nat.le_refl _) hk
  have hm : 0 ≤ v % 65536 ∧ v % 65536 ≤ 65535 := by omega
  have hf : -(B + 65535) ≤ f k + s * (v % 65536) ∧ f k + s * (v % 65536) ≤ B + 65535 := by rcases hs with rfl | rfl <;> omega
  refine ⟨by omega, ?_, ?_, fun i hi4 => ?_, fun i h1 h2 => ?_, fun i h4 => ?_⟩
  · obtain rfl | rfl | rfl | rfl : k = 0 ∨ k = 1 ∨ k = 2 ∨ k = 3 := by omega
    all_goals simp only [pw] at vb ⊢; omega
  · obtain rfl | rfl | rfl | rfl : k = 0 ∨ k = 1 ∨ k = 2 ∨ k = 3 := by omega
    all_goals
      simp only [pw, dv] at val ⊢
      rw [upd_at]
      repeat rw [upd_ne _ _ (by decide)]
      rcases hs with rfl | rfl <;> omega
  · by_cases e : i = k
    · subst e; rw [upd_at]; exact hf
    · rw [upd_ne _ _ e]; exact lo i hi4
  · rw [upd_ne _ _ (by omega)]; exact un i (by omega) h2
  · rw [upd_ne _ _ (by omega)]; exact hi i h4
/-- The digits between two numbers. -/
structure Ou (T B : Int) (f : Nat → Int) : Prop where
  val : dv f = T
  lo : ∀ i, i < 4 → -B ≤ f i ∧ f i ≤ B
  hi : ∀ i, 4 ≤ i → f i = 0
theorem Ou.start {s T B v : Int} {f : Nat → Int} (h : Ou T B f) (h0 : 0 ≤ v) (h1 : v < 18446744073709551616) : In s (T + s * v) B 0 v f :=
  ⟨h0, by simpa [pw] using h1, by rw [h.val]; simp [pw], fun i hi => by have := h.lo i hi; omega, fun i _ hi => h.lo i hi, h.hi⟩
theorem In.stop {s T B v : Int} {f : Nat → Int} (h : In s T B 4 v f) : Ou T (B + 65535) f := by
  obtain ⟨v0, vb, val, lo, un, hi⟩ := h
  simp only [pw] at vb val
  obtain rfl : v = 0 := by omega
  exact ⟨by simpa using val, lo, hi⟩
/-- The digits while carries go up. -/
structure Cy (V : Int) (k : Nat) (f : Nat → Int) : Prop where
  val : dv f = V
  dn : ∀ i, i < k → 0 ≤ f i ∧ f i ≤ 65535
  at_ : -2199023255552 ≤ f k ∧ f k ≤ 2199023255552
  up : ∀ i, k < i → i < 8 → -1099511627776 ≤ f i ∧ f i ≤ 1099511627776
theorem Cy.step {V : Int} {k : Nat} {f : Nat → Int} (h : Cy V k f) (hk : k < 7) : Cy V (k + 1) (upd (upd f k (f k - f k / 65536 * 65536)) (k + 1) (f (k + 1) + f k / 65536)) := by
  obtain ⟨val, dn, hat, up⟩ := h
  have hu := up (k + 1) (by omega) (by omega)
  refine ⟨?_, fun i hi => ?_, ?_, fun i h1 h2 => ?_⟩
  · obtain rfl | rfl | rfl | rfl | rfl | rfl | rfl : k = 0 ∨ k = 1 ∨ k = 2 ∨ k = 3 ∨ k = 4 ∨ k = 5 ∨ k = 6 := by omega
    all_goals
      simp only [dv] at val ⊢
      simp only [upd]
      simp
      omega
  · rw [upd_ne _ _ (by omega)]
    by_cases e : i = k
    · subst e; rw [upd_at]; omega
    · rw [upd_ne _ _ e]; exact dn i (by omega)
  · rw [upd_at]; omega
  · rw [upd_ne _ _ (by omega), upd_ne _ _ (by omega)]; exact up i (by omega) h2
theorem floor_neg {x : Int} (h : x.tmod 65536 < 0) : x.tdiv 65536 - 1 = x / 65536 := by
  have h1 := Int.mul_tdiv_add_tmod x 65536
  have h2 := Int.tmod_lt_of_pos x (show (0 : Int) < 65536 by decide)
  have h3 : -65536 < x.tmod 65536 := by
    have := Int.lt_tmod_of_pos x (show (0 : Int) < 65536 by decide)
    omega
  omega
theorem floor_pos {x : Int} (h : ¬ x.tmod 65536 < 0) : x.tdiv 65536 = x / 65536 := by
  have h1 := Int.mul_tdiv_add_tmod x 65536
  have h2 := Int.tmod_lt_of_pos x (show (0 : Int) < 65536 by decide)
  omega
/-- The four lower digits as a number. -/
def top (f : Nat → Int) : Nat → Int
  | 0 => ((f 3 * 65536 + f 2) * 65536 + f 1) * 65536 + f 0
  | 1 => (f 3 * 65536 + f 2) * 65536 + f 1
  | 2 => f 3 * 65536 + f 2
  | 3 => f 3
  | _ => 0
theorem Cy.fits {V : Int} {f : Nat → Int} (h : Cy V 7 f) : (f 4 = 0 ∧ f 5 = 0 ∧ f 6 = 0 ∧ f 7 = 0 → 0 ≤ V ∧ V < 18446744073709551616 ∧ top f 0 = V) ∧ (0 ≤ V ∧ V < 18446744073709551616 → f 4 = 0 ∧ f 5 = 0 ∧ f 6 = 0 ∧ f 7 = 0) := by
  obtain ⟨val, dn, hat, up⟩ := h
  have d0 := dn 0 (by omega)
  have d1 := dn 1 (by omega)
  have d2 := dn 2 (by omega)
  have d3 := dn 3 (by omega)
  have d4 := dn 4 (by omega)
  have d5 := dn 5 (by omega)
  have d6 := dn 6 (by omega)
  simp only [dv] at val
  constructor
  · rintro ⟨e4, e5, e6, e7⟩
    rw [e4, e5, e6, e7] at val
    simp only [top]
    omega
  · intro hV
    omega
def sumZ : List Int → Int
  | [] => 0
  | x :: r => x + sumZ r
theorem sumZ_app (a b : List Int) : sumZ (a ++ b) = sumZ a + sumZ b := by
  induction a with
  | nil => simp [sumZ]
  | cons x a ih => simp only [List.cons_append, sumZ, ih]; omega
theorem sumZ_next {l : List Int} {k : Nat} (h : k < l.length) : sumZ (l.take (k + 1)) = sumZ (l.take k) + l[k] := by
  rw [List.take_succ_eq_append_getElem h, sumZ_app]
  simp [sumZ]
end Go.Proofs.YtcfbcidakddhfaaGreatDoor
namespace Go.Proofs.YtcfbcidakddhfaaGreatDoor
open Go.RowKit

/-- The text up to the k-th label. -/
def strR (l : List Rp) (k : Nat) : ByteArray := ⟨(123 :: Lib.join ((l.take k).map partRL) [44]).toArray⟩
theorem strR_zero (l : List Rp) : strR l 0 = ⟨#[123]⟩ := by simp [strR, Lib.join]
theorem strR_len {l : List Rp} (h : SmR2 l) (k : Nat) : (strR l k).size ≤ 1 + l.length * 4000001 := by
  have hs : SmR2 (l.take k) := fun x hx => h x (List.mem_of_mem_take hx)
  have h1 := partsR_len hs
  have h2 : (l.take k).length * 4000001 ≤ l.length * 4000001 := Nat.mul_le_mul_right _ (by rw [List.length_take]; omega)
  simp [strR, ByteArray.size]
  simp at h1 h2
  omega
theorem ba_ext {a b : ByteArray} (h : a.data.toList = b.data.toList) : a = b := by
  apply ByteArray.ext
  exact Array.toList_inj.1 h
theorem takeR_part {l : List Rp} {k : Nat} (hk : k < l.length) : (l.take (k + 1)).map partRL = (l.take k).map partRL ++ [partRL (l.getD k nilR)] := by
  rw [List.take_succ_eq_append_getElem hk, List.map_append, getR_eq hk]
  rfl
theorem strR_first {l : List Rp} {k : Nat} (hk : k < l.length) (h0 : k = 0) : strR l k ++ (l.getD k nilR).1 ++ ⟨(sgB (l.getD k nilR).2.1).toArray⟩ ++ ⟨(quoteB (l.getD k nilR).2.2).toArray⟩ = strR l (k + 1) := by
  apply ba_ext
  simp only [app_list, strR, takeR_part hk]
  subst h0
  simp [partRL, Lib.join]
theorem strR_next {l : List Rp} {k : Nat} (hk : k < l.length) (h0 : 0 < k) : (strR l k ++ ⟨#[44]⟩) ++ (l.getD k nilR).1 ++ ⟨(sgB (l.getD k nilR).2.1).toArray⟩ ++ ⟨(quoteB (l.getD k nilR).2.2).toArray⟩ = strR l (k + 1) := by
  have hne : (l.take k).map partRL ≠ [] := by
    intro e
    have h := congrArg List.length e
    rw [List.length_map, List.length_take, List.length_nil] at h
    omega
  apply ba_ext
  simp only [app_list, strR, takeR_part hk, join_snoc _ _ hne]
  simp [partRL]
theorem strR_end (l : List Rp) : strR l l.length ++ ⟨#[125]⟩ = ⟨(textR l).toArray⟩ := by
  apply ba_ext
  simp [strR, textR]

end Go.Proofs.YtcfbcidakddhfaaGreatDoor
