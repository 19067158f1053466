/- stamp.Text: the walk. -/
import Derived.Test.YtcfbcidakddhfaaGreatDoorPr11
import Derived.Test.YtcfbcidakddhfaaGreatDoorPr15
import Derived.Lib.IndexAny
import Derived.Lib.Join
namespace Go.Proofs.YtcfbcidakddhfaaGreatDoor
open Go.RowKit

def standZ (s p : ByteArray) (i : Nat) : Bool := decide (i + p.size ≤ s.size) && standB s.data.toList i p.data.toList
theorem standZ_in {s p : ByteArray} {i : Nat} (h : i ≤ s.size) : standZ s p i = standB s.data.toList i p.data.toList := by
  unfold standZ
  by_cases hl : i + p.size ≤ s.size
  · simp [hl]
  · have e1 : s.data.toList.length = s.size := by simp
    have e2 : p.data.toList.length = p.size := by simp
    rcases standB_long (s := s.data.toList) (p := p.data.toList) (i := i) (by omega) with h1 | h1
    · rw [h1]; simp
    · rw [h1] at e2
      exact absurd (show i + p.size ≤ s.size by rw [← e2]; simpa using h) hl
theorem standZ_zero (s p : ByteArray) : standZ s p 0 = Lib.hasPrefix s.data.toList p.data.toList := by
  rw [standZ_in (Nat.zero_le _), standB, List.drop_zero]; rfl
theorem ext_stand {s p : ByteArray} {i : Nat} (h : i + p.size ≤ s.size) : ((s.extract i (i + p.size)).toList == p.toList) = standZ s p i := by
  have e : i + p.size - i = p.data.toList.length := by simp
  rw [Lib.extract_toList, Lib.toList_data, e, standB_take]
  unfold standZ
  rw [decide_eq_true h]; rfl

set_option maxHeartbeats 1600000 in
theorem stands_any (s p : ByteArray) (i : Nat) (w : World) (hs : s.size ≤ 1000000000000) (hp : p.size ≤ 1000000000000) (hi : i ≤ 1000000000000) :
    Calls Tryz.prog 64 #[.string s, .int .i64 (i : Int), .string p] w fun e w' => e = .returned (.bool (standZ s p i)) ∧ w = w' := by
  by_cases h : i + p.size ≤ s.size
  · have HF := Lib.hid (ext_stand h)
    have i1 : (i : Int) ≤ (s.size : Int) - p.size := by omega
    have i2 : (i : Int) + p.size ≤ s.size := by omega
    have i3 : (0 : Int) ≤ (i : Int) + p.size := by omega
    have i4 : ((i : Int) + p.size).toNat = i + p.size := by omega
    go_enter Tryz.func64, Tryz.ntmps64
    go_wp2
    go_ret
    exact ⟨ret_bool HF.out, rfl⟩
  · have HF : Hid (standZ s p i = false) := Lib.hid (by unfold standZ; rw [decide_eq_false h]; rfl)
    have i1 : ¬ (i : Int) ≤ (s.size : Int) - p.size := by omega
    go_enter Tryz.func64, Tryz.ntmps64
    go_wp2
    go_ret
    exact ⟨ret_bool HF.out.symm, rfl⟩

theorem holdB_four {xv v : ByteArray} : holdB 4 xv v = standTo v.data.toList xv.data.toList (v.size + 1) := by
  have hl : v.data.toList.length = v.size := by simp
  simp only [holdB]
  rw [contains_stand, hl]; rfl

set_option maxHeartbeats 3200000 in
theorem one_any (K : Nat) (B : Option Addr) (m capb : Nat) (s : List Pp) (xn xv : ByteArray) (o : Int) (w : World) (hlm : s.length = m) (hq : Lr w K B capb s) (hK : K ≤ w.heap.size) (hS : Sm s) (hx : xv.size ≤ 1048576) :
    Calls Tryz.prog 46 #[.agg #[.string xn, .int .i64 o, .string xv], .slice B m capb] w fun e w' => e = .returned (.bool (holdB o xv (getL s xn))) ∧ Below w.heap.size w w' := by
  subst hlm
  have B0 : Below w.heap.size w (w.alloc (.cells #[.string xn, .int .i64 o, .string xv] 107)) := (Below.refl _ _).alloc (Nat.le_refl _) _
  have HG := Lib.hid (rGet_any K B s.length capb s xn _ rfl (hq.below (B0.mono hK)) (by simp; omega))
  have hgs := getL_sm hS xn
  generalize getL s xn = v at *
  have z1 : w.heap.size ≤ (w.alloc (.cells #[.string xn, .int .i64 o, .string xv] 107)).heap.size := by simp
  by_cases h1 : o = 1
  · have HF : Hid (holdB o xv v = (v.toList == xv.toList)) := Lib.hid (by simp [holdB, h1])
    subst h1
    go_enter Tryz.func46, Tryz.ntmps46
    go_wp2_with (go_at_call 63; refine HG.out.mono ?_; rintro e w1 ⟨rfl, hb1⟩; have m0 : w1.cell? ⟨w.heap.size, 0, none⟩ = some (.string xn) := kept hb1 (by simp); have m1 : w1.cell? ⟨w.heap.size, 1, none⟩ = some (.int .i64 1) := kept hb1 (by simp); have m2 : w1.cell? ⟨w.heap.size, 2, none⟩ = some (.string xv) := kept hb1 (by simp); have B2 := B0.trans (hb1.mono z1); clear hb1)
    go_ret
    exact ⟨ret_bool HF.out.symm, B2⟩
  by_cases h2 : o = 2
  · have HF : Hid (holdB o xv v = !(v.toList == xv.toList)) := Lib.hid (by simp [holdB, h2])
    subst h2
    clear h1
    go_enter Tryz.func46, Tryz.ntmps46
    go_wp2_with (go_at_call 63; refine HG.out.mono ?_; rintro e w1 ⟨rfl, hb1⟩; have m0 : w1.cell? ⟨w.heap.size, 0, none⟩ = some (.string xn) := kept hb1 (by simp); have m1 : w1.cell? ⟨w.heap.size, 1, none⟩ = some (.int .i64 2) := kept hb1 (by simp); have m2 : w1.cell? ⟨w.heap.size, 2, none⟩ = some (.string xv) := kept hb1 (by simp); have B2 := B0.trans (hb1.mono z1); clear hb1)
    go_ret
    exact ⟨ret_bool (by rw [HF.out]), B2⟩
  by_cases h3 : o = 3
  · have HF : Hid (holdB o xv v = standZ v xv 0) := Lib.hid (by simp [holdB, h3, standZ_zero])
    subst h3
    clear h1 h2
    have HC := Lib.hid (fun W => stands_any v xv 0 W (by omega) (by omega) (by omega))
    go_enter Tryz.func46, Tryz.ntmps46
    go_wp2_with (go_at_call 63; refine HG.out.mono ?_; rintro e w1 ⟨rfl, hb1⟩; have m0 : w1.cell? ⟨w.heap.size, 0, none⟩ = some (.string xn) := kept hb1 (by simp); have m1 : w1.cell? ⟨w.heap.size, 1, none⟩ = some (.int .i64 3) := kept hb1 (by simp); have m2 : w1.cell? ⟨w.heap.size, 2, none⟩ = some (.string xv) := kept hb1 (by simp); have B2 := B0.trans (hb1.mono z1); clear hb1)
    refine (HC.out _).mono ?_
    rintro e w' ⟨rfl, rfl⟩
    go_wp2_with fail
    go_ret
    exact ⟨ret_bool HF.out.symm, B2⟩
  by_cases h4 : o = 4
  · have HF : Hid (holdB o xv v = standTo v.data.toList xv.data.toList (v.size + 1)) := Lib.hid (by rw [h4]; exact holdB_four)
    have HC : Hid (∀ (k : Nat) W, k ≤ v.size → Calls Tryz.prog 64 #[.string v, .int .i64 (k : Int), .string xv] W fun e w' => e = .returned (.bool (standB v.data.toList k xv.data.toList)) ∧ W = w') := Lib.hid (fun k W h => by
      rw [← standZ_in h]
      exact stands_any v xv k W (by omega) (by omega) (by omega))
    have HY : Hid (∀ k : Nat, k ≤ v.size → standB v.data.toList k xv.data.toList = true → standTo v.data.toList xv.data.toList (v.size + 1) = true) := Lib.hid (fun k h hs => by
      rw [← holdB_four]
      have hl : v.data.toList.length = v.size := by simp
      show Lib.contains _ _ = true
      exact contains_yes (k := k) (by omega) hs)
    have HN : Hid (∀ k : Nat, standTo v.data.toList xv.data.toList (k + 1) = (standTo v.data.toList xv.data.toList k || standB v.data.toList k xv.data.toList)) := Lib.hid (fun k => standTo_succ _ _ k)
    have HZ : Hid (standTo v.data.toList xv.data.toList 0 = false) := Lib.hid (standTo_zero _ _)
    generalize standTo v.data.toList xv.data.toList = st at *
    generalize hsb : (fun k => standB v.data.toList k xv.data.toList) = sb at *
    have hsb2 : ∀ k, standB v.data.toList k xv.data.toList = sb k := fun k => by rw [← hsb]
    simp only [hsb2] at HC HY HN
    clear hsb hsb2
    subst h4
    clear h1 h2 h3
    go_enter Tryz.func46, Tryz.ntmps46
    go_wp2_with (go_at_call 63; refine HG.out.mono ?_; rintro e w1 ⟨rfl, hb1⟩; have m0 : w1.cell? ⟨w.heap.size, 0, none⟩ = some (.string xn) := kept hb1 (by simp); have m1 : w1.cell? ⟨w.heap.size, 1, none⟩ = some (.int .i64 4) := kept hb1 (by simp); have m2 : w1.cell? ⟨w.heap.size, 2, none⟩ = some (.string xv) := kept hb1 (by simp); have B2 := B0.trans (hb1.mono z1); clear hb1)
    go_loop [6] (fun i => ∃ k : Nat, k ≤ v.size + 1 ∧ i = .int .i64 k ∧ Hid (st k = false)) (fun i => v.size + 1 - (intOf i).toNat)
    case atStart => exact ⟨0, Nat.zero_le _, rfl, HZ⟩
    case round =>
      obtain ⟨k, hk, rfl, HT⟩ := hrel
      by_cases hlt : k ≤ v.size
      · by_cases hb : sb k = true
        · have HF2 : Hid (holdB 4 xv v = true) := Lib.hid (by rw [HF.out]; exact HY.out k hlt hb)
          have HCk := Lib.hid (fun W => HC.out k W hlt)
          rw [hb] at HCk
          clear hb
          go_wp2_with (go_at_call 64; refine (HCk.out _).mono ?_; rintro e w' ⟨rfl, rfl⟩)
          go_ret
          exact ⟨ret_bool HF2.out.symm, B2⟩
        · have hb : sb k = false := by simpa using hb
          have HN2 : Hid (st (k + 1) = false) := Lib.hid (by rw [HN.out, HT.out, hb]; rfl)
          have HCk := Lib.hid (fun W => HC.out k W hlt)
          rw [hb] at HCk
          clear hb
          go_wp2_with (go_at_call 64; refine (HCk.out _).mono ?_; rintro e w' ⟨rfl, rfl⟩)
          go_round
          case rel => exact ⟨k + 1, by omega, by go_num, HN2⟩
          case measure => simp [intOf]; omega
      · have hks : k = v.size + 1 := by omega
        have HF2 : Hid (holdB 4 xv v = false) := Lib.hid (by rw [HF.out, ← hks]; exact HT.out)
        clear hks
        go_wp2_with fail
        go_ret
        exact ⟨ret_bool HF2.out.symm, B2⟩
  · have HF : Hid (holdB o xv v = false) := Lib.hid (by simp [holdB, h1, h2, h3, h4])
    have e1 : (o == 1) = false := beq_eq_false_iff_ne.2 h1
    have e2 : (o == 2) = false := beq_eq_false_iff_ne.2 h2
    have e3 : (o == 3) = false := beq_eq_false_iff_ne.2 h3
    have e4 : (o != 4) = true := by simpa using h4
    clear h1 h2 h3 h4
    go_enter Tryz.func46, Tryz.ntmps46
    go_wp2_with (go_at_call 63; refine HG.out.mono ?_; rintro e w1 ⟨rfl, hb1⟩; have m0 : w1.cell? ⟨w.heap.size, 0, none⟩ = some (.string xn) := kept hb1 (by simp); have m1 : w1.cell? ⟨w.heap.size, 1, none⟩ = some (.int .i64 o) := kept hb1 (by simp); have m2 : w1.cell? ⟨w.heap.size, 2, none⟩ = some (.string xv) := kept hb1 (by simp); have B2 := B0.trans (hb1.mono z1); clear hb1)
    go_ret
    exact ⟨ret_bool HF.out.symm, B2⟩

set_option maxHeartbeats 3200000 in
theorem rAll_any (K : Nat) (A B : Option Addr) (n cap m capb : Nat) (l : List Rp) (s : List Pp) (w : World) (hln : l.length = n) (hlm : s.length = m) (hp : Rr w K A cap l) (hq : Lr w K B capb s) (hK : K ≤ w.heap.size) (hS : Sm s) (hR : SmR l) :
    Calls Tryz.prog 24 #[.slice A n cap, .slice B m capb] w fun e w' => e = .returned (.bool (allB s l)) ∧ Below w.heap.size w w' := by
  subst hln hlm
  have hle := hp.le
  have hmax := hp.max
  unfold maxLen at hmax
  go_enter Tryz.func24, Tryz.ntmps24
  go_wp2
  go_loopw [5] (fun i wr => ∃ k : Nat, k ≤ l.length ∧ i = .int .i64 k ∧ Hid (allTo s l k = true) ∧ Below w.heap.size w wr) (fun i _ => l.length - (intOf i).toNat)
  case atStart => exact ⟨0, Nat.zero_le _, rfl, Lib.hid (allTo_zero s l), Below.refl _ _⟩
  case round =>
    obtain ⟨k, hk, rfl, HT, hbl⟩ := hrel
    have z := hbl.size
    by_cases hlt : k < l.length
    · obtain ⟨ad, rfl, hadK, h1, h2, h3⟩ := rr_at (hp.below (hbl.mono hK)) hlt
      have hs := hR.at_ k
      have hnext := allTo_succ s hlt
      have hno : oneB s (l.getD k nilR) = false → allB s l = false := allB_no hlt
      have hone : oneB s (l.getD k nilR) = holdB (l.getD k nilR).2.1 (l.getD k nilR).2.2 (getL s (l.getD k nilR).1) := rfl
      generalize l.getD k nilR = x at *
      obtain ⟨xn, xo, xv⟩ := x
      simp only at h1 h2 h3 hone hs
      have HC := Lib.hid (one_any K B s.length capb s xn xv xo wr rfl (hq.below (hbl.mono hK)) (by omega) hS hs.2)
      by_cases hr : oneB s (xn, xo, xv) = true
      · have HN : Hid (allTo s l (k + 1) = true) := Lib.hid (by rw [hnext, HT.out, hr]; rfl)
        rw [← hone, hr] at HC
        clear hnext hno hr hone
        go_wp2_with (go_at_call 46; refine HC.out.mono ?_; rintro e w1 ⟨rfl, hb1⟩)
        go_roundw
        case rel => exact ⟨k + 1, by omega, by go_num, HN, hbl.trans (hb1.mono z)⟩
        case measure => simp [intOf]; omega
      · have hr : oneB s (xn, xo, xv) = false := by simpa using hr
        have HF : Hid (allB s l = false) := Lib.hid (hno hr)
        rw [← hone, hr] at HC
        clear hnext hno hr hone
        go_wp2_with (go_at_call 46; refine HC.out.mono ?_; rintro e w1 ⟨rfl, hb1⟩)
        go_ret
        exact ⟨ret_bool HF.out.symm, hbl.trans (hb1.mono z)⟩
    · have hks : k = l.length := by omega
      have HF : Hid (allB s l = true) := Lib.hid (by rw [← allTo_all, ← hks]; exact HT.out)
      clear hks
      go_wp2_with fail
      go_ret
      exact ⟨ret_bool HF.out.symm, hbl⟩
end Go.Proofs.YtcfbcidakddhfaaGreatDoor
namespace Go.Proofs.YtcfbcidakddhfaaGreatDoor
open Go.RowKit

theorem get_byte (s : ByteArray) (k : Nat) (h : k < s.size) : s.data.toList[k]? = some (s.get! k) := by
  have e : s.get! k = s[k]'h := by
    show s.get! k = _
    simp [ByteArray.get!, getElem!_pos, h]
    rfl
  rw [e]
  exact Lib.data_getElem? s k h
/-- From pos on n bytes stand in s, none of them ASCII. -/
def HiN (s : ByteArray) (pos n : Nat) : Prop := pos + n ≤ s.size ∧ ∀ j, pos ≤ j → j < pos + n → 128 ≤ (s.get! j).toNat
theorem decode_hi (s : ByteArray) (pos : Nat) (h : pos < s.size) (ha : 128 ≤ (s.get! pos).toNat) :
    ∃ r n : Nat, Utf8.decode s pos = (r, n) ∧ 128 ≤ r ∧ r ≤ 1114111 ∧ Utf8.valid (r : Int) = true ∧ 1 ≤ n ∧ HiN s pos n := by
  have err : 128 ≤ 65533 ∧ 65533 ≤ 1114111 ∧ Utf8.valid ((65533 : Nat) : Int) = true ∧ 1 ≤ 1 ∧ HiN s pos 1 := ⟨by decide, by decide, by decide, by decide, by omega, fun j h1 h2 => by
    obtain rfl : j = pos := by omega
    exact ha⟩
  have hb0 : ¬ (s.get! (pos + 0)).toNat < 128 := by rw [Nat.add_zero]; omega
  have lt1 := (s.get! (pos + 0)).toNat_lt
  have lt2 := (s.get! (pos + 1)).toNat_lt
  have lt3 := (s.get! (pos + 2)).toNat_lt
  have lt4 := (s.get! (pos + 3)).toNat_lt
  have hv : ∀ c : Nat, 128 ≤ c → Utf8.valid (c : Int) = true → c ≤ 1114111 := fun c _ hc => by
    unfold Utf8.valid at hc
    simp at hc
    omega
  have hi : ∀ n, n ≤ 4 → (∀ k, 1 ≤ k → k < n → (decide (pos + k < s.size) && (s.get! (pos + k)).toNat / 64 == 2) = true) → HiN s pos (max n 1) := by
    intro n hn hc
    have hh : ∀ k, k < max n 1 → pos + k < s.size ∧ 128 ≤ (s.get! (pos + k)).toNat := by
      intro k hk
      by_cases h0 : k = 0
      · subst h0; exact ⟨by omega, by rw [Nat.add_zero]; exact ha⟩
      · have := hc k (by omega) (by omega)
        rw [Bool.and_eq_true, decide_eq_true_eq, beq_iff_eq] at this
        exact ⟨this.1, by omega⟩
    refine ⟨?_, fun j h1 h2 => ?_⟩
    · have := (hh (max n 1 - 1) (by omega)).1
      omega
    · have := (hh (j - pos) (by omega)).2
      rw [show pos + (j - pos) = j by omega] at this
      exact this
  unfold Utf8.decode Utf8.runeError
  simp only [hb0, if_false]
  split
  · rename_i hc
    split
    · rename_i h80
      rw [Bool.and_eq_true] at hc
      have h1 := hi 2 (by omega) (fun k a b => by obtain rfl : k = 1 := (by omega); exact hc.2)
      exact ⟨_, _, rfl, by omega, by omega, by unfold Utf8.valid; simp; omega, by omega, h1⟩
    · exact ⟨_, _, rfl, err⟩
  · split
    · rename_i hc
      split
      · rename_i h80
        rw [Bool.and_eq_true, Bool.and_eq_true] at hc
        rw [Bool.and_eq_true, decide_eq_true_eq] at h80
        have h1 := hi 3 (by omega) (fun k a b => by
          have : k = 1 ∨ k = 2 := by omega
          rcases this with rfl | rfl
          · exact hc.1.2
          · exact hc.2)
        exact ⟨_, _, rfl, by omega, hv _ (by omega) h80.2, h80.2, by omega, h1⟩
      · exact ⟨_, _, rfl, err⟩
    · split
      · rename_i hc
        split
        · rename_i h80
          rw [Bool.and_eq_true, Bool.and_eq_true, Bool.and_eq_true] at hc
          rw [Bool.and_eq_true, decide_eq_true_eq] at h80
          have h1 := hi 4 (by omega) (fun k a b => by
            have : k = 1 ∨ k = 2 ∨ k = 3 := by omega
            rcases this with rfl | rfl | rfl
            · exact hc.1.1.2
            · exact hc.1.2
            · exact hc.2)
          exact ⟨_, _, rfl, by omega, hv _ (by omega) h80.2, h80.2, by omega, h1⟩
        · exact ⟨_, _, rfl, err⟩
      · exact ⟨_, _, rfl, err⟩

theorem noAny_hi {s : ByteArray} {pos n : Nat} (h : Lib.NoAny s.data.toList sgL pos) (hn : HiN s pos n) : Lib.NoAny s.data.toList sgL (pos + n) := fun j b hj hb => by
  by_cases hlt : j < pos
  · exact h j b hlt hb
  · have h1 := hn.2 j (by omega) hj
    have h2 := get_byte s j (by have := hn.1; omega)
    rw [h2] at hb
    injection hb with hb
    subst hb
    rw [Bool.eq_false_iff]
    intro hc
    simp [sgL] at hc
    rcases hc with e | e | e | e <;> rw [e] at h1 <;> exact absurd h1 (by decide)

/-- The world in which the iterator at block b stands at pos. -/
def setIter (w : World) (b : Nat) (s : ByteArray) (pos : Nat) : World := { w with heap := w.heap.setIfInBounds b (.stringIter s pos) }
theorem setIter_at {w : World} {b : Nat} (h : b < w.heap.size) (s : ByteArray) (pos : Nat) : (setIter w b s pos).heap[b]? = some (.stringIter s pos) := by
  simp [setIter, h]
theorem setIter_below {B b : Nat} {a w : World} (h : Below B a w) (hB : B ≤ b) (s : ByteArray) (pos : Nat) : Below B a (setIter w b s pos) :=
  ⟨h.os, h.tape, h.output, by simpa [setIter] using h.size, fun k hk => by
    rw [← h.block k hk]
    simp only [setIter, Array.getElem?_setIfInBounds]
    rw [if_neg (by omega)]⟩
theorem run_next_any (P : Program) (w : World) (b : Nat) (s : ByteArray) (pos r n : Nat) (ty : TypeId) (hb : w.heap[b]? = some (.stringIter s pos)) (h : pos < s.size) (hd : Utf8.decode s pos = (r, n)) :
    (Instr.next (.pointer (some ⟨b, 0, none⟩)) true ty).run P w = .ok (.tuple #[.bool true, .int .i64 pos, .int .i32 r]) (setIter w b s (pos + n)) := by
  simp only [Instr.next, getObj, setObj, Sem.run_bind, Sem.run, hb, Result.andThen, h, if_true, hd]
  simp [goInt, setIter]
theorem run_next_over (P : Program) (w : World) (b : Nat) (s : ByteArray) (pos : Nat) (ty : TypeId) (hb : w.heap[b]? = some (.stringIter s pos)) (h : ¬ pos < s.size) :
    (Instr.next (.pointer (some ⟨b, 0, none⟩)) true ty).run P w = .ok (.tuple #[.bool false]) w := by
  simp [Instr.next, getObj, Sem.run, hb, h]
end Go.Proofs.YtcfbcidakddhfaaGreatDoor
namespace Go.Proofs.YtcfbcidakddhfaaGreatDoor
open Go.RowKit

def sttextB (a b c : Int) : List UInt8 := Lib.itoa a ++ (46 :: (Lib.itoa b ++ (46 :: Lib.itoa c)))
theorem textB_join (a b c : Int) : Lib.join [Lib.itoa a, Lib.itoa b, Lib.itoa c] [46] = sttextB a b c := by simp [Lib.join, List.intercalate, sttextB]
def pieceB (a b c : Int) (k j : Nat) : ByteArray := if j < k then strB (Lib.itoa (if j = 0 then a else if j = 1 then b else c)) else ⟨#[]⟩
theorem pieceB_set (a b c : Int) (k : Nat) : (fun j => if j = k then strB (Lib.itoa (if k = 0 then a else if k = 1 then b else c)) else pieceB a b c k j) = pieceB a b c (k + 1) := by
  funext j
  unfold pieceB
  by_cases e : j = k
  · subst e; simp
  · by_cases h : j < k
    · simp [e, h, show j < k + 1 by omega]
    · simp [e, h, show ¬ j < k + 1 by omega]
theorem setBelow {B : Nat} {w w' : World} {p : Addr} {v : Value} (h : Below B w w') (hp : B ≤ p.block) : Below B w (w'.setCell p v) := by
  refine ⟨h.os, h.tape, h.output, by simpa [World.setCell] using h.size, fun j hj => ?_⟩
  rw [← h.block j hj]
  simp only [World.setCell]
  rw [Array.getElem?_modify, if_neg (by omega)]

end Go.Proofs.YtcfbcidakddhfaaGreatDoor
