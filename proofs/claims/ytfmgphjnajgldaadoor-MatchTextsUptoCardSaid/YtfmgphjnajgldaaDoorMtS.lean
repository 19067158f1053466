/- The document's Stands, One and All. -/
import Derived.Test.YtfmgphjnajgldaaDoorMtT
import Derived.Test.YtfmgphjnajgldaaDoorMtH
namespace Go.Proofs.YtfmgphjnajgldaaDoor
open Go.RowKit

def standZ (s p : ByteArray) (i : Nat) : Bool := decide (i + p.size ≤ s.size) && standB s.data.toList i p.data.toList
theorem standZ_in {s p : ByteArray} {i : Nat} (h : i ≤ s.size) : standZ s p i = standB s.data.toList i p.data.toList := by
  unfold standZ
  by_cases hl : i + p.size ≤ s.size
  · simp [hl]
  · have e1 : s.data.toList.length = s.size := by simp
    have e2 : p.data.toList.length = p.size := by simp
    rcases standB_long (s := s.data.toList) (p := p.data.toList) (i := i) (by omega) with h1 | h1
    · rw [h1]; simp
    · rw [h1] at e2
      exact absurd (show i + p.size ≤ s.size by rw [← e2]; simpa using h) hl
theorem standZ_zero (s p : ByteArray) : standZ s p 0 = Lib.hasPrefix s.data.toList p.data.toList := by
  rw [standZ_in (Nat.zero_le _), standB, List.drop_zero]; rfl
theorem ext_stand {s p : ByteArray} {i : Nat} (h : i + p.size ≤ s.size) : ((s.extract i (i + p.size)).toList == p.toList) = standZ s p i := by
  have e : i + p.size - i = p.data.toList.length := by simp
  rw [Lib.extract_toList, Lib.toList_data, e, standB_take]
  unfold standZ
  rw [decide_eq_true h]; rfl

set_option maxHeartbeats 1600000 in
theorem stands_any (s p : ByteArray) (i : Nat) (w : World) (hs : s.size ≤ 1000000000000) (hp : p.size ≤ 1000000000000) (hi : i ≤ 1000000000000) :
    Calls Tryd.prog 30 #[.string s, .int .i64 (i : Int), .string p] w fun e w' => e = .returned (.bool (standZ s p i)) ∧ w = w' := by
  by_cases h : i + p.size ≤ s.size
  · have HF := Lib.hid (ext_stand h)
    have i1 : (i : Int) ≤ (s.size : Int) - p.size := by omega
    have i2 : (i : Int) + p.size ≤ s.size := by omega
    have i3 : (0 : Int) ≤ (i : Int) + p.size := by omega
    have i4 : ((i : Int) + p.size).toNat = i + p.size := by omega
    go_enter Tryd.func30, Tryd.ntmps30
    go_wp2
    go_ret
    exact ⟨ret_bool HF.out, rfl⟩
  · have HF : Hid (standZ s p i = false) := Lib.hid (by unfold standZ; rw [decide_eq_false h]; rfl)
    have i1 : ¬ (i : Int) ≤ (s.size : Int) - p.size := by omega
    go_enter Tryd.func30, Tryd.ntmps30
    go_wp2
    go_ret
    exact ⟨ret_bool HF.out.symm, rfl⟩

theorem holdB_four {xv v : ByteArray} : holdB 4 xv v = standTo v.data.toList xv.data.toList (v.size + 1) := by
  have hl : v.data.toList.length = v.size := by simp
  simp only [holdB]
  rw [contains_stand, hl]; rfl

set_option maxHeartbeats 3200000 in
theorem one_any (K : Nat) (B : Option Addr) (m capb : Nat) (s : List Pp) (xn xv : ByteArray) (o : Int) (w : World) (hlm : s.length = m) (hq : Lr w K B capb s) (hK : K ≤ w.heap.size) (hS : Sm s) (hx : xv.size ≤ 1048576) :
    Calls Tryd.prog 27 #[.agg #[.string xn, .int .i64 o, .string xv], .slice B m capb] w fun e w' => e = .returned (.bool (holdB o xv (getL s xn))) ∧ Below w.heap.size w w' := by
  subst hlm
  have B0 : Below w.heap.size w (w.alloc (.cells #[.string xn, .int .i64 o, .string xv] 51)) := (Below.refl _ _).alloc (Nat.le_refl _) _
  have HG := Lib.hid (rGet_any K B s.length capb s xn _ rfl (hq.below (B0.mono hK)) (by simp; omega))
  have hgs := getL_sm hS xn
  generalize getL s xn = v at *
  have z1 : w.heap.size ≤ (w.alloc (.cells #[.string xn, .int .i64 o, .string xv] 51)).heap.size := by simp
  by_cases h1 : o = 1
  · have HF : Hid (holdB o xv v = (v.toList == xv.toList)) := Lib.hid (by simp [holdB, h1])
    subst h1
    go_enter Tryd.func27, Tryd.ntmps27
    go_wp2_with (go_at_call 42; refine HG.out.mono ?_; rintro e w1 ⟨rfl, hb1⟩; have m0 : w1.cell? ⟨w.heap.size, 0, none⟩ = some (.string xn) := kept hb1 (by simp); have m1 : w1.cell? ⟨w.heap.size, 1, none⟩ = some (.int .i64 1) := kept hb1 (by simp); have m2 : w1.cell? ⟨w.heap.size, 2, none⟩ = some (.string xv) := kept hb1 (by simp); have B2 := B0.trans (hb1.mono z1); clear hb1)
    go_ret
    exact ⟨ret_bool HF.out.symm, B2⟩
  by_cases h2 : o = 2
  · have HF : Hid (holdB o xv v = !(v.toList == xv.toList)) := Lib.hid (by simp [holdB, h2])
    subst h2
    clear h1
    go_enter Tryd.func27, Tryd.ntmps27
    go_wp2_with (go_at_call 42; refine HG.out.mono ?_; rintro e w1 ⟨rfl, hb1⟩; have m0 : w1.cell? ⟨w.heap.size, 0, none⟩ = some (.string xn) := kept hb1 (by simp); have m1 : w1.cell? ⟨w.heap.size, 1, none⟩ = some (.int .i64 2) := kept hb1 (by simp); have m2 : w1.cell? ⟨w.heap.size, 2, none⟩ = some (.string xv) := kept hb1 (by simp); have B2 := B0.trans (hb1.mono z1); clear hb1)
    go_ret
    exact ⟨ret_bool (by rw [HF.out]), B2⟩
  by_cases h3 : o = 3
  · have HF : Hid (holdB o xv v = standZ v xv 0) := Lib.hid (by simp [holdB, h3, standZ_zero])
    subst h3
    clear h1 h2
    have HC := Lib.hid (fun W => stands_any v xv 0 W (by omega) (by omega) (by omega))
    go_enter Tryd.func27, Tryd.ntmps27
    go_wp2_with (go_at_call 42; refine HG.out.mono ?_; rintro e w1 ⟨rfl, hb1⟩; have m0 : w1.cell? ⟨w.heap.size, 0, none⟩ = some (.string xn) := kept hb1 (by simp); have m1 : w1.cell? ⟨w.heap.size, 1, none⟩ = some (.int .i64 3) := kept hb1 (by simp); have m2 : w1.cell? ⟨w.heap.size, 2, none⟩ = some (.string xv) := kept hb1 (by simp); have B2 := B0.trans (hb1.mono z1); clear hb1)
    refine (HC.out _).mono ?_
    rintro e w' ⟨rfl, rfl⟩
    go_wp2_with fail
    go_ret
    exact ⟨ret_bool HF.out.symm, B2⟩
  by_cases h4 : o = 4
  · have HF : Hid (holdB o xv v = standTo v.data.toList xv.data.toList (v.size + 1)) := Lib.hid (by rw [h4]; exact holdB_four)
    have HC : Hid (∀ (k : Nat) W, k ≤ v.size → Calls Tryd.prog 30 #[.string v, .int .i64 (k : Int), .string xv] W fun e w' => e = .returned (.bool (standB v.data.toList k xv.data.toList)) ∧ W = w') := Lib.hid (fun k W h => by
      rw [← standZ_in h]
      exact stands_any v xv k W (by omega) (by omega) (by omega))
    have HY : Hid (∀ k : Nat, k ≤ v.size → standB v.data.toList k xv.data.toList = true → standTo v.data.toList xv.data.toList (v.size + 1) = true) := Lib.hid (fun k h hs => by
      rw [← holdB_four]
      have hl : v.data.toList.length = v.size := by simp
      show Lib.contains _ _ = true
      exact contains_yes (k := k) (by omega) hs)
    have HN : Hid (∀ k : Nat, standTo v.data.toList xv.data.toList (k + 1) = (standTo v.data.toList xv.data.toList k || standB v.data.toList k xv.data.toList)) := Lib.hid (fun k => standTo_succ _ _ k)
    have HZ : Hid (standTo v.data.toList xv.data.toList 0 = false) := Lib.hid (standTo_zero _ _)
    generalize standTo v.data.toList xv.data.toList = st at *
    generalize hsb : (fun k => standB v.data.toList k xv.data.toList) = sb at *
    have hsb2 : ∀ k, standB v.data.toList k xv.data.toList = sb k := fun k => by rw [← hsb]
    simp only [hsb2] at HC HY HN
    clear hsb hsb2
    subst h4
    clear h1 h2 h3
    go_enter Tryd.func27, Tryd.ntmps27
    go_wp2_with (go_at_call 42; refine HG.out.mono ?_; rintro e w1 ⟨rfl, hb1⟩; have m0 : w1.cell? ⟨w.heap.size, 0, none⟩ = some (.string xn) := kept hb1 (by simp); have m1 : w1.cell? ⟨w.heap.size, 1, none⟩ = some (.int .i64 4) := kept hb1 (by simp); have m2 : w1.cell? ⟨w.heap.size, 2, none⟩ = some (.string xv) := kept hb1 (by simp); have B2 := B0.trans (hb1.mono z1); clear hb1)
    go_loop [6] (fun i => ∃ k : Nat, k ≤ v.size + 1 ∧ i = .int .i64 k ∧ Hid (st k = false)) (fun i => v.size + 1 - (intOf i).toNat)
    case atStart => exact ⟨0, Nat.zero_le _, rfl, HZ⟩
    case round =>
      obtain ⟨k, hk, rfl, HT⟩ := hrel
      by_cases hlt : k ≤ v.size
      · by_cases hb : sb k = true
        · have HF2 : Hid (holdB 4 xv v = true) := Lib.hid (by rw [HF.out]; exact HY.out k hlt hb)
          have HCk := Lib.hid (fun W => HC.out k W hlt)
          rw [hb] at HCk
          clear hb
          go_wp2_with (go_at_call 30; refine (HCk.out _).mono ?_; rintro e w' ⟨rfl, rfl⟩)
          go_ret
          exact ⟨ret_bool HF2.out.symm, B2⟩
        · have hb : sb k = false := by simpa using hb
          have HN2 : Hid (st (k + 1) = false) := Lib.hid (by rw [HN.out, HT.out, hb]; rfl)
          have HCk := Lib.hid (fun W => HC.out k W hlt)
          rw [hb] at HCk
          clear hb
          go_wp2_with (go_at_call 30; refine (HCk.out _).mono ?_; rintro e w' ⟨rfl, rfl⟩)
          go_round
          case rel => exact ⟨k + 1, by omega, by go_num, HN2⟩
          case measure => simp [intOf]; omega
      · have hks : k = v.size + 1 := by omega
        have HF2 : Hid (holdB 4 xv v = false) := Lib.hid (by rw [HF.out, ← hks]; exact HT.out)
        clear hks
        go_wp2_with fail
        go_ret
        exact ⟨ret_bool HF2.out.symm, B2⟩
  · have HF : Hid (holdB o xv v = false) := Lib.hid (by simp [holdB, h1, h2, h3, h4])
    have e1 : (o == 1) = false := beq_eq_false_iff_ne.2 h1
    have e2 : (o == 2) = false := beq_eq_false_iff_ne.2 h2
    have e3 : (o == 3) = false := beq_eq_false_iff_ne.2 h3
    have e4 : (o != 4) = true := by simpa using h4
    clear h1 h2 h3 h4
    go_enter Tryd.func27, Tryd.ntmps27
    go_wp2_with (go_at_call 42; refine HG.out.mono ?_; rintro e w1 ⟨rfl, hb1⟩; have m0 : w1.cell? ⟨w.heap.size, 0, none⟩ = some (.string xn) := kept hb1 (by simp); have m1 : w1.cell? ⟨w.heap.size, 1, none⟩ = some (.int .i64 o) := kept hb1 (by simp); have m2 : w1.cell? ⟨w.heap.size, 2, none⟩ = some (.string xv) := kept hb1 (by simp); have B2 := B0.trans (hb1.mono z1); clear hb1)
    go_ret
    exact ⟨ret_bool HF.out.symm, B2⟩

set_option maxHeartbeats 3200000 in
theorem rAll_any (K : Nat) (A B : Option Addr) (n cap m capb : Nat) (l : List Rp) (s : List Pp) (w : World) (hln : l.length = n) (hlm : s.length = m) (hp : Rr w K A cap l) (hq : Lr w K B capb s) (hK : K ≤ w.heap.size) (hS : Sm s) (hR : SmR l) :
    Calls Tryd.prog 14 #[.slice A n cap, .slice B m capb] w fun e w' => e = .returned (.bool (allB s l)) ∧ Below w.heap.size w w' := by
  subst hln hlm
  have hle := hp.le
  have hmax := hp.max
  unfold maxLen at hmax
  go_enter Tryd.func14, Tryd.ntmps14
  go_wp2
  go_loopw [5] (fun i wr => ∃ k : Nat, k ≤ l.length ∧ i = .int .i64 k ∧ Hid (allTo s l k = true) ∧ Below w.heap.size w wr) (fun i _ => l.length - (intOf i).toNat)
  case atStart => exact ⟨0, Nat.zero_le _, rfl, Lib.hid (allTo_zero s l), Below.refl _ _⟩
  case round =>
    obtain ⟨k, hk, rfl, HT, hbl⟩ := hrel
    have z := hbl.size
    by_cases hlt : k < l.length
    · obtain ⟨ad, rfl, hadK, h1, h2, h3⟩ := rr_at (hp.below (hbl.mono hK)) hlt
      have hs := hR.at_ k
      have hnext := allTo_succ s hlt
      have hno : oneB s (l.getD k nilR) = false → allB s l = false := allB_no hlt
      have hone : oneB s (l.getD k nilR) = holdB (l.getD k nilR).2.1 (l.getD k nilR).2.2 (getL s (l.getD k nilR).1) := rfl
      generalize l.getD k nilR = x at *
      obtain ⟨xn, xo, xv⟩ := x
      simp only at h1 h2 h3 hone hs
      have HC := Lib.hid (one_any K B s.length capb s xn xv xo wr rfl (hq.below (hbl.mono hK)) (by omega) hS hs.2)
      by_cases hr : oneB s (xn, xo, xv) = true
      · have HN : Hid (allTo s l (k + 1) = true) := Lib.hid (by rw [hnext, HT.out, hr]; rfl)
        rw [← hone, hr] at HC
        clear hnext hno hr hone
        go_wp2_with (go_at_call 27; refine HC.out.mono ?_; rintro e w1 ⟨rfl, hb1⟩)
        go_roundw
        case rel => exact ⟨k + 1, by omega, by go_num, HN, hbl.trans (hb1.mono z)⟩
        case measure => simp [intOf]; omega
      · have hr : oneB s (xn, xo, xv) = false := by simpa using hr
        have HF : Hid (allB s l = false) := Lib.hid (hno hr)
        rw [← hone, hr] at HC
        clear hnext hno hr hone
        go_wp2_with (go_at_call 27; refine HC.out.mono ?_; rintro e w1 ⟨rfl, hb1⟩)
        go_ret
        exact ⟨ret_bool HF.out.symm, hbl.trans (hb1.mono z)⟩
    · have hks : k = l.length := by omega
      have HF : Hid (allB s l = true) := Lib.hid (by rw [← allTo_all, ← hks]; exact HT.out)
      clear hks
      go_wp2_with fail
      go_ret
      exact ⟨ret_bool HF.out.symm, hbl⟩
end Go.Proofs.YtfmgphjnajgldaaDoor
