/- The program's holds and All. -/
import Derived.Test.YtfmgphjnajgldaaDoorMtR
import Derived.Test.YtfmgphjnajgldaaDoorMtG
import Derived.Test.YtfmgphjnajgldaaDoorShP
import Derived.Test.YtfmgphjnajgldaaDoorShelf
import Derived.RegionTactic
namespace Go.Proofs.YtfmgphjnajgldaaDoor
open Go.RowKit

/-- The library's variable in memory. -/
def Mx (w : World) : Prop := ∃ m, w.cell? ⟨1, 0, none⟩ = some (.int .i64 m)
theorem Mx.below {w w' : World} (h : Mx w) (hb : Below w.heap.size w w') : Mx w' := by
  obtain ⟨m, h⟩ := h
  exact ⟨m, kept hb h⟩
theorem contains_any (s p : ByteArray) (w : World) (hs : s.size ≤ 1048576) (hm : Mx w) : Calls Tryd.prog 41 #[.string s, .string p] w fun e w' => e = .returned (.bool (Lib.contains s.data.toList p.data.toList)) ∧ w = w' := by
  obtain ⟨m, hm⟩ := hm
  exact (Tryd.strings_Contains s p m w (by omega) hm).mono fun _ _ h => ⟨h.1, h.2.symm⟩

set_option maxHeartbeats 1600000 in
theorem holds_any (xn xv v : ByteArray) (o : Int) (w : World) (hm : Mx w) (hv : v.size ≤ 1048576) :
    Calls Tryd.prog 26 #[.agg #[.string xn, .int .i64 o, .string xv], .string v] w fun e w' => e = .returned (.bool (holdB o xv v)) ∧ Below w.heap.size w w' := by
  have B0 : Below w.heap.size w (w.alloc (.cells #[.string xn, .int .i64 o, .string xv] 44)) := (Below.refl _ _).alloc (Nat.le_refl _) _
  have HM := Lib.hid (hm.below B0)
  clear hm
  by_cases h1 : o = 1
  · have HF : Hid (holdB o xv v = (v.toList == xv.toList)) := Lib.hid (by simp [holdB, h1])
    subst h1
    go_enter Tryd.func26, Tryd.ntmps26
    go_wp2
    go_ret
    exact ⟨ret_bool HF.out.symm, B0⟩
  by_cases h2 : o = 2
  · have HF : Hid (holdB o xv v = !(v.toList == xv.toList)) := Lib.hid (by simp [holdB, h2])
    subst h2
    clear h1
    go_enter Tryd.func26, Tryd.ntmps26
    go_wp2
    go_ret
    exact ⟨ret_bool (by rw [HF.out]), B0⟩
  by_cases h3 : o = 3
  · have HF : Hid (holdB o xv v = Lib.hasPrefix v.data.toList xv.data.toList) := Lib.hid (by simp [holdB, h3])
    subst h3
    clear h1 h2
    go_enter Tryd.func26, Tryd.ntmps26
    go_wp2_with (go_at_call 28; refine (hasPrefix_any v xv _).mono ?_; rintro e w' ⟨rfl, rfl⟩)
    go_ret
    exact ⟨ret_bool HF.out.symm, B0⟩
  by_cases h4 : o = 4
  · have HF : Hid (holdB o xv v = Lib.contains v.data.toList xv.data.toList) := Lib.hid (by simp [holdB, h4])
    subst h4
    clear h1 h2 h3
    go_enter Tryd.func26, Tryd.ntmps26
    go_wp2_with (go_at_call 41; refine (contains_any v xv _ hv HM.out).mono ?_; rintro e w' ⟨rfl, rfl⟩)
    go_ret
    exact ⟨ret_bool HF.out.symm, B0⟩
  · have HF : Hid (holdB o xv v = false) := Lib.hid (by simp [holdB, h1, h2, h3, h4])
    have e1 : (o == 1) = false := beq_eq_false_iff_ne.2 h1
    have e2 : (o == 2) = false := beq_eq_false_iff_ne.2 h2
    have e3 : (o == 3) = false := beq_eq_false_iff_ne.2 h3
    have e4 : (o == 4) = false := beq_eq_false_iff_ne.2 h4
    clear h1 h2 h3 h4
    go_enter Tryd.func26, Tryd.ntmps26
    go_wp2
    go_ret
    exact ⟨ret_bool HF.out.symm, B0⟩

theorem getL_sm {s : List Pp} (hS : Sm s) (n : ByteArray) : (getL s n).size ≤ 1048576 := by
  induction s with
  | nil => exact Nat.zero_le _
  | cons x l ih =>
    rw [getL]
    split
    · exact (hS x (by simp)).2
    · exact ih fun y hy => hS y (by simp [hy])

set_option maxHeartbeats 3200000 in
theorem allR_any (K : Nat) (A B : Option Addr) (n cap m capb : Nat) (l : List Rp) (s : List Pp) (w : World) (hln : l.length = n) (hlm : s.length = m) (hp : Rr w K A cap l) (hq : Lr w K B capb s) (hK : K ≤ w.heap.size) (hS : Sm s) (hm : Mx w) :
    Calls Tryd.prog 12 #[.slice A n cap, .slice B m capb] w fun e w' => e = .returned (.bool (allB s l)) ∧ Below w.heap.size w w' := by
  subst hln hlm
  have hle := hp.le
  have hmax := hp.max
  unfold maxLen at hmax
  have HM := Lib.hid hm
  clear hm
  go_enter Tryd.func12, Tryd.ntmps12
  go_wp2
  go_loopw [9] (fun i wr => ∃ k : Nat, k ≤ l.length ∧ i = .int .i64 k ∧ Hid (allTo s l k = true) ∧ Below w.heap.size w wr) (fun i _ => l.length - (intOf i).toNat)
  case atStart => exact ⟨0, Nat.zero_le _, rfl, Lib.hid (allTo_zero s l), Below.refl _ _⟩
  case round =>
    obtain ⟨k, hk, rfl, HT, hbl⟩ := hrel
    have z := hbl.size
    by_cases hlt : k < l.length
    · obtain ⟨ad, rfl, hadK, h1, h2, h3⟩ := rr_at (hp.below (hbl.mono hK)) hlt
      have hnext := allTo_succ s hlt
      have hno : oneB s (l.getD k nilR) = false → allB s l = false := allB_no hlt
      have hone : oneB s (l.getD k nilR) = holdB (l.getD k nilR).2.1 (l.getD k nilR).2.2 (getL s (l.getD k nilR).1) := rfl
      generalize l.getD k nilR = x at *
      obtain ⟨xn, xo, xv⟩ := x
      simp only at h1 h2 h3 hone
      have B1 := hbl.alloc z (.cells #[.string xn, .int .i64 xo, .string xv] 44)
      have B1d := B1.drew
      have z1 : w.heap.size ≤ (wr.alloc (.cells #[.string xn, .int .i64 xo, .string xv] 44)).heap.size := by simp; omega
      have HG := Lib.hid (fun W => getv_any K B s.length capb s xn W rfl)
      have hgs := getL_sm hS xn
      have HC := Lib.hid (fun W (h : Mx W) => holds_any xn xv (getL s xn) xo W h hgs)
      have HQ := Lib.hid hq
      generalize getL s xn = gv at *
      by_cases hr : oneB s (xn, xo, xv) = true
      · have HN : Hid (allTo s l (k + 1) = true) := Lib.hid (by rw [hnext, HT.out, hr]; rfl)
        rw [← hone, hr] at HC
        clear hnext hno hr hone
        go_wp2_with fail
        go_region_with (first
          | (go_at_call 21; refine (HG.out _ (HQ.out.below (B1d.mono hK)) (by simp; omega)).mono ?_; rintro e w1 ⟨rfl, hb1⟩; have m0 : w1.cell? ⟨wr.heap.size, 0, none⟩ = some (.string xn) := kept hb1 (by simp); have m1 : w1.cell? ⟨wr.heap.size, 1, none⟩ = some (.int .i64 xo) := kept hb1 (by simp); have m2 : w1.cell? ⟨wr.heap.size, 2, none⟩ = some (.string xv) := kept hb1 (by simp); have B2 := B1d.trans (hb1.mono z1); clear hb1)
          | (go_at_call 26; refine (HC.out _ (HM.out.below B2)).mono ?_; rintro e w2 ⟨rfl, hb2⟩; have B3 := B2.trans (hb2.mono B2.size)))
        all_goals go_wp2_with fail
        all_goals go_roundw
        all_goals first
          | exact ⟨k + 1, by omega, by go_num, HN, B3⟩
          | (simp [intOf]; omega)
      · have hr : oneB s (xn, xo, xv) = false := by simpa using hr
        have HF : Hid (allB s l = false) := Lib.hid (hno hr)
        rw [← hone, hr] at HC
        clear hnext hno hr hone
        go_wp2_with fail
        go_region_with (first
          | (go_at_call 21; refine (HG.out _ (HQ.out.below (B1d.mono hK)) (by simp; omega)).mono ?_; rintro e w1 ⟨rfl, hb1⟩; have m0 : w1.cell? ⟨wr.heap.size, 0, none⟩ = some (.string xn) := kept hb1 (by simp); have m1 : w1.cell? ⟨wr.heap.size, 1, none⟩ = some (.int .i64 xo) := kept hb1 (by simp); have m2 : w1.cell? ⟨wr.heap.size, 2, none⟩ = some (.string xv) := kept hb1 (by simp); have B2 := B1d.trans (hb1.mono z1); clear hb1)
          | (go_at_call 26; refine (HC.out _ (HM.out.below B2)).mono ?_; rintro e w2 ⟨rfl, hb2⟩; have B3 := B2.trans (hb2.mono B2.size)))
        all_goals go_wp2_with fail
        all_goals go_ret
        all_goals exact ⟨ret_bool HF.out.symm, B3⟩
    · have hks : k = l.length := by omega
      have HF : Hid (allB s l = true) := Lib.hid (by rw [← allTo_all, ← hks]; exact HT.out)
      clear hks
      go_wp2_with fail
      go_ret
      exact ⟨ret_bool HF.out.symm, hbl⟩
end Go.Proofs.YtfmgphjnajgldaaDoor
