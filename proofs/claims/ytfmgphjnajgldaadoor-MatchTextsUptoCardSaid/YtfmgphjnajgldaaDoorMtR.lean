/- The program's isOp, isRule and Right. -/
import Derived.Test.YtfmgphjnajgldaaDoorMtT
import Derived.Test.YtfmgphjnajgldaaDoorLbV
import Derived.BigQuiet
import Derived.Deep.QuietTactic
namespace Go.Proofs.YtfmgphjnajgldaaDoor
open Go.RowKit

def SmR (l : List Rp) : Prop := ∀ x ∈ l, x.1.size ≤ 1048576 ∧ x.2.2.size ≤ 1048576
theorem SmR.at_ {l : List Rp} (h : SmR l) (k : Nat) : (l.getD k nilR).1.size ≤ 1048576 ∧ (l.getD k nilR).2.2.size ≤ 1048576 := by
  rcases Nat.lt_or_ge k l.length with hk | hk
  · rw [getR_eq hk]
    exact h _ (List.getElem_mem hk)
  · rw [List.getD_eq_getElem?_getD, List.getElem?_eq_none hk]
    exact ⟨by decide, by decide⟩

theorem isOp_any (n : Int) (w : World) : Calls Tryd.prog 40 #[.int .i64 n] w fun e w' => e = .returned (.bool (opB n)) ∧ w = w' := by
  go_enter Tryd.func40, Tryd.ntmps40
  go_wp2
  all_goals go_ret
  all_goals exact ⟨ret_bool (by rw [Bool.eq_iff_iff]; simp [opB] at *; omega), rfl⟩

set_option maxHeartbeats 1600000 in
theorem isRule_any (xn xv : ByteArray) (o : Int) (w : World) (h1 : xn.size ≤ maxLen) (h2 : xv.size ≤ maxLen) :
    Calls Tryd.prog 23 #[.agg #[.string xn, .int .i64 o, .string xv]] w fun e w' => e = .returned (.bool (ruleB (xn, o, xv))) ∧ Below w.heap.size w w' := by
  have B0 : Below w.heap.size w (w.alloc (.cells #[.string xn, .int .i64 o, .string xv] 44)) := (Below.refl _ _).alloc (Nat.le_refl _) _
  by_cases hn : nameB xn = true
  · by_cases ho : opB o = true
    · by_cases he : (xv.toList == []) = true
      · have HF : Hid (ruleB (xn, o, xv) = true) := Lib.hid (by simp only [ruleB, hn, ho, emB, he]; rfl)
        go_enter Tryd.func23, Tryd.ntmps23
        go_wp2_with (first
          | (go_at_call 38; refine (isName_any _ _ h1).mono ?_; rintro e w' ⟨rfl, rfl⟩)
          | (go_at_call 40; refine (isOp_any _ _).mono ?_; rintro e w' ⟨rfl, rfl⟩)
          | (go_at_call 39; refine (isValue_any _ _ h2).mono ?_; rintro e w' ⟨rfl, rfl⟩))
        go_ret
        exact ⟨ret_bool HF.out.symm, B0⟩
      · have he : (xv.toList == []) = false := by simpa using he
        have HF : Hid (ruleB (xn, o, xv) = valB xv) := Lib.hid (by simp only [ruleB, hn, ho, emB, he]; rfl)
        go_enter Tryd.func23, Tryd.ntmps23
        go_wp2_with (first
          | (go_at_call 38; refine (isName_any _ _ h1).mono ?_; rintro e w' ⟨rfl, rfl⟩)
          | (go_at_call 40; refine (isOp_any _ _).mono ?_; rintro e w' ⟨rfl, rfl⟩)
          | (go_at_call 39; refine (isValue_any _ _ h2).mono ?_; rintro e w' ⟨rfl, rfl⟩))
        go_ret
        exact ⟨ret_bool HF.out.symm, B0⟩
    · have ho : opB o = false := by simpa using ho
      have HF : Hid (ruleB (xn, o, xv) = false) := Lib.hid (by simp only [ruleB, hn, ho]; rfl)
      go_enter Tryd.func23, Tryd.ntmps23
      go_wp2_with (first
        | (go_at_call 38; refine (isName_any _ _ h1).mono ?_; rintro e w' ⟨rfl, rfl⟩)
        | (go_at_call 40; refine (isOp_any _ _).mono ?_; rintro e w' ⟨rfl, rfl⟩))
      go_ret
      exact ⟨ret_bool HF.out.symm, B0⟩
  · have hn : nameB xn = false := by simpa using hn
    have HF : Hid (ruleB (xn, o, xv) = false) := Lib.hid (by simp only [ruleB, hn]; rfl)
    go_enter Tryd.func23, Tryd.ntmps23
    go_wp2_with (first
      | (go_at_call 38; refine (isName_any _ _ h1).mono ?_; rintro e w' ⟨rfl, rfl⟩))
    go_ret
    exact ⟨ret_bool HF.out.symm, B0⟩

set_option maxHeartbeats 1600000 in
theorem rightR_any (K : Nat) (A : Option Addr) (n cap : Nat) (l : List Rp) (w : World) (hln : l.length = n) (hp : Rr w K A cap l) (hK : K ≤ w.heap.size) (hS : SmR l) :
    Calls Tryd.prog 9 #[.slice A n cap] w fun e w' => e = .returned (.bool (rulesL l)) ∧ Below w.heap.size w w' := by
  subst hln
  have hle := hp.le
  have hmax := hp.max
  unfold maxLen at hmax
  by_cases h16 : 16 < l.length
  · rw [rulesL_many h16]
    go_enter Tryd.func9, Tryd.ntmps9
    go_wp2
    go_ret
    exact ⟨rfl, Below.refl _ _⟩
  rw [rulesL_of (by omega)]
  go_enter Tryd.func9, Tryd.ntmps9
  go_wp2
  go_loopw [10] (fun i wr => ∃ k : Nat, k ≤ l.length ∧ i = .int .i64 k ∧ Hid (rulesTo l k = true) ∧ Below w.heap.size w wr) (fun i _ => l.length - (intOf i).toNat)
  case atStart => exact ⟨0, Nat.zero_le _, rfl, Lib.hid (rulesTo_zero l), Below.refl _ _⟩
  case round =>
    obtain ⟨k, hk, rfl, HT, hbl⟩ := hrel
    have z := hbl.size
    by_cases hlt : k < l.length
    · obtain ⟨ad, rfl, hadK, h1, h2, h3⟩ := rr_at (hp.below (hbl.mono hK)) hlt
      have hs := hS.at_ k
      have hnext := rulesTo_succ hlt
      have hno : ruleB (l.getD k nilR) = false → l.all ruleB = false := all_getR hlt _
      generalize l.getD k nilR = x at *
      obtain ⟨xn, xo, xv⟩ := x
      simp only at h1 h2 h3 hs
      have ms1 : xn.size ≤ maxLen := by unfold maxLen; omega
      have ms2 : xv.size ≤ maxLen := by unfold maxLen; omega
      have B1 := hbl.alloc z (.cells #[.string xn, .int .i64 xo, .string xv] 44)
      by_cases hr : ruleB (xn, xo, xv) = true
      · have HN : Hid (rulesTo l (k + 1) = true) := Lib.hid (by rw [hnext, HT.out, hr]; rfl)
        have HC := Lib.hid (isRule_any xn xv xo (wr.alloc (.cells #[.string xn, .int .i64 xo, .string xv] 44)) ms1 ms2)
        rw [hr] at HC
        clear hnext hno hr
        go_wp2_with (go_at_call 23; refine HC.out.mono ?_; rintro e w1 ⟨rfl, hb1⟩)
        go_roundw
        case rel => exact ⟨k + 1, by omega, by go_num, HN, B1.trans (hb1.mono (by simp; omega))⟩
        case measure => simp [intOf]; omega
      · have hr : ruleB (xn, xo, xv) = false := by simpa using hr
        have HF : Hid (l.all ruleB = false) := Lib.hid (hno hr)
        have HC := Lib.hid (isRule_any xn xv xo (wr.alloc (.cells #[.string xn, .int .i64 xo, .string xv] 44)) ms1 ms2)
        rw [hr] at HC
        clear hnext hno hr
        go_wp2_with (go_at_call 23; refine HC.out.mono ?_; rintro e w1 ⟨rfl, hb1⟩)
        go_ret
        exact ⟨ret_bool HF.out.symm, B1.trans (hb1.mono (by simp; omega))⟩
    · have hks : k = l.length := by omega
      have HF : Hid (l.all ruleB = true) := Lib.hid (by rw [← rulesTo_all, ← hks]; exact HT.out)
      clear hks
      go_wp2_with fail
      go_ret
      exact ⟨ret_bool HF.out.symm, hbl⟩
end Go.Proofs.YtfmgphjnajgldaaDoor
