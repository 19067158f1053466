/- The order of lists of labels is one line. -/
import Derived.Test.YtpkadghdnlkfiabLbKM
namespace Go.Proofs.Ytpkadghdnlkfiab
open Go.RowKit

theorem cB_zero (a b : List UInt8) : Lib.compareBytes a b = 0 ↔ a = b := by
  rw [compare_tri]
  by_cases h : a = b
  · simp [h]
  · by_cases h2 : a < b <;> simp [h, h2]
theorem cB_bd (a b : List UInt8) : -1 ≤ Lib.compareBytes a b ∧ Lib.compareBytes a b ≤ 1 := by
  rw [compare_tri]
  by_cases h : a = b
  · simp [h]
  · by_cases h2 : a < b <;> simp [h, h2]
theorem cB_anti (a b : List UInt8) : Lib.compareBytes b a = - Lib.compareBytes a b := by
  rw [compare_tri, compare_tri]
  by_cases h : a = b
  · simp [h]
  · have h' : ¬ b = a := fun e => h e.symm
    by_cases h2 : a < b
    · have h3 : ¬ b < a := fun e => List.lt_irrefl _ (List.lt_trans h2 e)
      simp [h, h', h2, h3]
    · have h3 : b < a := by
        rcases List.le_iff_lt_or_eq.1 (List.not_lt.1 h2) with e | e
        · exact e
        · exact absurd e.symm h
      simp [h, h', h2, h3]
theorem cB_trans {a b c : List UInt8} (h1 : Lib.compareBytes a b < 0) (h2 : Lib.compareBytes b c < 0) : Lib.compareBytes a c < 0 :=
  (compare_lt a c).2 (List.lt_trans ((compare_lt a b).1 h1) ((compare_lt b c).1 h2))
theorem cfA_bd (x y : Pp) : -1 ≤ cfA x y ∧ cfA x y ≤ 1 := by
  have h1 := cB_bd (key x) (key y)
  have h2 := cB_bd x.2.data.toList y.2.data.toList
  unfold cfA orI
  split <;> omega
theorem cfA_anti (x y : Pp) : cfA y x = - cfA x y := by
  unfold cfA orI
  rw [cB_anti (key x) (key y), cB_anti x.2.data.toList y.2.data.toList]
  by_cases h : Lib.compareBytes (key x) (key y) = 0
  · simp [h]
  · have : ¬ (- Lib.compareBytes (key x) (key y) = 0) := by omega
    simp [h]
theorem cfA_zero {x y : Pp} (h : cfA x y = 0) : key x = key y ∧ x.2.data.toList = y.2.data.toList := by
  unfold cfA orI at h
  split at h
  · rename_i h1
    exact ⟨(cB_zero _ _).1 h1, (cB_zero _ _).1 h⟩
  · rename_i h1
    exact absurd h h1
theorem cfA_left {x y : Pp} (z : Pp) (h : cfA x y = 0) : cfA x z = cfA y z := by
  obtain ⟨h1, h2⟩ := cfA_zero h
  unfold cfA
  rw [h1, h2]
theorem cfA_right {y z : Pp} (x : Pp) (h : cfA y z = 0) : cfA x y = cfA x z := by
  obtain ⟨h1, h2⟩ := cfA_zero h
  unfold cfA
  rw [h1, h2]
theorem cfA_trans {x y z : Pp} (h1 : cfA x y < 0) (h2 : cfA y z < 0) : cfA x z < 0 := by
  unfold cfA orI at *
  by_cases e1 : Lib.compareBytes (key x) (key y) = 0
  · rw [if_pos e1] at h1
    have k1 := (cB_zero _ _).1 e1
    rw [k1]
    by_cases e2 : Lib.compareBytes (key y) (key z) = 0
    · rw [if_pos e2] at h2 ⊢
      exact cB_trans h1 h2
    · rw [if_neg e2] at h2 ⊢
      exact h2
  · rw [if_neg e1] at h1
    by_cases e2 : Lib.compareBytes (key y) (key z) = 0
    · have k2 := (cB_zero _ _).1 e2
      rw [← k2, if_neg e1]
      exact h1
    · rw [if_neg e2] at h2
      have h3 := cB_trans h1 h2
      rw [if_neg (by omega)]
      exact h3
theorem cmpL_cons (x y : Pp) (a b : List Pp) : cmpL (x :: a) (y :: b) = if cfA x y = 0 then cmpL a b else cfA x y := by
  have := cmpL_stepC (a := x :: a) (b := y :: b) (k := 0) (by simp) (by simp)
  simpa using this
theorem cmpL_bd : ∀ a b : List Pp, -1 ≤ cmpL a b ∧ cmpL a b ≤ 1
  | [], [] => by simp [cmpL]
  | [], _ :: _ => by simp [cmpL]
  | _ :: _, [] => by simp [cmpL]
  | x :: a, y :: b => by
    have := cmpL_bd a b
    have := cfA_bd x y
    rw [cmpL_cons]
    split <;> omega
theorem cmpL_anti : ∀ a b : List Pp, cmpL b a = - cmpL a b
  | [], [] => by simp [cmpL]
  | [], _ :: _ => by simp [cmpL]
  | _ :: _, [] => by simp [cmpL]
  | x :: a, y :: b => by
    rw [cmpL_cons, cmpL_cons, cfA_anti x y, cmpL_anti a b]
    by_cases h : cfA x y = 0
    · simp [h]
    · have : ¬ (- cfA x y = 0) := by omega
      simp [h]
theorem cmpL_trans : ∀ a b c : List Pp, cmpL a b ≤ 0 → cmpL b c ≤ 0 → cmpL a c ≤ 0
  | [], _, [], _, _ => by simp [cmpL]
  | [], _, _ :: _, _, _ => by simp [cmpL]
  | _ :: _, [], _, h, _ => by simp [cmpL] at h
  | _ :: _, _ :: _, [], _, h => by simp [cmpL] at h
  | x :: a, y :: b, z :: c, h1, h2 => by
    rw [cmpL_cons] at h1 h2 ⊢
    by_cases e1 : cfA x y = 0
    · rw [if_pos e1] at h1
      rw [cfA_left z e1]
      by_cases e2 : cfA y z = 0
      · rw [if_pos e2] at h2 ⊢
        exact cmpL_trans a b c h1 h2
      · rw [if_neg e2] at h2 ⊢
        exact h2
    · rw [if_neg e1] at h1
      by_cases e2 : cfA y z = 0
      · rw [← cfA_right x e2, if_neg e1]
        exact h1
      · rw [if_neg e2] at h2
        have := cfA_trans (show cfA x y < 0 by omega) (show cfA y z < 0 by omega)
        rw [if_neg (by omega)]
        omega
theorem cmpL_zero : ∀ {a b : List Pp}, cmpL a b = 0 → a = b
  | [], [], _ => rfl
  | [], _ :: _, h => by simp [cmpL] at h
  | _ :: _, [], h => by simp [cmpL] at h
  | x :: a, y :: b, h => by
    rw [cmpL_cons] at h
    split at h
    · rename_i e
      obtain ⟨h1, h2⟩ := cfA_zero e
      rw [cmpL_zero h]
      obtain ⟨x1, x2⟩ := x
      obtain ⟨y1, y2⟩ := y
      have k1 : x1 = y1 := ByteArray.ext (Array.toList_inj.1 h1)
      have k2 : x2 = y2 := ByteArray.ext (Array.toList_inj.1 h2)
      rw [k1, k2]
    · exact absurd h ‹_›
end Go.Proofs.Ytpkadghdnlkfiab
