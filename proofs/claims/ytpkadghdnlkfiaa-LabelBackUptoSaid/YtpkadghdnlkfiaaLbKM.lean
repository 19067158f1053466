/- Two labels' order as the program reckons it. -/
import Derived.Test.YtpkadghdnlkfiaaLbSM
import Derived.Test.YtpkadghdnlkfiaaLbCM
namespace Go.Proofs.Ytpkadghdnlkfiaa
open Go.RowKit

theorem compare_tri : ∀ a b : List UInt8, Lib.compareBytes a b = if a = b then 0 else if a < b then -1 else 1
  | [], [] => by simp [Lib.compareBytes]
  | [], _ :: _ => by simp [Lib.compareBytes]
  | _ :: _, [] => by simp [Lib.compareBytes]
  | a :: l, b :: m => by
    have ih := compare_tri l m
    rw [Lib.compareBytes]
    by_cases h1 : a < b
    · have hne : a ≠ b := by rintro rfl; exact absurd h1 (by simp)
      simp [List.cons_lt_cons_iff, h1, hne]
    · by_cases h2 : b < a
      · have hne : a ≠ b := by rintro rfl; exact absurd h2 h1
        simp [List.cons_lt_cons_iff, h1, h2, hne]
      · have he : a = b := by
          rw [UInt8.lt_iff_toNat_lt] at h1 h2
          exact UInt8.toNat_inj.1 (by omega)
        subst he
        simp [ih]
/-- The first of two that isn't 0. -/
def orI (a b : Int) : Int := if a = 0 then b else a
def cfA (x y : Pp) : Int := orI (Lib.compareBytes (key x) (key y)) (Lib.compareBytes x.2.data.toList y.2.data.toList)
theorem cfA_eq (x y : Pp) : cfA x y = if (!(x.1.toList == y.1.toList)) = true then (if ltB x.1 y.1 = true then -1 else 1)
    else if (!(x.2.toList == y.2.toList)) = true then (if ltB x.2 y.2 = true then -1 else 1) else 0 := by
  unfold cfA orI
  rw [compare_tri, compare_tri, ltB_eq, ltB_eq, Lib.toList_data, Lib.toList_data, Lib.toList_data, Lib.toList_data]
  have e1 : key x = x.1.data.toList := rfl
  have e2 : key y = y.1.data.toList := rfl
  rw [e1, e2]
  clear e1 e2
  generalize x.1.data.toList = a
  generalize y.1.data.toList = b
  generalize x.2.data.toList = c
  generalize y.2.data.toList = d
  by_cases h1 : a = b
  · by_cases h2 : c = d
    · simp [h1, h2]
    · by_cases h3 : c < d <;> simp [h1, h2, h3]
  · by_cases h3 : a < b <;> simp [h1, h3]
theorem cmpL_stepC {a b : List Pp} {k : Nat} (ha : k < a.length) (hb : k < b.length) : cmpL (a.drop k) (b.drop k) = if cfA (a.getD k nilP) (b.getD k nilP) = 0 then cmpL (a.drop (k + 1)) (b.drop (k + 1)) else cfA (a.getD k nilP) (b.getD k nilP) := by
  rw [cmpL_step ha hb, cfA_eq]
  split
  · split <;> simp
  · split
    · split <;> simp
    · simp
end Go.Proofs.Ytpkadghdnlkfiaa
