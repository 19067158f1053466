/- How two lists of labels stand, as a plain function. -/
import Derived.Test.YtpkadghdnlkfiaaLbRM
namespace Go.Proofs.Ytpkadghdnlkfiaa
open Go.RowKit

def cmpL : List Pp → List Pp → Int
  | [], [] => 0
  | [], _ :: _ => -1
  | _ :: _, [] => 1
  | x :: a, y :: b =>
    if (!(x.1.toList == y.1.toList)) = true then (if ltB x.1 y.1 = true then -1 else 1)
    else if (!(x.2.toList == y.2.toList)) = true then (if ltB x.2 y.2 = true then -1 else 1)
    else cmpL a b
theorem drop_getD {l : List Pp} {k : Nat} (h : k < l.length) : l.drop k = l.getD k nilP :: l.drop (k + 1) := by
  rw [List.drop_eq_getElem_cons h, List.getD_eq_getElem?_getD, List.getElem?_eq_getElem h]; rfl
theorem cmpL_step {a b : List Pp} {k : Nat} (ha : k < a.length) (hb : k < b.length) : cmpL (a.drop k) (b.drop k) =
    if (!((a.getD k nilP).1.toList == (b.getD k nilP).1.toList)) = true then (if ltB (a.getD k nilP).1 (b.getD k nilP).1 = true then -1 else 1)
    else if (!((a.getD k nilP).2.toList == (b.getD k nilP).2.toList)) = true then (if ltB (a.getD k nilP).2 (b.getD k nilP).2 = true then -1 else 1)
    else cmpL (a.drop (k + 1)) (b.drop (k + 1)) := by
  rw [drop_getD ha, drop_getD hb, cmpL]
theorem cmpL_left {a b : List Pp} {k : Nat} (ha : a.length ≤ k) (hb : k < b.length) : cmpL (a.drop k) (b.drop k) = -1 := by
  rw [List.drop_of_length_le ha, drop_getD hb, cmpL]
theorem cmpL_right {a b : List Pp} {k : Nat} (ha : k < a.length) (hb : b.length ≤ k) : cmpL (a.drop k) (b.drop k) = 1 := by
  rw [List.drop_of_length_le hb, drop_getD ha, cmpL]
theorem cmpL_both {a b : List Pp} {k : Nat} (ha : a.length ≤ k) (hb : b.length ≤ k) : cmpL (a.drop k) (b.drop k) = 0 := by
  rw [List.drop_of_length_le ha, List.drop_of_length_le hb, cmpL]
theorem cmpL_self : ∀ a : List Pp, cmpL a a = 0
  | [] => rfl
  | x :: a => by rw [cmpL]; simp [cmpL_self a]
end Go.Proofs.Ytpkadghdnlkfiaa
