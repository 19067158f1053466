/- Sets of labels, as plain functions of lists. -/
import Derived.Test.YtfmgphjnajgldaaDoorLbT
import Derived.Test.YtfmgphjnajgldaaDoorLbM
namespace Go.Proofs.YtfmgphjnajgldaaDoor
open Go.RowKit

def nilP : Pp := (⟨#[]⟩, ⟨#[]⟩)
/-- All texts of modest length. -/
def Sm (l : List Pp) : Prop := ∀ x ∈ l, x.1.size ≤ 1048576 ∧ x.2.size ≤ 1048576
theorem Sm.at_ {l : List Pp} (h : Sm l) (k : Nat) : (l.getD k nilP).1.size ≤ 1048576 ∧ (l.getD k nilP).2.size ≤ 1048576 := by
  rcases Nat.lt_or_ge k l.length with hk | hk
  · rw [List.getD_eq_getElem?_getD, List.getElem?_eq_getElem hk]
    exact h _ (List.getElem_mem hk)
  · rw [List.getD_eq_getElem?_getD, List.getElem?_eq_none hk]
    exact ⟨by decide, by decide⟩
theorem lr_at {w : World} {K cap : Nat} {A : Option Addr} {l : List Pp} (h : Lr w K A cap l) {i : Nat} (hi : i < l.length) : ∃ ad : Addr, A = some ad ∧ ad.block < K ∧ w.cell? (ad.add (i * 2)) = some (.string (l.getD i nilP).1) ∧ w.cell? ⟨(ad.add (i * 2)).block, (ad.add (i * 2)).off + 1, none⟩ = some (.string (l.getD i nilP).2) := by
  have := lr_cells h hi
  rw [List.getD_eq_getElem?_getD, List.getElem?_eq_getElem hi]
  exact this
def ltB (a b : ByteArray) : Bool := Op.bytesLess a.toList b.toList
def stepB (first : Bool) (pn xn xv : ByteArray) : Bool := nameB xn && valB xv && (first || ltB pn xn)
def stepC (l : List Pp) (i : Nat) : Bool := stepB (decide (i = 0)) (l.getD (i - 1) nilP).1 (l.getD i nilP).1 (l.getD i nilP).2
def rightTo (l : List Pp) (k : Nat) : Bool := (List.range k).all fun i => stepC l i
theorem rightTo_zero (l : List Pp) : rightTo l 0 = true := rfl
theorem rightTo_succ (l : List Pp) (k : Nat) : rightTo l (k + 1) = (rightTo l k && stepC l k) := by simp [rightTo, List.range_succ]
theorem rightTo_false {l : List Pp} {k n : Nat} (h : stepC l k = false) (hk : k < n) : rightTo l n = false := by
  simp only [rightTo, List.all_eq_false, List.mem_range]
  exact ⟨k, hk, by simp [h]⟩
def rightL (l : List Pp) : Bool := decide (l.length ≤ 16) && rightTo l l.length
theorem rightL_many {l : List Pp} (h : 16 < l.length) : rightL l = false := by
  have : ¬ l.length ≤ 16 := by omega
  simp [rightL, this]
theorem rightL_of {l : List Pp} (h : l.length ≤ 16) : rightL l = rightTo l l.length := by simp [rightL, h]

/-- Do two neighbours have one name? -/
def twC (l : List Pp) (i : Nat) : Bool := (l.getD i nilP).1.toList == (l.getD (i + 1) nilP).1.toList
def twTo (l : List Pp) (k : Nat) : Bool := (List.range k).any fun i => twC l i
theorem twTo_zero (l : List Pp) : twTo l 0 = false := rfl
theorem twTo_succ (l : List Pp) (k : Nat) : twTo l (k + 1) = (twTo l k || twC l k) := by simp [twTo, List.range_succ]
theorem twTo_true {l : List Pp} {k n : Nat} (h : twC l k = true) (hk : k < n) : twTo l n = true := by
  simp only [twTo, List.any_eq_true, List.mem_range]
  exact ⟨k, hk, h⟩
def twL (l : List Pp) : Bool := twTo l (l.length - 1)

def getL (l : List Pp) (n : ByteArray) : ByteArray := match l with
  | [] => ⟨#[]⟩
  | x :: l => if x.1.toList == n.toList then x.2 else getL l n
theorem getL_drop {l : List Pp} {k : Nat} (h : k < l.length) (n : ByteArray) : getL (l.drop k) n = if (l.getD k nilP).1.toList == n.toList then (l.getD k nilP).2 else getL (l.drop (k + 1)) n := by
  rw [List.drop_eq_getElem_cons h, getL, List.getD_eq_getElem?_getD, List.getElem?_eq_getElem h]
  rfl
end Go.Proofs.YtfmgphjnajgldaaDoor
