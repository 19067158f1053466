/- Rules, as plain functions of lists. -/
import Derived.Test.YtfmgphjnajgldaaDoorLbRM
import Derived.Test.YtfmgphjnajgldaaDoorLbM
import Derived.Lib.IndexMore
import Derived.Lib.Strings
namespace Go.Proofs.YtfmgphjnajgldaaDoor
open Go.RowKit

abbrev Rp := ByteArray × Int × ByteArray
def nilR : Rp := (⟨#[]⟩, 0, ⟨#[]⟩)
def opB (o : Int) : Bool := decide (1 ≤ o ∧ o ≤ 4)
def emB (s : ByteArray) : Bool := s.toList == []
theorem emB_iff (s : ByteArray) : emB s = decide (s.size = 0) := by
  have hl : s.data.toList.length = s.size := by simp
  unfold emB
  rw [Lib.toList_data, Bool.eq_iff_iff, beq_iff_eq, decide_eq_true_eq, ← hl]
  exact List.length_eq_zero_iff.symm
def ruleB (x : Rp) : Bool := nameB x.1 && opB x.2.1 && (emB x.2.2 || valB x.2.2)
def rulesTo (l : List Rp) (k : Nat) : Bool := (l.take k).all ruleB
theorem rulesTo_zero (l : List Rp) : rulesTo l 0 = true := by simp [rulesTo]
theorem getR_eq {l : List Rp} {k : Nat} (h : k < l.length) : l.getD k nilR = l[k] := by
  rw [List.getD_eq_getElem?_getD, List.getElem?_eq_getElem h]; rfl
theorem rulesTo_succ {l : List Rp} {k : Nat} (h : k < l.length) : rulesTo l (k + 1) = (rulesTo l k && ruleB (l.getD k nilR)) := by
  rw [rulesTo, List.take_succ_eq_append_getElem h, List.all_append, getR_eq h]
  simp [rulesTo]
theorem rulesTo_all (l : List Rp) : rulesTo l l.length = l.all ruleB := by simp [rulesTo]
theorem all_getR {l : List Rp} {k : Nat} (h : k < l.length) (p : Rp → Bool) (hb : p (l.getD k nilR) = false) : l.all p = false := by
  rw [List.all_eq_false]
  exact ⟨l[k], List.getElem_mem h, by rw [← getR_eq h, hb]; decide⟩
def rulesL (l : List Rp) : Bool := decide (l.length ≤ 16) && l.all ruleB
theorem rulesL_many {l : List Rp} (h : 16 < l.length) : rulesL l = false := by
  have : ¬ l.length ≤ 16 := by omega
  simp [rulesL, this]
theorem rulesL_of {l : List Rp} (h : l.length ≤ 16) : rulesL l = l.all ruleB := by simp [rulesL, h]

def holdB (o : Int) (r v : ByteArray) : Bool :=
  if o = 1 then v.toList == r.toList else if o = 2 then !(v.toList == r.toList) else if o = 3 then Lib.hasPrefix v.data.toList r.data.toList else if o = 4 then Lib.contains v.data.toList r.data.toList else false
def oneB (s : List Pp) (x : Rp) : Bool := holdB x.2.1 x.2.2 (getL s x.1)
def allTo (s : List Pp) (l : List Rp) (k : Nat) : Bool := (l.take k).all (oneB s)
theorem allTo_zero (s : List Pp) (l : List Rp) : allTo s l 0 = true := by simp [allTo]
theorem allTo_succ (s : List Pp) {l : List Rp} {k : Nat} (h : k < l.length) : allTo s l (k + 1) = (allTo s l k && oneB s (l.getD k nilR)) := by
  rw [allTo, List.take_succ_eq_append_getElem h, List.all_append, getR_eq h]
  simp [allTo]
def allB (s : List Pp) (l : List Rp) : Bool := l.all (oneB s)
theorem allTo_all (s : List Pp) (l : List Rp) : allTo s l l.length = allB s l := by simp [allTo, allB]
theorem allB_no {s : List Pp} {l : List Rp} {k : Nat} (h : k < l.length) (hb : oneB s (l.getD k nilR) = false) : allB s l = false := all_getR h _ hb

theorem hasPrefix_refl (l : List UInt8) : Lib.hasPrefix l l = true := by simp [Lib.hasPrefix]
theorem contains_refl (l : List UInt8) : Lib.contains l l = true := by
  unfold Lib.contains
  rcases Lib.index_spec l l with ⟨_, h⟩ | ⟨i, h, _⟩
  · have h0 := h 0 (Nat.zero_le _)
    unfold Lib.occAt at h0
    rw [List.drop_zero, Bool.eq_false_iff] at h0
    exact absurd (List.isPrefixOf_iff_prefix.2 (List.prefix_refl l)) h0
  · rw [h]; simp
theorem allB_append (s : List Pp) (x y : List Rp) : allB s (x ++ y) = (allB s x && allB s y) := by simp [allB]
theorem oneB_is (s : List Pp) (n : ByteArray) : oneB s (n, 1, getL s n) = true := by simp [oneB, holdB]
theorem oneB_begins (s : List Pp) (n : ByteArray) : oneB s (n, 3, getL s n) = true := by simp [oneB, holdB, hasPrefix_refl]
theorem oneB_holds (s : List Pp) (n : ByteArray) : oneB s (n, 4, getL s n) = true := by simp [oneB, holdB, contains_refl]
theorem oneB_not (s : List Pp) (n : ByteArray) : oneB s (n, 2, getL s n) = false := by simp [oneB, holdB]

/-- Does a text stand in another one at a place? -/
def standB (s : List UInt8) (i : Nat) (p : List UInt8) : Bool := p.isPrefixOf (s.drop i)
def standTo (s p : List UInt8) (k : Nat) : Bool := (List.range k).any fun i => standB s i p
theorem standTo_zero (s p : List UInt8) : standTo s p 0 = false := rfl
theorem standTo_succ (s p : List UInt8) (k : Nat) : standTo s p (k + 1) = (standTo s p k || standB s k p) := by simp [standTo, List.range_succ]
theorem contains_stand (s p : List UInt8) : Lib.contains s p = standTo s p (s.length + 1) := by
  unfold Lib.contains
  rw [Bool.eq_iff_iff]
  simp only [decide_eq_true_eq, standTo, List.any_eq_true, List.mem_range]
  rcases Lib.index_spec s p with ⟨h, hn⟩ | ⟨i, h, hi, ho, _⟩
  · constructor
    · intro h0; omega
    · rintro ⟨j, hj, hs⟩
      have := hn j (by omega)
      rw [Lib.occAt] at this
      rw [standB, this] at hs
      cases hs
  · exact ⟨fun _ => ⟨i, by omega, ho⟩, fun _ => by omega⟩
theorem contains_yes {s p : List UInt8} {k : Nat} (hk : k ≤ s.length) (h : standB s k p = true) : Lib.contains s p = true := by
  rw [contains_stand, standTo, List.any_eq_true]
  exact ⟨k, List.mem_range.2 (by omega), h⟩
theorem standB_take (s p : List UInt8) (i : Nat) : (((s.drop i).take p.length) == p) = standB s i p := by
  unfold standB
  rw [Bool.eq_iff_iff, beq_iff_eq, List.isPrefixOf_iff_prefix]
  constructor
  · intro e; rw [← e]; exact List.take_prefix _ _
  · intro e
    obtain ⟨t, e⟩ := e
    rw [← e]; simp
theorem standB_long {s p : List UInt8} {i : Nat} (h : s.length < i + p.length) : standB s i p = false ∨ p = [] := by
  by_cases hp : p = []
  · exact .inr hp
  · left
    unfold standB
    rw [Bool.eq_false_iff]
    intro e
    rw [List.isPrefixOf_iff_prefix] at e
    have := e.length_le
    rw [List.length_drop] at this
    have : 0 < p.length := by
      cases p with
      | nil => exact absurd rfl hp
      | cons => simp
    omega

/-- Rules that ask for all labels of a set hold of it. -/
def isR (x : Pp) : Rp := (x.1, 1, x.2)
theorem ltB_irr (a : ByteArray) : ltB a a = false := by
  unfold ltB
  have h : ∀ l : List UInt8, Op.bytesLess l l = false := by
    intro l
    induction l with
    | nil => rfl
    | cons c l ih => simp [Op.bytesLess, ih]
  exact h _
end Go.Proofs.YtfmgphjnajgldaaDoor
