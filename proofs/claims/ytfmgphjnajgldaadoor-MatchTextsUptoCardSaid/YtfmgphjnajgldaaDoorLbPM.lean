/- The set that a text is, as plain functions. -/
import Derived.Test.YtfmgphjnajgldaaDoorLbUM
import Derived.Test.YtfmgphjnajgldaaDoorLbXM
import Derived.Lib.IndexMore
namespace Go.Proofs.YtfmgphjnajgldaaDoor
open Go.RowKit

/-- The bytes up to the next '=', and those behind it. -/
def nmOf : List UInt8 → List UInt8
  | [] => []
  | c :: l => if (c.toNat : Int) = 61 then [] else c :: nmOf l
def rsOf : List UInt8 → List UInt8
  | [] => []
  | c :: l => if (c.toNat : Int) = 61 then l else rsOf l
theorem cut_spec : ∀ l : List UInt8, (Lib.index l [61] = -1 ∧ nmOf l = l ∧ rsOf l = []) ∨ ∃ i : Nat, Lib.index l [61] = (i : Int) ∧ nmOf l = l.take i ∧ rsOf l = l.drop (i + 1) ∧ i < l.length
  | [] => .inl ⟨rfl, rfl, rfl⟩
  | c :: l => by
    have h61 : ((61 : UInt8).toNat : Int) = 61 := rfl
    by_cases hc : (c.toNat : Int) = 61
    · have hcc : c = 61 := UInt8.toNat_inj.1 (by have : (61 : UInt8).toNat = 61 := rfl; omega)
      subst hcc
      refine .inr ⟨0, by simp [Lib.index, List.isPrefixOf], by rw [nmOf, if_pos hc]; rfl, by rw [rsOf, if_pos hc]; rfl, by simp⟩
    · have hne : ¬ (61 : UInt8) = c := by rintro rfl; exact hc rfl
      have hp : ([61] : List UInt8).isPrefixOf (c :: l) = false := by simp [List.isPrefixOf, hne]
      have e : Lib.index (c :: l) [61] = if Lib.index l [61] == -1 then -1 else Lib.index l [61] + 1 := by
        rw [Lib.index, hp]; simp
      rw [e, nmOf, if_neg hc, rsOf, if_neg hc]
      rcases cut_spec l with ⟨h1, h2, h3⟩ | ⟨i, h1, h2, h3, h4⟩
      · exact .inl ⟨by rw [h1]; rfl, by rw [h2], h3⟩
      · refine .inr ⟨i + 1, ?_, by rw [h2]; rfl, by rw [h3]; rfl, by simp; omega⟩
        rw [h1, if_neg (by simp)]
        rfl
theorem cut_eq (l : List UInt8) : (Lib.cut l [61]).1 = nmOf l ∧ (Lib.cut l [61]).2.1 = rsOf l := by
  rcases cut_spec l with ⟨h1, h2, h3⟩ | ⟨i, h1, h2, h3, h4⟩
  · have : ¬ (0 : Int) ≤ -1 := by decide
    unfold Lib.cut
    rw [h1, if_neg this]
    exact ⟨h2.symm, h3.symm⟩
  · unfold Lib.cut
    rw [h1, if_pos (by omega), Int.toNat_natCast]
    exact ⟨h2.symm, h3.symm⟩
theorem rsOf_len (l : List UInt8) : rsOf l = [] ∨ (nmOf l).length + 1 + (rsOf l).length = l.length := by
  rcases cut_spec l with ⟨h1, h2, h3⟩ | ⟨i, h1, h2, h3, h4⟩
  · exact .inl h3
  · right
    rw [h2, h3, List.length_take, List.length_drop]
    omega
theorem nmOf_len (l : List UInt8) : (nmOf l).length ≤ l.length := by
  rcases cut_spec l with ⟨h1, h2, h3⟩ | ⟨i, h1, h2, h3, h4⟩
  · rw [h2]; exact Nat.le_refl _
  · rw [h2, List.length_take]; omega

/-- The label with which bytes begin, and how many it has. -/
def partP (l : List UInt8) : (List UInt8 × List UInt8) × Nat := if (unqL (rsOf l)).2 = 0 then (([], []), 0) else ((nmOf l, (unqL (rsOf l)).1), (nmOf l).length + 1 + (unqL (rsOf l)).2)
theorem unqL_len (l : List UInt8) : (unqL l).1.length ≤ l.length ∧ (unqL l).2 ≤ l.length := by
  cases l with
  | nil => simp [unqL]
  | cons c r =>
    rw [unqL]
    split
    · have := unqGo_len r false [] 1
      simp at this ⊢
      omega
    · simp
theorem partP_len (l : List UInt8) : (partP l).2 ≤ l.length ∧ (partP l).1.1.length ≤ l.length ∧ (partP l).1.2.length ≤ l.length := by
  have h1 := unqL_len (rsOf l)
  have h3 := nmOf_len l
  unfold partP
  split
  · simp
  · rename_i h
    have hl : (nmOf l).length + 1 + (rsOf l).length = l.length := by
      rcases rsOf_len l with e | e
      · rw [e] at h; exact absurd rfl h
      · exact e
    simp only
    omega
def mkP (p : List UInt8 × List UInt8) : Pp := (⟨p.1.toArray⟩, ⟨p.2.toArray⟩)
/-- The labels that stand in bytes, behind the opening brace, up to the closing one at the end. -/
def readGo : Nat → List UInt8 → List Pp → Option (List Pp)
  | 0, _, _ => none
  | f + 1, l, acc =>
    if (partP l).2 = 0 then none
    else if l.drop (partP l).2 = [125] then some (acc ++ [mkP (partP l).1])
    else if Lib.hasPrefix (l.drop (partP l).2) [44] = true then readGo f (l.drop ((partP l).2 + 1)) (acc ++ [mkP (partP l).1])
    else none
def readB (t : List UInt8) : Option (List Pp) := if t = [123, 125] then some [] else if Lib.hasPrefix t [123] = true then readGo (t.length + 1) (t.drop 1) [] else none
theorem readGo_fuel : ∀ (f g : Nat) (l : List UInt8) (acc : List Pp), l.length < f → l.length < g → readGo f l acc = readGo g l acc
  | 0, _, l, _, h, _ => by omega
  | _ + 1, 0, l, _, _, h => by omega
  | f + 1, g + 1, l, acc, hf, hg => by
    rw [readGo, readGo]
    split
    · rfl
    · split
      · rfl
      · split
        · rename_i h1 h2 h3
          have hl : 0 < l.length := by
            cases l with
            | nil => simp at h3; exact absurd h3 (by simp [Lib.hasPrefix])
            | cons => simp
          exact readGo_fuel f g _ _ (by rw [List.length_drop]; omega) (by rw [List.length_drop]; omega)
        · rfl
/-- The error, and the set. -/
def parseE (t : List UInt8) : Int := if 4096 < t.length then 10 else match readB t with
  | none => 10
  | some l => if rightL l = true then 0 else 40
def parseL (t : List UInt8) : List Pp := if 4096 < t.length then [] else match readB t with
  | none => []
  | some l => if rightL l = true then l else []
theorem ext_drop (s : ByteArray) (k : Nat) : s.extract k s.size = ⟨(s.data.toList.drop k).toArray⟩ := by
  apply ByteArray.ext
  apply Array.toList_inj.1
  simp only [ByteArray.data_extract, Array.toList_extract, List.extract_eq_take_drop]
  rw [List.take_of_length_le (by simp)]
end Go.Proofs.YtfmgphjnajgldaaDoor
