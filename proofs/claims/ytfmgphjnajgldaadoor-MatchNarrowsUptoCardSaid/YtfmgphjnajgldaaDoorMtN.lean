/- Rules that ask for all labels of a set hold of it: the plain mathematics. -/
import Derived.Test.YtfmgphjnajgldaaDoorMtM
import Derived.Sort.Walk0
namespace Go.Proofs.YtfmgphjnajgldaaDoor
open Go.RowKit

theorem ltB_dec (a b : ByteArray) : ltB a b = decide (a.data.toList < b.data.toList) := by
  unfold ltB
  rw [bytesLess_eq, Lib.toList_data, Lib.toList_data]
theorem rightL_step {s : List Pp} (h : rightL s = true) : s.length ≤ 16 ∧ ∀ i, i < s.length → stepC s i = true := by
  unfold rightL at h
  rw [Bool.and_eq_true, decide_eq_true_eq] at h
  refine ⟨h.1, fun i hi => ?_⟩
  have := List.all_eq_true.1 h.2 i (List.mem_range.2 hi)
  exact this
theorem getP_eq {s : List Pp} {i : Nat} (h : i < s.length) : s.getD i nilP = s[i] := by
  rw [List.getD_eq_getElem?_getD, List.getElem?_eq_getElem h]; rfl
theorem right_names {s : List Pp} (h : rightL s = true) {i : Nat} (hi : i < s.length) : nameB s[i].1 = true ∧ valB s[i].2 = true := by
  have := (rightL_step h).2 i hi
  unfold stepC stepB at this
  rw [getP_eq hi, Bool.and_eq_true, Bool.and_eq_true] at this
  exact this.1
theorem right_next {s : List Pp} (h : rightL s = true) {i : Nat} (hi : i + 1 < s.length) : s[i].1.data.toList < s[i + 1].1.data.toList := by
  have := (rightL_step h).2 (i + 1) hi
  unfold stepC stepB at this
  rw [getP_eq hi, Nat.add_sub_cancel, getP_eq (show i < s.length by omega), Bool.and_eq_true] at this
  have h2 := this.2
  have e : decide (i + 1 = 0) = false := by simp
  rw [e, Bool.false_or, ltB_dec, decide_eq_true_eq] at h2
  exact h2
theorem right_lt {s : List Pp} (h : rightL s = true) (i : Nat) : ∀ (d : Nat) (hd : i + d + 1 < s.length), (s[i]'(by omega)).1.data.toList < (s[i + d + 1]'hd).1.data.toList
  | 0, hd => right_next h hd
  | d + 1, hd => List.lt_trans (right_lt h i d (by omega)) (right_next h hd)
theorem get_at {s : List Pp} (h : rightL s = true) {k : Nat} (hk : k < s.length) : getL s s[k].1 = s[k].2 := by
  have all : ∀ d j, j + d = k → getL (s.drop j) s[k].1 = s[k].2 := by
    intro d
    induction d with
    | zero =>
      intro j hj
      obtain rfl : j = k := by omega
      rw [getL_drop hk, getP_eq hk, if_pos (by simp)]
    | succ d ih =>
      intro j hj
      have hjl : j < s.length := by omega
      have hlt := right_lt h j d (by omega)
      have e : j + d + 1 = k := by omega
      have hne : ((s.getD j nilP).1.toList == s[k].1.toList) = false := by
        rw [Lib.toList_data, Lib.toList_data, getP_eq hjl, beq_eq_false_iff_ne]
        intro heq
        rw [heq] at hlt
        simp only [e] at hlt
        exact List.lt_irrefl _ hlt
      rw [getL_drop hjl, hne]
      exact ih (j + 1) (by omega)
  simpa using all k 0 (by omega)
theorem is_holds {s : List Pp} (h : rightL s = true) : allB s (s.map isR) = true := by
  unfold allB
  rw [List.all_eq_true]
  intro x hx
  obtain ⟨p, hp, rfl⟩ := List.mem_map.1 hx
  obtain ⟨k, hk, rfl⟩ := List.mem_iff_getElem.1 hp
  show holdB 1 s[k].2 (getL s s[k].1) = true
  rw [get_at h hk]
  simp [holdB]
theorem is_right {s : List Pp} (h : rightL s = true) : rulesL (s.map isR) = true := by
  unfold rulesL
  rw [Bool.and_eq_true, decide_eq_true_eq, List.length_map]
  refine ⟨(rightL_step h).1, List.all_eq_true.2 fun x hx => ?_⟩
  obtain ⟨p, hp, rfl⟩ := List.mem_map.1 hx
  obtain ⟨k, hk, rfl⟩ := List.mem_iff_getElem.1 hp
  have h2 := right_names h hk
  show (nameB s[k].1 && opB 1 && (emB s[k].2 || valB s[k].2)) = true
  rw [h2.1, h2.2, Bool.or_true]
  rfl
theorem allB_comm (s : List Pp) (a b : List Rp) : allB s (a ++ b) = allB s (b ++ a) := by rw [allB_append, allB_append, Bool.and_comm]
end Go.Proofs.YtfmgphjnajgldaaDoor
