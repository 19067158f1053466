/- The value with which a text begins, as plain functions. -/
import Derived.Test.YtfmgphjnajgldaaDoorLbQM
namespace Go.Proofs.YtfmgphjnajgldaaDoor

/-- What stands behind the opening quote: behind a guard or not, what was taken, how many bytes. -/
def unqGo : List UInt8 → Bool → List UInt8 → Nat → List UInt8 × Nat
  | [], _, _, _ => ([], 0)
  | c :: r, true, acc, n => if gN (c.toNat : Int) = true then unqGo r false (acc ++ [c]) (n + 1) else ([], 0)
  | c :: r, false, acc, n => if (c.toNat : Int) = 34 then (acc, n + 1) else if (c.toNat : Int) = 92 then unqGo r true acc (n + 1) else unqGo r false (acc ++ [c]) (n + 1)
def unqL : List UInt8 → List UInt8 × Nat
  | [] => ([], 0)
  | c :: r => if (c.toNat : Int) = 34 then unqGo r false [] 1 else ([], 0)
def unqB (t : ByteArray) : List UInt8 × Nat := unqL t.data.toList

theorem drop_byte (s : ByteArray) (k : Nat) (h : k < s.size) : s.data.toList.drop k = s[k] :: s.data.toList.drop (k + 1) := by
  rw [List.drop_eq_getElem_cons (by simpa using h)]; rfl
theorem unqB_nil {t : ByteArray} (h : t.size = 0) : unqB t = ([], 0) := by
  have : t.data.toList = [] := List.eq_nil_of_length_eq_zero (by simpa using h)
  unfold unqB; rw [this]; rfl
theorem unqB_no {t : ByteArray} (h : 0 < t.size) (hc : ¬ ((t[0]).toNat : Int) = 34) : unqB t = ([], 0) := by
  unfold unqB
  have := drop_byte t 0 h
  rw [List.drop_zero] at this
  rw [this, unqL, if_neg hc]
theorem unqB_yes {t : ByteArray} (h : 0 < t.size) (hc : ((t[0]).toNat : Int) = 34) : unqB t = unqGo (t.data.toList.drop 1) false [] 1 := by
  unfold unqB
  have := drop_byte t 0 h
  rw [List.drop_zero] at this
  rw [this, unqL, if_pos hc]
  simp
theorem go_end {t : ByteArray} {k : Nat} (h : t.size ≤ k) (g : Bool) (acc : List UInt8) (n : Nat) : unqGo (t.data.toList.drop k) g acc n = ([], 0) := by
  rw [List.drop_of_length_le (by simpa using h)]; cases g <;> rfl
theorem go_guard_yes {t : ByteArray} {k : Nat} (h : k < t.size) (acc : List UInt8) (n : Nat) (hc : gN ((t[k]).toNat : Int) = true) : unqGo (t.data.toList.drop k) true acc n = unqGo (t.data.toList.drop (k + 1)) false (acc ++ [t[k]]) (n + 1) := by
  rw [drop_byte t k h, unqGo, if_pos hc]
theorem go_guard_no {t : ByteArray} {k : Nat} (h : k < t.size) (acc : List UInt8) (n : Nat) (hc : gN ((t[k]).toNat : Int) = false) : unqGo (t.data.toList.drop k) true acc n = ([], 0) := by
  rw [drop_byte t k h, unqGo, if_neg (by simp [hc])]
theorem go_quote {t : ByteArray} {k : Nat} (h : k < t.size) (acc : List UInt8) (n : Nat) (hc : ((t[k]).toNat : Int) = 34) : unqGo (t.data.toList.drop k) false acc n = (acc, n + 1) := by
  rw [drop_byte t k h, unqGo, if_pos hc]
theorem go_slash {t : ByteArray} {k : Nat} (h : k < t.size) (acc : List UInt8) (n : Nat) (hc : ((t[k]).toNat : Int) = 92) : unqGo (t.data.toList.drop k) false acc n = unqGo (t.data.toList.drop (k + 1)) true acc (n + 1) := by
  rw [drop_byte t k h, unqGo, if_neg (by omega), if_pos hc]
theorem go_plain {t : ByteArray} {k : Nat} (h : k < t.size) (acc : List UInt8) (n : Nat) (h1 : ¬ ((t[k]).toNat : Int) = 34) (h2 : ¬ ((t[k]).toNat : Int) = 92) : unqGo (t.data.toList.drop k) false acc n = unqGo (t.data.toList.drop (k + 1)) false (acc ++ [t[k]]) (n + 1) := by
  rw [drop_byte t k h, unqGo, if_neg h1, if_neg h2]

theorem go_back (t : List UInt8) : ∀ (l acc : List UInt8) (n : Nat), unqGo (l.flatMap escB ++ 34 :: t) false acc n = (acc ++ l, n + (l.flatMap escB).length + 1)
  | [], acc, n => by simp [unqGo]
  | c :: l, acc, n => by
    rw [List.flatMap_cons]
    by_cases hg : gN (c.toNat : Int) = true
    · have e : escB c = [92, c] := by rw [escB, if_pos hg]
      have h92 : ((92 : UInt8).toNat : Int) = 92 := rfl
      rw [e]
      simp only [List.cons_append, List.nil_append, List.length_cons]
      rw [unqGo, if_neg (by rw [h92]; decide), if_pos h92, unqGo, if_pos hg, go_back t l]
      simp; omega
    · have e : escB c = [c] := by rw [escB, if_neg hg]
      have h1 : ¬ ((c.toNat : Int) = 34) := fun h => hg (by simp [gN, h])
      have h2 : ¬ ((c.toNat : Int) = 92) := fun h => hg (by simp [gN, h])
      rw [e]
      simp only [List.cons_append, List.nil_append, List.length_cons]
      rw [unqGo, if_neg h1, if_neg h2, go_back t l]
      simp; omega
theorem unq_back (s t : ByteArray) : unqB (⟨(quoteB s).toArray⟩ ++ t) = (s.data.toList, (quoteB s).length) := by
  have e : (⟨(quoteB s).toArray⟩ ++ t : ByteArray).data.toList = 34 :: (s.data.toList.flatMap escB ++ 34 :: t.data.toList) := by
    have : s.data.toList.take s.size = s.data.toList := List.take_of_length_le (by simp)
    simp [quoteB, quoteTo, this]
  have h34 : ((34 : UInt8).toNat : Int) = 34 := rfl
  unfold unqB
  rw [e, unqL, if_pos h34, go_back]
  have : s.data.toList.take s.size = s.data.toList := List.take_of_length_le (by simp)
  simp [quoteB, quoteTo, this]
  omega
theorem unqGo_len : ∀ (l : List UInt8) (g : Bool) (acc : List UInt8) (n : Nat), (unqGo l g acc n).1.length ≤ acc.length + l.length ∧ (unqGo l g acc n).2 ≤ n + l.length
  | [], g, acc, n => by cases g <;> simp [unqGo]
  | c :: r, true, acc, n => by
    rw [unqGo]
    have := unqGo_len r false (acc ++ [c]) (n + 1)
    split
    · simp at this ⊢; omega
    · simp
  | c :: r, false, acc, n => by
    rw [unqGo]
    have h1 := unqGo_len r false (acc ++ [c]) (n + 1)
    have h2 := unqGo_len r true acc (n + 1)
    split
    · simp
    · split
      · simp at h2 ⊢; omega
      · simp at h1 ⊢; omega
theorem unqB_len (t : ByteArray) : (unqB t).1.length ≤ t.size ∧ (unqB t).2 ≤ t.size := by
  unfold unqB
  have hl : t.data.toList.length = t.size := by simp
  cases h : t.data.toList with
  | nil => simp [unqL]
  | cons c r =>
    rw [h, List.length_cons] at hl
    rw [unqL]
    split
    · have := unqGo_len r false [] 1
      simp at this
      omega
    · simp
end Go.Proofs.YtfmgphjnajgldaaDoor
