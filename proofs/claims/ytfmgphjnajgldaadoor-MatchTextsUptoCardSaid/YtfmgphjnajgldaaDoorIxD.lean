/- What is decoded at a byte beyond ASCII. -/
import Derived.Test.YtfmgphjnajgldaaDoorIxR
import Derived.Lib.IndexAny
namespace Go.Proofs.YtfmgphjnajgldaaDoor
open Go.RowKit

theorem get_byte (s : ByteArray) (k : Nat) (h : k < s.size) : s.data.toList[k]? = some (s.get! k) := by
  have e : s.get! k = s[k]'h := by
    show s.get! k = _
    simp [ByteArray.get!, getElem!_pos, h]
    rfl
  rw [e]
  exact Lib.data_getElem? s k h
/-- From pos on n bytes stand in s, none of them ASCII. -/
def HiN (s : ByteArray) (pos n : Nat) : Prop := pos + n ≤ s.size ∧ ∀ j, pos ≤ j → j < pos + n → 128 ≤ (s.get! j).toNat
theorem decode_hi (s : ByteArray) (pos : Nat) (h : pos < s.size) (ha : 128 ≤ (s.get! pos).toNat) :
    ∃ r n : Nat, Utf8.decode s pos = (r, n) ∧ 128 ≤ r ∧ r ≤ 1114111 ∧ Utf8.valid (r : Int) = true ∧ 1 ≤ n ∧ HiN s pos n := by
  have err : 128 ≤ 65533 ∧ 65533 ≤ 1114111 ∧ Utf8.valid ((65533 : Nat) : Int) = true ∧ 1 ≤ 1 ∧ HiN s pos 1 := ⟨by decide, by decide, by decide, by decide, by omega, fun j h1 h2 => by
    obtain rfl : j = pos := by omega
    exact ha⟩
  have hb0 : ¬ (s.get! (pos + 0)).toNat < 128 := by rw [Nat.add_zero]; omega
  have lt1 := (s.get! (pos + 0)).toNat_lt
  have lt2 := (s.get! (pos + 1)).toNat_lt
  have lt3 := (s.get! (pos + 2)).toNat_lt
  have lt4 := (s.get! (pos + 3)).toNat_lt
  have hv : ∀ c : Nat, 128 ≤ c → Utf8.valid (c : Int) = true → c ≤ 1114111 := fun c _ hc => by
    unfold Utf8.valid at hc
    simp at hc
    omega
  have hi : ∀ n, n ≤ 4 → (∀ k, 1 ≤ k → k < n → (decide (pos + k < s.size) && (s.get! (pos + k)).toNat / 64 == 2) = true) → HiN s pos (max n 1) := by
    intro n hn hc
    have hh : ∀ k, k < max n 1 → pos + k < s.size ∧ 128 ≤ (s.get! (pos + k)).toNat := by
      intro k hk
      by_cases h0 : k = 0
      · subst h0; exact ⟨by omega, by rw [Nat.add_zero]; exact ha⟩
      · have := hc k (by omega) (by omega)
        rw [Bool.and_eq_true, decide_eq_true_eq, beq_iff_eq] at this
        exact ⟨this.1, by omega⟩
    refine ⟨?_, fun j h1 h2 => ?_⟩
    · have := (hh (max n 1 - 1) (by omega)).1
      omega
    · have := (hh (j - pos) (by omega)).2
      rw [show pos + (j - pos) = j by omega] at this
      exact this
  unfold Utf8.decode Utf8.runeError
  simp only [hb0, if_false]
  split
  · rename_i hc
    split
    · rename_i h80
      rw [Bool.and_eq_true] at hc
      have h1 := hi 2 (by omega) (fun k a b => by obtain rfl : k = 1 := (by omega); exact hc.2)
      exact ⟨_, _, rfl, by omega, by omega, by unfold Utf8.valid; simp; omega, by omega, h1⟩
    · exact ⟨_, _, rfl, err⟩
  · split
    · rename_i hc
      split
      · rename_i h80
        rw [Bool.and_eq_true, Bool.and_eq_true] at hc
        rw [Bool.and_eq_true, decide_eq_true_eq] at h80
        have h1 := hi 3 (by omega) (fun k a b => by
          have : k = 1 ∨ k = 2 := by omega
          rcases this with rfl | rfl
          · exact hc.1.2
          · exact hc.2)
        exact ⟨_, _, rfl, by omega, hv _ (by omega) h80.2, h80.2, by omega, h1⟩
      · exact ⟨_, _, rfl, err⟩
    · split
      · rename_i hc
        split
        · rename_i h80
          rw [Bool.and_eq_true, Bool.and_eq_true, Bool.and_eq_true] at hc
          rw [Bool.and_eq_true, decide_eq_true_eq] at h80
          have h1 := hi 4 (by omega) (fun k a b => by
            have : k = 1 ∨ k = 2 ∨ k = 3 := by omega
            rcases this with rfl | rfl | rfl
            · exact hc.1.1.2
            · exact hc.1.2
            · exact hc.2)
          exact ⟨_, _, rfl, by omega, hv _ (by omega) h80.2, h80.2, by omega, h1⟩
        · exact ⟨_, _, rfl, err⟩
      · exact ⟨_, _, rfl, err⟩

theorem noAny_hi {s : ByteArray} {pos n : Nat} (h : Lib.NoAny s.data.toList sgL pos) (hn : HiN s pos n) : Lib.NoAny s.data.toList sgL (pos + n) := fun j b hj hb => by
  by_cases hlt : j < pos
  · exact h j b hlt hb
  · have h1 := hn.2 j (by omega) hj
    have h2 := get_byte s j (by have := hn.1; omega)
    rw [h2] at hb
    injection hb with hb
    subst hb
    rw [Bool.eq_false_iff]
    intro hc
    simp [sgL] at hc
    rcases hc with e | e | e | e <;> rw [e] at h1 <;> exact absurd h1 (by decide)

/-- The world in which the iterator at block b stands at pos. -/
def setIter (w : World) (b : Nat) (s : ByteArray) (pos : Nat) : World := { w with heap := w.heap.setIfInBounds b (.stringIter s pos) }
theorem setIter_at {w : World} {b : Nat} (h : b < w.heap.size) (s : ByteArray) (pos : Nat) : (setIter w b s pos).heap[b]? = some (.stringIter s pos) := by
  simp [setIter, h]
theorem setIter_below {B b : Nat} {a w : World} (h : Below B a w) (hB : B ≤ b) (s : ByteArray) (pos : Nat) : Below B a (setIter w b s pos) :=
  ⟨h.os, h.tape, h.output, by simpa [setIter] using h.size, fun k hk => by
    rw [← h.block k hk]
    simp only [setIter, Array.getElem?_setIfInBounds]
    rw [if_neg (by omega)]⟩
theorem run_next_any (P : Program) (w : World) (b : Nat) (s : ByteArray) (pos r n : Nat) (ty : TypeId) (hb : w.heap[b]? = some (.stringIter s pos)) (h : pos < s.size) (hd : Utf8.decode s pos = (r, n)) :
    (Instr.next (.pointer (some ⟨b, 0, none⟩)) true ty).run P w = .ok (.tuple #[.bool true, .int .i64 pos, .int .i32 r]) (setIter w b s (pos + n)) := by
  simp only [Instr.next, getObj, setObj, Sem.run_bind, Sem.run, hb, Result.andThen, h, if_true, hd]
  simp [goInt, setIter]
theorem run_next_over (P : Program) (w : World) (b : Nat) (s : ByteArray) (pos : Nat) (ty : TypeId) (hb : w.heap[b]? = some (.stringIter s pos)) (h : ¬ pos < s.size) :
    (Instr.next (.pointer (some ⟨b, 0, none⟩)) true ty).run P w = .ok (.tuple #[.bool false]) w := by
  simp [Instr.next, getObj, Sem.run, hb, h]
end Go.Proofs.YtfmgphjnajgldaaDoor
