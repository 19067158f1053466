/- The document's Parse walks an index: how that stands to the plain functions. -/
import Derived.Test.YtpkadghdnlkfiaaLbPa
import Derived.Test.YtpkadghdnlkfiaaLbUr
namespace Go.Proofs.Ytpkadghdnlkfiaa
open Go.RowKit

theorem eq_drop {t : ByteArray} {j : Nat} (h : j < t.size) (hc : ((t[j]).toNat : Int) = 61) : nmOf (t.data.toList.drop j) = [] ∧ rsOf (t.data.toList.drop j) = t.data.toList.drop (j + 1) := by
  rw [drop_byte t j h, nmOf, if_pos hc, rsOf, if_pos hc]
  exact ⟨rfl, rfl⟩
theorem ne_drop {t : ByteArray} {j : Nat} (h : j < t.size) (hc : ¬ ((t[j]).toNat : Int) = 61) : nmOf (t.data.toList.drop j) = t[j] :: nmOf (t.data.toList.drop (j + 1)) ∧ rsOf (t.data.toList.drop j) = rsOf (t.data.toList.drop (j + 1)) := by
  rw [drop_byte t j h, nmOf, if_neg hc, rsOf, if_neg hc]
  exact ⟨rfl, rfl⟩
/-- How far the search for the equals sign has come. -/
def Seek (L : List UInt8) (k j : Nat) : Prop := rsOf (L.drop k) = rsOf (L.drop j) ∧ nmOf (L.drop k) = (L.drop k).take (j - k) ++ nmOf (L.drop j)
theorem Seek.start (L : List UInt8) (k : Nat) : Seek L k k := ⟨rfl, by simp⟩
theorem Seek.next {t : ByteArray} {k j : Nat} (h : Seek t.data.toList k j) (hk : k ≤ j) (hj : j < t.size) (hc : ¬ ((t[j]).toNat : Int) = 61) : Seek t.data.toList k (j + 1) := by
  obtain ⟨e1, e2⟩ := ne_drop hj hc
  refine ⟨h.1.trans e2, ?_⟩
  have hd : j - k < (t.data.toList.drop k).length := by rw [List.length_drop]; have : t.data.toList.length = t.size := (by simp); omega
  rw [h.2, e1, show j + 1 - k = (j - k) + 1 by omega, List.take_succ_eq_append_getElem hd, List.append_assoc]
  have : (t.data.toList.drop k)[j - k] = t[j] := by
    rw [List.getElem_drop]
    have e : k + (j - k) = j := by omega
    simp only [e]
    rfl
  rw [this]
  rfl
theorem Seek.none {t : ByteArray} {k : Nat} (h : Seek t.data.toList k t.size) : (partP (t.data.toList.drop k)).2 = 0 := by
  have e : t.data.toList.drop t.size = [] := List.drop_of_length_le (by simp)
  have hr : rsOf (t.data.toList.drop k) = [] := by rw [h.1, e]; rfl
  rw [partP, hr]
  rfl
theorem Seek.found {t : ByteArray} {k j : Nat} (h : Seek t.data.toList k j) (hk : k ≤ j) (hj : j < t.size) (hc : ((t[j]).toNat : Int) = 61) :
    partP (t.data.toList.drop k) = if (unqL (t.data.toList.drop (j + 1))).2 = 0 then (([], []), 0) else (((t.extract k j).data.toList, (unqL (t.data.toList.drop (j + 1))).1), (j - k) + 1 + (unqL (t.data.toList.drop (j + 1))).2) := by
  obtain ⟨e1, e2⟩ := eq_drop hj hc
  have hl : t.data.toList.length = t.size := by simp
  have h1 : rsOf (t.data.toList.drop k) = t.data.toList.drop (j + 1) := h.1.trans e2
  have h2 : nmOf (t.data.toList.drop k) = (t.data.toList.drop k).take (j - k) := by rw [h.2, e1, List.append_nil]
  have h3 : (t.extract k j).data.toList = (t.data.toList.drop k).take (j - k) := by
    simp only [ByteArray.data_extract, Array.toList_extract, List.extract_eq_take_drop]
  have h4 : ((t.data.toList.drop k).take (j - k)).length = j - k := by rw [List.length_take, List.length_drop]; omega
  rw [partP, h1, h2, h3, h4]
theorem close_yes {t : ByteArray} {k : Nat} (h : k + 1 = t.size) (hc : ((t[k]'(by omega)).toNat : Int) = 125) : t.data.toList.drop k = [125] := by
  rw [drop_byte t k (by omega), List.drop_of_length_le (by simp; omega)]
  have : t[k]'(by omega) = 125 := UInt8.toNat_inj.1 (by have : (125 : UInt8).toNat = 125 := rfl; omega)
  rw [this]
theorem close_no {t : ByteArray} {k : Nat} (hk : k ≤ t.size) (h : k + 1 = t.size → ∀ hh : k < t.size, ¬ ((t[k]).toNat : Int) = 125) : ¬ t.data.toList.drop k = [125] := by
  intro e
  have hl := congrArg List.length e
  have ht : t.data.toList.length = t.size := by simp
  rw [List.length_drop, ht] at hl
  simp at hl
  have hlt : k < t.size := by omega
  rw [drop_byte t k hlt] at e
  injection e with e1 _
  exact h (by omega) hlt (by rw [e1]; rfl)
theorem comma_yes {t : ByteArray} {k : Nat} (h : k < t.size) (hc : ((t[k]).toNat : Int) = 44) : Lib.hasPrefix (t.data.toList.drop k) [44] = true := by
  have : t[k] = 44 := UInt8.toNat_inj.1 (by have : (44 : UInt8).toNat = 44 := rfl; omega)
  rw [drop_byte t k h, this]
  simp [Lib.hasPrefix]
theorem comma_no {t : ByteArray} {k : Nat} (h : ∀ hh : k < t.size, ¬ ((t[k]).toNat : Int) = 44) : ¬ Lib.hasPrefix (t.data.toList.drop k) [44] = true := by
  rcases Nat.lt_or_ge k t.size with hk | hk
  · have hne : ¬ (44 : UInt8) = t[k] := fun e => h hk (by rw [← e]; rfl)
    rw [drop_byte t k hk]
    simp [Lib.hasPrefix, hne]
  · rw [List.drop_of_length_le (by simpa using hk)]
    decide
theorem brace_no {t : ByteArray} (h : ∀ hh : 0 < t.size, ¬ ((t[0]).toNat : Int) = 123) : readB t.data.toList = none := by
  have hp : ¬ Lib.hasPrefix t.data.toList [123] = true := by
    rcases Nat.lt_or_ge 0 t.size with hk | hk
    · have hne : ¬ (123 : UInt8) = t[0] := fun e => h hk (by rw [← e]; rfl)
      have := drop_byte t 0 hk
      rw [List.drop_zero] at this
      rw [this]
      simp [Lib.hasPrefix, hne]
    · have hl : t.data.toList.length = t.size := by simp
      have : t.data.toList = [] := List.eq_nil_of_length_eq_zero (by omega)
      rw [this]
      decide
  have h1 : ¬ t.data.toList = [123, 125] := by
    intro e
    rw [e] at hp
    exact hp (by decide)
  rw [readB, if_neg h1, if_neg hp]
theorem short_no {t : ByteArray} (h : t.size < 2) : readB t.data.toList = none := by
  have hl : t.data.toList.length = t.size := by simp
  match hm : t.data.toList, hl with
  | [], _ => rfl
  | [c], _ =>
    by_cases hc : c = 123
    · subst hc; rfl
    · have hne : ¬ (123 : UInt8) = c := fun e => hc e.symm
      have hp : ¬ Lib.hasPrefix [c] [123] = true := by simp [Lib.hasPrefix, hne]
      rw [readB, if_neg (by simp), if_neg hp]
  | _ :: _ :: _, hl => simp at hl; omega
theorem brace_yes {t : ByteArray} (h : 0 < t.size) (hc : ((t[0]).toNat : Int) = 123) (h1 : ¬ t.data.toList = [123, 125]) : readB t.data.toList = readGo (t.size + 1) (t.data.toList.drop 1) [] := by
  have hl : t.data.toList.length = t.size := by simp
  have hp : Lib.hasPrefix t.data.toList [123] = true := by
    have : t[0] = 123 := UInt8.toNat_inj.1 (by have : (123 : UInt8).toNat = 123 := rfl; omega)
    have e := drop_byte t 0 h
    rw [List.drop_zero] at e
    rw [e, this]
    simp [Lib.hasPrefix]
  rw [readB, if_neg h1, if_pos hp, hl]
end Go.Proofs.Ytpkadghdnlkfiaa
