/- What was laid is read. -/
import Derived.Test.YtojkbndaleiaaaaDoorRStamp
import Derived.Test.YtojkbndaleiaaaaDoorSortM
import Derived.Test.YtojkbndaleiaaaaDoorNumO
import Derived.Test.YtojkbndaleiaaaaDoorLdM
namespace Go.Proofs.YtojkbndaleiaaaaDoor
open Go.RowKit

theorem nuR_num {n : Nat} (hn : n ≤ 18446744073709551615) (r : List UInt8) : nuR (numB n ++ r) 0 = (n, r, 0) := by
  by_cases h : n ≤ 247
  · rw [numB_low h]
    have e : (UInt8.ofNat n).toNat = n := ofNat_toNat (by omega)
    unfold nuR
    rw [if_neg (by simp)]
    simp only [List.cons_append, List.nil_append, e]
    rw [if_pos h]
  · rw [numB_high (by omega)]
    have hk := kN_le n
    have hk1 := kN_pos (n := n) (by omega) (by omega)
    have e : (UInt8.ofNat (247 + kN n)).toNat = 247 + kN n := ofNat_toNat (by omega)
    have hl : (beN n (kN n)).length = kN n := beN_length n (kN n)
    have hhi := kN_hi (a := n) (by omega) hn
    have ho : ofBE (beN n (kN n)) = n := by rw [ofBE_beN, Nat.mod_eq_of_lt hhi]
    have et : (beN n (kN n) ++ r).take (kN n) = beN n (kN n) := by rw [List.take_append_of_le_length (by omega), List.take_of_length_le (by omega)]
    have ed : (beN n (kN n) ++ r).drop (kN n) = r := by rw [List.drop_append_of_le_length (by omega), List.drop_of_length_le (by omega), List.nil_append]
    unfold nuR
    rw [if_neg (by simp)]
    simp only [List.cons_append, List.nil_append, e]
    rw [if_neg (by omega)]
    have es : 247 + kN n - 247 = kN n := by omega
    rw [es, et, ed, ho, if_neg (by rw [List.length_append, hl]; omega), if_neg (by simp)]
theorem cnR_num {n : Nat} (hn : n ≤ 9223372036854775807) (r : List UInt8) : cnR (n : Int) (numB n ++ r) 0 = (n, r, 0) := by
  have e := nuR_num (n := n) (by omega) r
  unfold cnR
  rw [e]
  simp only
  rw [if_neg (by simp), if_neg (by omega), if_neg (by omega)]
theorem tx_back (t : ByteArray) (ht : t.size ≤ 9223372036854775807) (r : List UInt8) :
    txB (t.size : Int) (numB t.size ++ t.data.toList ++ r) 0 = t.data.toList ∧ txL (t.size : Int) (numB t.size ++ t.data.toList ++ r) 0 = r ∧ txE (t.size : Int) (numB t.size ++ t.data.toList ++ r) 0 = 0 := by
  have hl : t.data.toList.length = t.size := by simp
  have e := cnR_num ht (t.data.toList ++ r)
  rw [← List.append_assoc] at e
  have hlt : ¬ ((t.data.toList ++ r).length < t.size) := by rw [List.length_append]; omega
  unfold txB txL txE
  rw [e]
  simp only
  unfold tkB tkL tkE
  have h00 : ¬ ((0 : Int) ≠ 0) := fun h => h rfl
  refine ⟨?_, ?_, ?_⟩
  · rw [if_neg h00, if_neg hlt, List.take_append_of_le_length (by omega), List.take_of_length_le (by omega)]
  · rw [if_neg h00, if_neg hlt, List.drop_append_of_le_length (by omega), List.drop_of_length_le (by omega), List.nil_append]
  · rw [if_neg h00, if_neg hlt]
theorem strB_back (t : ByteArray) : strB t.data.toList = t := by
  unfold strB
  simp
theorem sg_back {x y z : Int} (hx : 0 ≤ x ∧ x ≤ 4611686018427387904) (hy : 0 ≤ y ∧ y ≤ 4294967295) (hz : 0 ≤ z ∧ z ≤ 4294967295) (r : List UInt8) :
    sgR (putB x y z ++ r) 0 = (x, y, z, 0) ∧ tkL 16 (putB x y z ++ r) 0 = r := by
  have hl := putB_length x y z
  have hlt : ¬ ((putB x y z ++ r).length < 16) := by rw [List.length_append]; omega
  unfold sgR tkL
  have h00 : ¬ ((0 : Int) ≠ 0) := fun h => h rfl
  refine ⟨?_, ?_⟩
  · rw [if_neg h00, if_neg hlt, List.take_append_of_le_length (by omega), List.take_of_length_le (by omega)]
    exact get_put hx hy hz
  · rw [if_neg h00, if_neg hlt, List.drop_append_of_le_length (by omega), List.drop_of_length_le (by omega), List.nil_append]
theorem one_num (f : Bool) : ([if f then 1 else 0] : List UInt8) = numB (if f then 1 else 0) := by cases f <;> rfl
theorem encs_drop (l : List Itm) (q : Nat) (h : q < l.length) : encs (l.drop q) = l[q].by ++ encs (l.drop (q + 1)) := by
  unfold encs
  rw [List.drop_eq_getElem_cons h, List.flatMap_cons]
theorem Rd.drew {w : World} {K b : Nat} {l : List UInt8} {e : Int} (h : Rd w K b l e) : Rd w.drew K b l e := by
  obtain ⟨A, cap, h0, h1, f0, f1, hs⟩ := h.out
  exact ⟨⟨A, cap, h0, h1, f0, f1, hs.drew⟩, h.kb, h.lt⟩
end Go.Proofs.YtojkbndaleiaaaaDoor
