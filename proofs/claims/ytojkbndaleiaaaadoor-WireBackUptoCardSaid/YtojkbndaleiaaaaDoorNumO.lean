/- Of two numbers the lower one's bytes stand ahead. -/
import Derived.Test.YtojkbndaleiaaaaDoorNumM
import Derived.Test.YtojkbndaleiaaaaDoorSortM
namespace Go.Proofs.YtojkbndaleiaaaaDoor

theorem bl_hi : ∀ f x : Nat, x < 2 ^ f → x < 2 ^ (Lib.bitLenAux f x)
  | 0, x, h => by simpa [Lib.bitLenAux] using h
  | f + 1, x, h => by
    unfold Lib.bitLenAux
    split
    · next e => subst e; simp
    · have h2 : x / 2 < 2 ^ f := by rw [Nat.pow_succ] at h; omega
      have := bl_hi f (x / 2) h2
      rw [Nat.add_comm, Nat.pow_succ]
      omega
theorem bitLen_hi {x : Nat} (h : x ≤ 18446744073709551615) : x < 2 ^ Lib.bitLen x := bl_hi 64 x (by simp only [Nat.reducePow]; omega)
theorem bitLen_mono {a b : Nat} (h : a ≤ b) (hb : b ≤ 18446744073709551615) : Lib.bitLen a ≤ Lib.bitLen b :=
  Lib.bitLen_le a _ (bitLen_le b) (Nat.lt_of_le_of_lt h (bitLen_hi hb))
theorem kN_mono {a b : Nat} (ha : 247 < a) (h : a ≤ b) (hb : b ≤ 18446744073709551615) : kN a ≤ kN b := by
  have := bitLen_mono h hb
  rw [kN_high ha, kN_high (by omega)]
  omega
theorem kN_hi {a : Nat} (ha : 247 < a) (hb : a ≤ 18446744073709551615) : a < 256 ^ kN a := by
  have h := bitLen_hi hb
  rw [kN_high ha]
  generalize Lib.bitLen a = b at *
  have e : (256 : Nat) ^ ((b + 7) / 8) = 2 ^ (8 * ((b + 7) / 8)) := by rw [Nat.pow_mul]
  rw [e]
  exact Nat.lt_of_lt_of_le h (Nat.pow_le_pow_right (by decide) (by omega))

theorem cons_lt {x y : UInt8} {l m : List UInt8} (h : x.toNat < y.toNat) : Op.bytesLess (x :: l) (y :: m) = true := by
  simp [Op.bytesLess, UInt8.lt_iff_toNat_lt, h]
theorem cons_gt {x y : UInt8} {l m : List UInt8} (h : y.toNat < x.toNat) : Op.bytesLess (x :: l) (y :: m) = false := by
  have h1 : ¬ x.toNat < y.toNat := by omega
  have h2 : x ≠ y := by rintro rfl; omega
  simp [Op.bytesLess, UInt8.lt_iff_toNat_lt, h1, h2]
theorem cons_eq {x : UInt8} {l m : List UInt8} : Op.bytesLess (x :: l) (x :: m) = Op.bytesLess l m := by
  simp [Op.bytesLess]
theorem ofNat_toNat {n : Nat} (h : n ≤ 255) : (UInt8.ofNat n).toNat = n := by
  simp; omega

theorem numB_less {a b : Nat} (ha : a ≤ 18446744073709551615) (hb : b ≤ 18446744073709551615) : Op.bytesLess (numB a) (numB b) = decide (a < b) := by
  have ka := kN_le a
  have kb := kN_le b
  rcases Nat.lt_or_ge 247 a with h1 | h1 <;> rcases Nat.lt_or_ge 247 b with h2 | h2
  · rw [numB_high h1, numB_high h2, List.singleton_append, List.singleton_append]
    rcases Nat.lt_trichotomy (kN a) (kN b) with h | h | h
    · have hlt : a < b := by
        rcases Nat.lt_or_ge a b with h3 | h3
        · exact h3
        · have := kN_mono h2 h3 ha; omega
      rw [cons_lt (by rw [ofNat_toNat (by omega), ofNat_toNat (by omega)]; omega)]
      simp [hlt]
    · have ha' := kN_hi h1 ha
      have hb' := kN_hi h2 hb
      rw [h] at ha' ⊢
      rw [cons_eq, less_be _ _ (by rw [beN_length, beN_length]), ofBE_beN, ofBE_beN, Nat.mod_eq_of_lt ha', Nat.mod_eq_of_lt hb']
    · have hlt : ¬ a < b := by
        intro h3
        have := kN_mono h1 (Nat.le_of_lt h3) hb; omega
      rw [cons_gt (by rw [ofNat_toNat (by omega), ofNat_toNat (by omega)]; omega)]
      simp [hlt]
  · have hlt : ¬ a < b := by omega
    rw [numB_high h1, numB_low h2, List.singleton_append, cons_gt (by rw [ofNat_toNat (by omega), ofNat_toNat (by omega)]; have := kN_pos h1 (by omega); omega)]
    simp [hlt]
  · have hlt : a < b := by omega
    rw [numB_low h1, numB_high h2, List.singleton_append, cons_lt (by rw [ofNat_toNat (by omega), ofNat_toNat (by omega)]; have := kN_pos h2 (by omega); omega)]
    simp [hlt]
  · rw [numB_low h1, numB_low h2]
    rcases Nat.lt_trichotomy a b with h | h | h
    · rw [cons_lt (by rw [ofNat_toNat (by omega), ofNat_toNat (by omega)]; omega)]; simp [h]
    · subst h; rw [cons_eq]; simp [Op.bytesLess]
    · rw [cons_gt (by rw [ofNat_toNat (by omega), ofNat_toNat (by omega)]; omega)]; simp; omega
theorem numB_inj {a b : Nat} (ha : a ≤ 18446744073709551615) (hb : b ≤ 18446744073709551615) : numB a = numB b ↔ a = b := by
  constructor
  · intro h
    have h1 := numB_less ha hb
    have h2 := numB_less hb ha
    have h3 := numB_less ha ha
    rw [← h] at h1 h2
    rw [h3] at h1 h2
    simp at h1 h2
    omega
  · rintro rfl; rfl
end Go.Proofs.YtojkbndaleiaaaaDoor
