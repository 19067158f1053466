/- Bytes, the highest first, stand as the numbers stand; a stamp's bytes stand as the stamps, and are read back. -/
import Derived.Test.YtojkbndaleiaaaaDoorGetM
import Derived.Test.YtojkbndaleiaaaaDoorSt
namespace Go.Proofs.YtojkbndaleiaaaaDoor

theorem foldl_be (l : List UInt8) : ∀ n : Nat, l.foldl (fun n b => n * 256 + b.toNat) n = n * 256 ^ l.length + ofBE l := by
  induction l with
  | nil => intro n; simp [ofBE]
  | cons b l ih =>
    intro n
    unfold ofBE
    simp only [List.foldl_cons, List.length_cons]
    rw [ih, ih (0 * 256 + b.toNat), Nat.pow_succ, Nat.add_mul, Nat.mul_assoc, Nat.mul_comm 256, Nat.zero_mul, Nat.zero_add]
    omega
theorem ofBE_cons (b : UInt8) (l : List UInt8) : ofBE (b :: l) = b.toNat * 256 ^ l.length + ofBE l := by
  have := foldl_be l (0 * 256 + b.toNat)
  unfold ofBE at *
  rw [List.foldl_cons, this, Nat.zero_mul, Nat.zero_add]
theorem ofBE_append (l m : List UInt8) : ofBE (l ++ m) = ofBE l * 256 ^ m.length + ofBE m := by
  unfold ofBE
  rw [List.foldl_append, foldl_be]
  rfl
theorem less_be : ∀ (l m : List UInt8), l.length = m.length → Op.bytesLess l m = decide (ofBE l < ofBE m)
  | [], [], _ => by simp [Op.bytesLess, ofBE]
  | [], _ :: _, h => by simp at h
  | _ :: _, [], h => by simp at h
  | a :: l, b :: m, h => by
    have hl : l.length = m.length := by simpa using h
    have hlt := ofBE_lt l
    have hmt := ofBE_lt m
    rw [hl] at hlt
    rw [Op.bytesLess, less_be l m hl, ofBE_cons, ofBE_cons, hl]
    generalize ofBE l = x at *
    generalize ofBE m = y at *
    generalize 256 ^ m.length = P at *
    rw [Bool.eq_iff_iff]
    simp only [Bool.or_eq_true, Bool.and_eq_true, decide_eq_true_eq, beq_iff_eq, UInt8.lt_iff_toNat_lt]
    rw [← UInt8.toNat_inj]
    generalize a.toNat = p
    generalize b.toNat = q
    constructor
    · rintro (h | ⟨rfl, h⟩)
      · have : (p + 1) * P ≤ q * P := Nat.mul_le_mul_right _ h
        rw [Nat.add_mul, Nat.one_mul] at this
        omega
      · omega
    · intro h
      rcases Nat.lt_trichotomy p q with h1 | h1 | h1
      · exact .inl h1
      · subst h1; exact .inr ⟨rfl, by omega⟩
      · have : (q + 1) * P ≤ p * P := Nat.mul_le_mul_right _ h1
        rw [Nat.add_mul, Nat.one_mul] at this
        omega
theorem inj_be : ∀ (l m : List UInt8), l.length = m.length → ofBE l = ofBE m → l = m
  | [], [], _, _ => rfl
  | [], _ :: _, h, _ => by simp at h
  | _ :: _, [], h, _ => by simp at h
  | a :: l, b :: m, h, e => by
    have hl : l.length = m.length := by simpa using h
    have hlt := ofBE_lt l
    have hmt := ofBE_lt m
    rw [hl] at hlt
    rw [ofBE_cons, ofBE_cons, hl] at e
    have key : a.toNat = b.toNat ∧ ofBE l = ofBE m := by
      generalize ofBE l = x at *
      generalize ofBE m = y at *
      generalize 256 ^ m.length = P at *
      generalize a.toNat = p at *
      generalize b.toNat = q at *
      rcases Nat.lt_trichotomy p q with h1 | h1 | h1
      · have : (p + 1) * P ≤ q * P := Nat.mul_le_mul_right _ h1
        rw [Nat.add_mul, Nat.one_mul] at this
        omega
      · subst h1; exact ⟨rfl, by omega⟩
      · have : (q + 1) * P ≤ p * P := Nat.mul_le_mul_right _ h1
        rw [Nat.add_mul, Nat.one_mul] at this
        omega
    rw [UInt8.toNat_inj.1 key.1, inj_be l m hl key.2]

theorem ofBE_to (u k : Nat) : ∀ j, j ≤ k → ofBE (beTo u k j) = u / 256 ^ (k - j) % 256 ^ j
  | 0, _ => by simp [beTo_zero, ofBE, Nat.mod_one]
  | j + 1, h => by
    rw [beTo_succ, ofBE_snoc, ofBE_to u k j (by omega)]
    have e : k - j = (k - 1 - j) + 1 := by omega
    have e2 : k - (j + 1) = k - 1 - j := by omega
    rw [e, e2, Nat.pow_succ, ← Nat.div_div_eq_div_mul]
    generalize u / 256 ^ (k - 1 - j) = z
    have hb : (UInt8.ofNat z).toNat = z % 256 := by simp
    rw [hb, Nat.pow_succ, Nat.mul_comm (256 ^ j) 256, Nat.mod_mul]
    omega
theorem ofBE_beN (u k : Nat) : ofBE (beN u k) = u % 256 ^ k := by
  rw [← beTo_all, ofBE_to u k k (Nat.le_refl _), Nat.sub_self, Nat.pow_zero, Nat.div_one]

theorem u64N_of {a : Int} (h0 : 0 ≤ a) (h1 : a ≤ 4611686018427387904) : u64N a = a.toNat := by unfold u64N; omega
theorem ofBE_putB {a b c : Int} (ha : 0 ≤ a ∧ a ≤ 4611686018427387904) (hb : 0 ≤ b ∧ b ≤ 4294967295) (hc : 0 ≤ c ∧ c ≤ 4294967295) :
    ofBE (putB a b c) = (a.toNat * 4294967296 + b.toNat) * 4294967296 + c.toNat := by
  unfold putB
  rw [ofBE_append, ofBE_append, ofBE_beN, ofBE_beN, ofBE_beN, beN_length, beN_length, u64N_of ha.1 ha.2, u64N_of hb.1 (by omega), u64N_of hc.1 (by omega)]
  have e1 : a.toNat % 256 ^ 8 = a.toNat := Nat.mod_eq_of_lt (by simp only [Nat.reducePow]; omega)
  have e2 : b.toNat % 256 ^ 4 = b.toNat := Nat.mod_eq_of_lt (by simp only [Nat.reducePow]; omega)
  have e3 : c.toNat % 256 ^ 4 = c.toNat := Nat.mod_eq_of_lt (by simp only [Nat.reducePow]; omega)
  rw [e1, e2, e3]

section
variable {a b c x y z : Int} (ha : 0 ≤ a ∧ a ≤ 4611686018427387904) (hb : 0 ≤ b ∧ b ≤ 4294967295) (hc : 0 ≤ c ∧ c ≤ 4294967295)
  (hx : 0 ≤ x ∧ x ≤ 4611686018427387904) (hy : 0 ≤ y ∧ y ≤ 4294967295) (hz : 0 ≤ z ∧ z ≤ 4294967295)
include ha hb hc hx hy hz
theorem put_less : Op.bytesLess (putB a b c) (putB x y z) = decide (cmpS a b c x y z < 0) := by
  rw [less_be _ _ (by rw [putB_length, putB_length]), ofBE_putB ha hb hc, ofBE_putB hx hy hz]
  rw [Bool.eq_iff_iff, decide_eq_true_eq, decide_eq_true_eq]
  unfold cmpS
  (repeat' split) <;> omega
theorem put_inj : putB a b c = putB x y z ↔ (a = x ∧ b = y ∧ c = z) := by
  constructor
  · intro h
    have := congrArg ofBE h
    rw [ofBE_putB ha hb hc, ofBE_putB hx hy hz] at this
    omega
  · rintro ⟨rfl, rfl, rfl⟩; rfl
end
theorem get_put {a b c : Int} (ha : 0 ≤ a ∧ a ≤ 4611686018427387904) (hb : 0 ≤ b ∧ b ≤ 4294967295) (hc : 0 ≤ c ∧ c ≤ 4294967295) : getB (putB a b c) = (a, b, c, 0) := by
  have h8 : (beN (u64N a) 8).length = 8 := beN_length _ _
  have h4 : (beN (u64N b) 4).length = 4 := beN_length _ _
  have h4' : (beN (u64N c) 4).length = 4 := beN_length _ _
  have eA : getA (putB a b c) = a.toNat := by
    unfold getA cutN putB
    rw [List.drop_zero, List.append_assoc, List.take_append_of_le_length (by omega), List.take_of_length_le (by omega), ofBE_beN, u64N_of ha.1 ha.2]
    exact Nat.mod_eq_of_lt (by simp only [Nat.reducePow]; omega)
  have eT : getT (putB a b c) = b.toNat := by
    unfold getT cutN putB
    rw [List.append_assoc, List.drop_append_of_le_length (by omega), List.drop_of_length_le (by omega), List.nil_append, List.take_append_of_le_length (by omega), List.take_of_length_le (by omega), ofBE_beN, u64N_of hb.1 (by omega)]
    exact Nat.mod_eq_of_lt (by simp only [Nat.reducePow]; omega)
  have eM : getM (putB a b c) = c.toNat := by
    unfold getM cutN putB
    rw [List.drop_append, List.length_append, h8, h4, List.drop_of_length_le (by rw [List.length_append, h8, h4]; omega), List.nil_append, List.drop_zero, List.take_of_length_le (by omega), ofBE_beN, u64N_of hc.1 (by omega)]
    exact Nat.mod_eq_of_lt (by simp only [Nat.reducePow]; omega)
  rw [getB_ok (putB_length _ _ _) (by rw [eA]; omega), eA, eT, eM]
  have h1 : ((a.toNat : Nat) : Int) = a := by omega
  have h2 : ((b.toNat : Nat) : Int) = b := by omega
  have h3 : ((c.toNat : Nat) : Int) = c := by omega
  rw [h1, h2, h3]
end Go.Proofs.YtojkbndaleiaaaaDoor
