/- Numbers read in decimal: the mathematics. -/
import Derived.Test.YtiigbkpfgbhlgaaDoorSxP
namespace Go.Proofs.YtiigbkpfgbhlgaaDoor
open Go.RowKit

theorem nDigits_le : ∀ (k m : Nat), m < 10 ^ (k + 1) → Lib.nDigits m ≤ k + 1
  | 0, m, h => by rw [Lib.nDigits_small (by simpa using h)]; omega
  | k + 1, m, h => by
    by_cases h9 : m < 10
    · rw [Lib.nDigits_small h9]; omega
    · rw [Lib.nDigits_big h9]
      have := nDigits_le k (m / 10) (by rw [Nat.pow_succ] at h; omega)
      omega
theorem dec_len19 {m : Nat} (h : m ≤ 9223372036854775807) : (dec m).length ≤ 19 := by
  unfold dec; rw [Lib.decDigits_length]; exact nDigits_le 18 m (by omega)
theorem dec_lead : ∀ (m : Nat), 1 ≤ m → (dec m)[0]? ≠ some 48 := by
  intro m
  induction m using Nat.strongRecOn with
  | _ m ih =>
    intro hm
    by_cases h : m < 10
    · rw [dec_small h]
      intro e
      simp only [List.getElem?_cons_zero, Option.some.injEq] at e
      have := digit_toNat h
      rw [e] at this
      simp at this
      omega
    · rw [dec_big h, List.getElem?_append_left (dec_pos _)]
      exact ih (m / 10) (by omega) (by omega)
theorem dec_step {n d : Nat} (hn : 1 ≤ n) (hd : d < 10) : dec (n * 10 + d) = dec n ++ [UInt8.ofNat (48 + d)] := by
  rw [dec_big (by omega)]
  rw [show (n * 10 + d) / 10 = n by omega, show (n * 10 + d) % 10 = d by omega]
theorem byte_back (c : UInt8) (h0 : 48 ≤ c.toNat) : UInt8.ofNat (48 + (c.toNat - 48)) = c := by
  rw [show 48 + (c.toNat - 48) = c.toNat by omega]; simp

/-- What of a text has been read so far. -/
def Got (l : List UInt8) (k n : Nat) : Prop := (k = 0 ∧ n = 0) ∨ (0 < k ∧ dec n = l.take k ∧ n < 10 ^ k)
theorem Got.step {l : List UInt8} {k n : Nat} {c : UInt8} (h : Got l k n) (hk : l[k]? = some c) (h0 : 48 ≤ c.toNat) (h9 : c.toNat ≤ 57) (hl : l.length = 1 ∨ l[0]? ≠ some 48) : Got l (k + 1) (n * 10 + (c.toNat - 48)) := by
  have hkl : k < l.length := by
    rcases Nat.lt_or_ge k l.length with h' | h'
    · exact h'
    · rw [List.getElem?_eq_none h'] at hk; cases hk
  have hc : l[k] = c := by rw [List.getElem?_eq_getElem hkl] at hk; injection hk
  rcases h with ⟨rfl, rfl⟩ | ⟨hp, hd, hb⟩
  · refine .inr ⟨by omega, ?_, by omega⟩
    rw [Nat.zero_mul, Nat.zero_add, dec_small (by omega), byte_back c h0, List.take_add_one, hk]
    rfl
  · have hn : 1 ≤ n := by
      rcases Nat.eq_zero_or_pos n with e | e
      · subst e
        exfalso
        rw [dec_small (by decide)] at hd
        have h1 : (l.take k).length = 1 := by rw [← hd]; rfl
        rw [List.length_take] at h1
        have h2 : l[0]? = some 48 := by
          have := congrArg (·[0]?) hd
          simp only [List.getElem?_take, if_pos hp] at this
          exact this.symm
        rcases hl with hl | hl
        · omega
        · exact hl h2
      · exact e
    refine .inr ⟨by omega, ?_, ?_⟩
    · rw [dec_step hn (by omega), byte_back c h0, hd, List.take_add_one, hk]
      rfl
    · rw [Nat.pow_succ]; omega
theorem Got.lt {l : List UInt8} {k n : Nat} (h : Got l k n) (hk : k ≤ 19) : n < 10000000000000000000 := by
  rcases h with ⟨rfl, rfl⟩ | ⟨_, _, hb⟩
  · decide
  · have : 10 ^ k ≤ 10 ^ 19 := Nat.pow_le_pow_right (by decide) hk
    omega
theorem Got.done {l : List UInt8} {n : Nat} (h : Got l l.length n) (hl : 1 ≤ l.length) : l = dec n := by
  rcases h with ⟨e, _⟩ | ⟨_, hd, _⟩
  · omega
  · rw [hd, List.take_length]
/-- Which number at most 'most' a text spells; false: none. -/
def NumIs (l : List UInt8) (most n : Nat) (ok : Bool) : Prop := (ok = true → n ≤ most ∧ l = dec n) ∧ (ok = false → ∀ m, m ≤ most → l ≠ dec m)
theorem NumIs.no {l : List UInt8} {most n : Nat} (h : ∀ m, m ≤ most → l ≠ dec m) : NumIs l most n false := ⟨(fun e => by cases e), fun _ => h⟩
theorem NumIs.end_ {l : List UInt8} {most n : Nat} (hm : most ≤ 9223372036854775807) (h : l = dec n) (hn : n < 10000000000000000000) : NumIs l most n (decide (n ≤ most)) := by
  refine ⟨fun e => ⟨of_decide_eq_true e, h⟩, fun e m hmm hd => ?_⟩
  have hmb : m ≤ 9223372036854775807 := Nat.le_trans hmm hm
  have hnm : ¬ n ≤ most := of_decide_eq_false e
  have e1 : Lib.parseUintM 18446744073709551615 0 (dec n) = .ok n := by
    have := parseUintM_app 18446744073709551615 (by decide) n (by omega) []
    rw [List.append_nil] at this; rw [this]; rfl
  have e2 : Lib.parseUintM 18446744073709551615 0 (dec m) = .ok m := by
    have := parseUintM_app 18446744073709551615 (by decide) m (by omega) []
    rw [List.append_nil] at this; rw [this]; rfl
  rw [← h, hd, e2] at e1
  injection e1 with e1
  omega
theorem num_empty {l : List UInt8} (h : l.length = 0) (most n : Nat) : NumIs l most n false := NumIs.no fun m _ e => by have := dec_pos m; rw [← e] at this; omega
theorem num_long {l : List UInt8} (h : 19 < l.length) {most : Nat} (hm : most ≤ 9223372036854775807) (n : Nat) : NumIs l most n false := NumIs.no fun m hmm e => by have := dec_len19 (m := m) (by omega); rw [← e] at this; omega
theorem num_lead {l : List UInt8} (h : 1 < l.length) (h0 : l[0]? = some 48) (most n : Nat) : NumIs l most n false := NumIs.no fun m hmm e => by
  rcases Nat.eq_zero_or_pos m with h' | h'
  · subst h'; rw [dec_small (by decide)] at e; rw [e] at h; simp at h
  · rw [e] at h0; exact dec_lead m h' h0
theorem num_byte {l : List UInt8} {k : Nat} {c : UInt8} (hk : l[k]? = some c) (h : c.toNat < 48 ∨ 57 < c.toNat) (most n : Nat) : NumIs l most n false := NumIs.no fun m _ e => by
  have := dec_digit m c (by rw [← e]; exact List.mem_of_getElem? hk)
  omega
end Go.Proofs.YtiigbkpfgbhlgaaDoor
