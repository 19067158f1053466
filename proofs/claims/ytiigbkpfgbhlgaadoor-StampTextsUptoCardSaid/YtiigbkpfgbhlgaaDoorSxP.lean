/- A stamp's text, read again: the mathematics. -/
import Derived.Test.YtiigbkpfgbhlgaaDoorSxU
import Derived.Lib.Split
import Derived.Lib.IndexBytes
import Derived.Lib.IndexMore
import Derived.Lib.ParseIntBCases
namespace Go.Proofs.YtiigbkpfgbhlgaaDoor
open Go.RowKit

theorem dec_digit : ∀ (n : Nat), ∀ x ∈ dec n, 48 ≤ x.toNat ∧ x.toNat ≤ 57 := by
  intro n
  induction n using Nat.strongRecOn with
  | _ n ih =>
    intro x hx
    by_cases h : n < 10
    · rw [dec_small h, List.mem_singleton] at hx
      subst hx
      have := digit_toNat h
      omega
    · rw [dec_big h, List.mem_append, List.mem_singleton] at hx
      rcases hx with hx | hx
      · exact ih (n / 10) (by omega) x hx
      · subst hx
        have := digit_toNat (n := n % 10) (by omega)
        omega
theorem dec_nodot (n : Nat) : ∀ x ∈ dec n, x ≠ 46 := fun x hx e => by
  have := dec_digit n x hx
  subst e
  simp at this

theorem indexByte_at (c : UInt8) (r : List UInt8) : ∀ (x : List UInt8), (∀ y ∈ x, y ≠ c) → Lib.indexByte (x ++ c :: r) c = x.length
  | [], _ => by simp [Lib.indexByte]
  | y :: x, h => by
    have ih := indexByte_at c r x fun z hz => h z (List.mem_cons_of_mem _ hz)
    have hy : y ≠ c := h y List.mem_cons_self
    simp [Lib.indexByte, hy, ih]
    try omega
theorem indexByte_not (c : UInt8) : ∀ (x : List UInt8), (∀ y ∈ x, y ≠ c) → Lib.indexByte x c = -1
  | [], _ => by simp [Lib.indexByte]
  | y :: x, h => by
    have ih := indexByte_not c x fun z hz => h z (List.mem_cons_of_mem _ hz)
    have hy : y ≠ c := h y List.mem_cons_self
    simp [Lib.indexByte, hy, ih]
theorem splitK_at (k : Nat) (x r : List UInt8) (h : ∀ y ∈ x, y ≠ 46) : Lib.splitK [46] 0 (k + 1) (x ++ 46 :: r) = x :: Lib.splitK [46] 0 k r := by
  have e : Lib.index (x ++ 46 :: r) [46] = (x.length : Int) := by rw [Lib.index_one, indexByte_at 46 r x h]
  have hd : (x ++ 46 :: r).drop (x.length + 1) = r := by
    rw [show x ++ 46 :: r = (x ++ [46]) ++ r by simp, List.drop_append_of_le_length (by simp)]
    simp
  have e1 : Lib.splitK [46] 0 (k + 1) (x ++ 46 :: r) = if Lib.index (x ++ 46 :: r) [46] == -1 then [x ++ 46 :: r] else (x ++ 46 :: r).take ((Lib.index (x ++ 46 :: r) [46]).toNat + 0) :: Lib.splitK [46] 0 k ((x ++ 46 :: r).drop ((Lib.index (x ++ 46 :: r) [46]).toNat + 1)) := rfl
  rw [e1, e, if_neg (by simp), Int.toNat_natCast, hd]
  simp
theorem splitK_end (k : Nat) (x : List UInt8) (h : ∀ y ∈ x, y ≠ 46) : Lib.splitK [46] 0 k x = [x] := by
  cases k with
  | zero => rfl
  | succ k =>
    unfold Lib.splitK
    rw [Lib.index_one, indexByte_not 46 x h]
    rfl
theorem text_split (a b c : Nat) : Lib.splitK [46] 0 3 (dec a ++ 46 :: (dec b ++ 46 :: dec c)) = [dec a, dec b, dec c] := by
  rw [splitK_at 2 _ _ (dec_nodot a), splitK_at 1 _ _ (dec_nodot b), splitK_end 1 _ (dec_nodot c)]

theorem parseUintM_app (M : Nat) (hM : M ≤ 18446744073709551615) : ∀ (n : Nat), n ≤ M → ∀ r, Lib.parseUintM M 0 (dec n ++ r) = Lib.parseUintM M n r := by
  intro n
  induction n using Nat.strongRecOn with
  | _ n ih =>
    intro hn r
    by_cases h : n < 10
    · rw [dec_small h]
      have d := digit_toNat h
      simp only [List.singleton_append, Lib.parseUintM]
      rw [if_pos (by omega), if_neg (by omega), if_neg (by omega)]
      congr 1
      omega
    · rw [dec_big h, List.append_assoc, ih (n / 10) (by omega) (by omega)]
      have d := digit_toNat (n := n % 10) (by omega)
      simp only [List.singleton_append, Lib.parseUintM]
      rw [if_pos (by omega), if_neg (by omega), if_neg (by omega)]
      congr 1
      omega
theorem parse_dec (n : Nat) (hn : n ≤ 4611686018427387904) : Lib.parseIntB 64 (dec n) = .ok (n : Int) := by
  have hne : dec n ≠ [] := fun e => by have := dec_pos n; rw [e] at this; simp at this
  obtain ⟨x, r, e⟩ := List.exists_cons_of_ne_nil hne
  have hx := dec_digit n x (by rw [e]; exact List.mem_cons_self)
  have hu : Lib.parseUintB 64 (x :: r) = .ok n := by
    unfold Lib.parseUintB
    rw [if_neg (by simp), ← e]
    have := parseUintM_app (2 ^ 64 - 1) (by decide) n (by omega) []
    rw [List.append_nil] at this
    rw [this]
    rfl
  rw [e]
  unfold Lib.parseIntB
  simp only
  rw [if_neg (by omega), hu]
  simp only
  rw [if_neg (by omega), if_neg (by omega), if_neg (by omega)]
theorem dec_inj {m n : Nat} (hm : m ≤ 4611686018427387904) (hn : n ≤ 4611686018427387904) (h : dec m = dec n) : m = n := by
  have := parse_dec m hm
  rw [h, parse_dec n hn] at this
  injection this with this
  omega

/-- The text t is that of the right stamp with these parts. -/
def Reads (t : List UInt8) (a b c : Nat) : Prop := (a ≤ 4611686018427387904 ∧ b ≤ 4294967295 ∧ c ≤ 4294967295) ∧ t = dec a ++ 46 :: (dec b ++ 46 :: dec c)
theorem Reads.split {t : List UInt8} {a b c : Nat} (h : Reads t a b c) : Lib.splitK [46] 0 3 t = [dec a, dec b, dec c] := by rw [h.2, text_split]
theorem Reads.inj {t : List UInt8} {a b c a' b' c' : Nat} (h : Reads t a b c) (h' : Reads t a' b' c') : a = a' ∧ b = b' ∧ c = c' := by
  have e := h.split.symm.trans h'.split
  simp only [List.cons.injEq, and_true] at e
  obtain ⟨e1, e2, e3⟩ := e
  obtain ⟨⟨h1, h2, h3⟩, _⟩ := h
  obtain ⟨⟨h1', h2', h3'⟩, _⟩ := h'
  exact ⟨dec_inj h1 h1' e1, dec_inj (by omega) (by omega) e2, dec_inj (by omega) (by omega) e3⟩
theorem Reads.size {t : List UInt8} {a b c : Nat} (h : Reads t a b c) : 5 ≤ t.length := by
  rw [h.2]
  have := dec_pos a
  have := dec_pos b
  have := dec_pos c
  simp; omega
theorem textB_dec (a b c : Nat) : sttextB a b c = dec a ++ 46 :: (dec b ++ 46 :: dec c) := by
  unfold sttextB
  rw [itoa_pos (by omega), itoa_pos (by omega), itoa_pos (by omega)]
  rfl
end Go.Proofs.YtiigbkpfgbhlgaaDoor
