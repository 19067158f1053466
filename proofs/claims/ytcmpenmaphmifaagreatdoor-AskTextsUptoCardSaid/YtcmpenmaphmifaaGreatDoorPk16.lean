/- Queries: the mathematics of reading their texts. -/
import Derived.Test.YtcmpenmaphmifaaGreatDoorPk15
import Derived.Lib.Split
import Derived.Lib.IndexBytes
import Derived.Lib.IndexMore
import Derived.Lib.ParseIntBCases
import Derived.Test.YtcmpenmaphmifaaGreatDoorPk1
import Derived.Test.YtcmpenmaphmifaaGreatDoorPk5
import Derived.Lib.ParseIntBTie
namespace Go.Proofs.YtcmpenmaphmifaaGreatDoor
open Go.RowKit

theorem dec_digit : ∀ (n : Nat), ∀ x ∈ dec n, 48 ≤ x.toNat ∧ x.toNat ≤ 57 := by
  intro n
  induction n using Nat.strongRecOn with
  | _ n ih =>
    intro x hx
    by_cases h : n < 10
    · rw [dec_small h, List.mem_singleton] at hx
      subst hx
      have := digit_toNat h
      omega
    · rw [dec_big h, List.mem_append, List.mem_singleton] at hx
      rcases hx with hx | hx
      · exact ih (n / 10) (by omega) x hx
      · subst hx
        have := digit_toNat (n := n % 10) (by omega)
        omega
theorem dec_nodot (n : Nat) : ∀ x ∈ dec n, x ≠ 46 := fun x hx e => by
  have := dec_digit n x hx
  subst e
  simp at this

theorem indexByte_at (c : UInt8) (r : List UInt8) : ∀ (x : List UInt8), (∀ y ∈ x, y ≠ c) → Lib.indexByte (x ++ c :: r) c = x.length
  | [], _ => by simp [Lib.indexByte]
  | y :: x, h => by
    have ih := indexByte_at c r x fun z hz => h z (List.mem_cons_of_mem _ hz)
    have hy : y ≠ c := h y List.mem_cons_self
    simp [Lib.indexByte, hy, ih]
    try omega
theorem indexByte_not (c : UInt8) : ∀ (x : List UInt8), (∀ y ∈ x, y ≠ c) → Lib.indexByte x c = -1
  | [], _ => by simp [Lib.indexByte]
  | y :: x, h => by
    have ih := indexByte_not c x fun z hz => h z (List.mem_cons_of_mem _ hz)
    have hy : y ≠ c := h y List.mem_cons_self
    simp [Lib.indexByte, hy, ih]
theorem splitK_at (k : Nat) (x r : List UInt8) (h : ∀ y ∈ x, y ≠ 46) : Lib.splitK [46] 0 (k + 1) (x ++ 46 :: r) = x :: Lib.splitK [46] 0 k r := by
  have e : Lib.index (x ++ 46 :: r) [46] = (x.length : Int) := by rw [Lib.index_one, indexByte_at 46 r x h]
  have hd : (x ++ 46 :: r).drop (x.length + 1) = r := by
    rw [show x ++ 46 :: r = (x ++ [46]) ++ r by simp, List.drop_append_of_le_length (by simp)]
    simp
  have e1 : Lib.splitK [46] 0 (k + 1) (x ++ 46 :: r) = if Lib.index (x ++ 46 :: r) [46] == -1 then [x ++ 46 :: r] else (x ++ 46 :: r).take ((Lib.index (x ++ 46 :: r) [46]).toNat + 0) :: Lib.splitK [46] 0 k ((x ++ 46 :: r).drop ((Lib.index (x ++ 46 :: r) [46]).toNat + 1)) := rfl
  rw [e1, e, if_neg (by simp), Int.toNat_natCast, hd]
  simp
theorem splitK_end (k : Nat) (x : List UInt8) (h : ∀ y ∈ x, y ≠ 46) : Lib.splitK [46] 0 k x = [x] := by
  cases k with
  | zero => rfl
  | succ k =>
    unfold Lib.splitK
    rw [Lib.index_one, indexByte_not 46 x h]
    rfl
theorem text_split (a b c : Nat) : Lib.splitK [46] 0 3 (dec a ++ 46 :: (dec b ++ 46 :: dec c)) = [dec a, dec b, dec c] := by
  rw [splitK_at 2 _ _ (dec_nodot a), splitK_at 1 _ _ (dec_nodot b), splitK_end 1 _ (dec_nodot c)]

theorem parseUintM_app (M : Nat) (hM : M ≤ 18446744073709551615) : ∀ (n : Nat), n ≤ M → ∀ r, Lib.parseUintM M 0 (dec n ++ r) = Lib.parseUintM M n r := by
  intro n
  induction n using Nat.strongRecOn with
  | _ n ih =>
    intro hn r
    by_cases h : n < 10
    · rw [dec_small h]
      have d := digit_toNat h
      simp only [List.singleton_append, Lib.parseUintM]
      rw [if_pos (by omega), if_neg (by omega), if_neg (by omega)]
      congr 1
      omega
    · rw [dec_big h, List.append_assoc, ih (n / 10) (by omega) (by omega)]
      have d := digit_toNat (n := n % 10) (by omega)
      simp only [List.singleton_append, Lib.parseUintM]
      rw [if_pos (by omega), if_neg (by omega), if_neg (by omega)]
      congr 1
      omega
theorem parse_dec (n : Nat) (hn : n ≤ 4611686018427387904) : Lib.parseIntB 64 (dec n) = .ok (n : Int) := by
  have hne : dec n ≠ [] := fun e => by have := dec_pos n; rw [e] at this; simp at this
  obtain ⟨x, r, e⟩ := List.exists_cons_of_ne_nil hne
  have hx := dec_digit n x (by rw [e]; exact List.mem_cons_self)
  have hu : Lib.parseUintB 64 (x :: r) = .ok n := by
    unfold Lib.parseUintB
    rw [if_neg (by simp), ← e]
    have := parseUintM_app (2 ^ 64 - 1) (by decide) n (by omega) []
    rw [List.append_nil] at this
    rw [this]
    rfl
  rw [e]
  unfold Lib.parseIntB
  simp only
  rw [if_neg (by omega), hu]
  simp only
  rw [if_neg (by omega), if_neg (by omega), if_neg (by omega)]
theorem dec_inj {m n : Nat} (hm : m ≤ 4611686018427387904) (hn : n ≤ 4611686018427387904) (h : dec m = dec n) : m = n := by
  have := parse_dec m hm
  rw [h, parse_dec n hn] at this
  injection this with this
  omega

/-- The text t is that of the right stamp with these parts. -/
def Reads (t : List UInt8) (a b c : Nat) : Prop := (a ≤ 4611686018427387904 ∧ b ≤ 4294967295 ∧ c ≤ 4294967295) ∧ t = dec a ++ 46 :: (dec b ++ 46 :: dec c)
theorem Reads.split {t : List UInt8} {a b c : Nat} (h : Reads t a b c) : Lib.splitK [46] 0 3 t = [dec a, dec b, dec c] := by rw [h.2, text_split]
theorem Reads.inj {t : List UInt8} {a b c a' b' c' : Nat} (h : Reads t a b c) (h' : Reads t a' b' c') : a = a' ∧ b = b' ∧ c = c' := by
  have e := h.split.symm.trans h'.split
  simp only [List.cons.injEq, and_true] at e
  obtain ⟨e1, e2, e3⟩ := e
  obtain ⟨⟨h1, h2, h3⟩, _⟩ := h
  obtain ⟨⟨h1', h2', h3'⟩, _⟩ := h'
  exact ⟨dec_inj h1 h1' e1, dec_inj (by omega) (by omega) e2, dec_inj (by omega) (by omega) e3⟩
theorem Reads.size {t : List UInt8} {a b c : Nat} (h : Reads t a b c) : 5 ≤ t.length := by
  rw [h.2]
  have := dec_pos a
  have := dec_pos b
  have := dec_pos c
  simp; omega
theorem textB_dec (a b c : Nat) : sttextB a b c = dec a ++ 46 :: (dec b ++ 46 :: dec c) := by
  unfold sttextB
  rw [itoa_pos (by omega), itoa_pos (by omega), itoa_pos (by omega)]
  rfl
end Go.Proofs.YtcmpenmaphmifaaGreatDoor
namespace Go.Proofs.YtcmpenmaphmifaaGreatDoor
open Go.RowKit

def nchB (c : UInt8) : Bool := letN (c.toNat : Int) || digN (c.toNat : Int)
def letL (t : List UInt8) : Nat := (t.takeWhile nchB).length
def docGo : Nat → List UInt8 → Nat → List Rp → List Rp × Nat
  | 0, _, _, _ => ([], 0)
  | f + 1, t, at_, acc =>
    if opR (t.drop (letL t)) = 0 then ([], 0)
    else if (unqL ((t.drop (letL t)).drop (sgB (opR (t.drop (letL t)))).length)).2 = 0 then ([], 0)
    else if Lib.hasPrefix (t.drop (letL t + (sgB (opR (t.drop (letL t)))).length + (unqL ((t.drop (letL t)).drop (sgB (opR (t.drop (letL t)))).length)).2)) [125] = true then
      if rulesL (acc ++ [mkR (t.take (letL t)) (opR (t.drop (letL t))) (unqL ((t.drop (letL t)).drop (sgB (opR (t.drop (letL t)))).length)).1]) = true then
        (acc ++ [mkR (t.take (letL t)) (opR (t.drop (letL t))) (unqL ((t.drop (letL t)).drop (sgB (opR (t.drop (letL t)))).length)).1], at_ + (letL t + (sgB (opR (t.drop (letL t)))).length + (unqL ((t.drop (letL t)).drop (sgB (opR (t.drop (letL t)))).length)).2) + 1)
      else ([], 0)
    else if Lib.hasPrefix (t.drop (letL t + (sgB (opR (t.drop (letL t)))).length + (unqL ((t.drop (letL t)).drop (sgB (opR (t.drop (letL t)))).length)).2)) [44] = true then
      docGo f (t.drop (letL t + (sgB (opR (t.drop (letL t)))).length + (unqL ((t.drop (letL t)).drop (sgB (opR (t.drop (letL t)))).length)).2 + 1)) (at_ + (letL t + (sgB (opR (t.drop (letL t)))).length + (unqL ((t.drop (letL t)).drop (sgB (opR (t.drop (letL t)))).length)).2) + 1) (acc ++ [mkR (t.take (letL t)) (opR (t.drop (letL t))) (unqL ((t.drop (letL t)).drop (sgB (opR (t.drop (letL t)))).length)).1])
    else ([], 0)
def docB (t : List UInt8) : List Rp × Nat :=
  if Lib.hasPrefix t [123] = true then if Lib.hasPrefix (t.drop 1) [125] = true then ([], 2) else docGo 17 (t.drop 1) 1 [] else ([], 0)

theorem rules_bad {l : List Rp} (h : l.all ruleB = false) : rulesL l = false := by unfold rulesL; rw [h]; simp
theorem all_snoc (l : List Rp) (x : Rp) : (l ++ [x]).all ruleB = (l.all ruleB && ruleB x) := by rw [List.all_append]; simp
theorem docGo_bad : ∀ (f : Nat) (t : List UInt8) (at_ : Nat) (acc : List Rp), acc.all ruleB = false → docGo f t at_ acc = ([], 0)
  | 0, _, _, _, _ => rfl
  | f + 1, t, at_, acc, h => by
    rw [docGo]
    split
    · rfl
    split
    · rfl
    split
    · rw [if_neg]
      rw [rules_bad (by rw [all_snoc, h]; rfl)]
      decide
    split
    · exact docGo_bad f _ _ _ (by rw [all_snoc, h]; rfl)
    · rfl

theorem nch_not {c : UInt8} (h : nchB c = true) : sgL.contains c = false := by
  rw [Bool.eq_false_iff]
  intro hc
  simp [sgL] at hc
  rcases hc with rfl | rfl | rfl | rfl <;> revert h <;> decide
theorem letL_le (t : List UInt8) : letL t ≤ t.length := by
  unfold letL
  have := (List.takeWhile_prefix (l := t) nchB).length_le
  exact this
theorem letL_nch : ∀ (t : List UInt8) (j : Nat) (b : UInt8), j < letL t → t[j]? = some b → nchB b = true
  | [], j, b, h, _ => by simp [letL] at h
  | c :: t, j, b, h, hb => by
    unfold letL at h
    rw [List.takeWhile_cons] at h
    split at h
    · rename_i hc
      cases j with
      | zero => simp at hb; subst hb; exact hc
      | succ j => exact letL_nch t j b (by rw [List.length_cons] at h; unfold letL; omega) (by simpa using hb)
    · simp at h
theorem letL_end : ∀ (t : List UInt8) (b : UInt8), t[letL t]? = some b → nchB b = false
  | [], b, h => by simp at h
  | c :: t, b, h => by
    unfold letL at h
    rw [List.takeWhile_cons] at h
    split at h
    · exact letL_end t b (by simpa [letL] using h)
    · rename_i hc
      simp at h
      subst h
      simpa using hc
theorem letL_noAny (t : List UInt8) : Lib.NoAny t sgL (letL t) := fun j b hj hb => nch_not (letL_nch t j b hj hb)

/-- A sign at the head: its first byte is one of the four. -/
theorem opR_head {r : List UInt8} (h : ¬ opR r = 0) : ∃ b r', r = b :: r' ∧ sgL.contains b = true := by
  cases r with
  | nil => exact absurd (by simp [opR, Lib.hasPrefix]) h
  | cons b r' =>
    refine ⟨b, r', rfl, ?_⟩
    by_cases h1 : b = 61
    · subst h1; rfl
    by_cases h2 : b = 33
    · subst h2; rfl
    by_cases h3 : b = 94
    · subst h3; rfl
    by_cases h4 : b = 42
    · subst h4; rfl
    exfalso
    apply h
    have e1 : ((61 : UInt8) == b) = false := by simpa using fun e => h1 e.symm
    have e2 : ((33 : UInt8) == b) = false := by simpa using fun e => h2 e.symm
    have e3 : ((94 : UInt8) == b) = false := by simpa using fun e => h3 e.symm
    have e4 : ((42 : UInt8) == b) = false := by simpa using fun e => h4 e.symm
    simp [opR, Lib.hasPrefix, List.isPrefixOf, e1, e2, e3, e4]
theorem index_let {t : List UInt8} (h : ¬ opR (t.drop (letL t)) = 0) : Lib.indexAny t sgL = (letL t : Int) := by
  obtain ⟨b, r', hr, hb⟩ := opR_head h
  have hx : t[letL t]? = some b := by
    have := congrArg (·[0]?) hr
    simpa using this
  exact Lib.indexAny_hit (letL_noAny t) hx hb
theorem partR_let {t : List UInt8} (h : ¬ opR (t.drop (letL t)) = 0) : partR t = ruleAt t (letL t) := by
  unfold partR
  rw [index_let h, if_neg (by omega), Int.toNat_natCast]

theorem nameB_nch {s : ByteArray} (h : nameB s = true) (j : Nat) (b : UInt8) (hb : s.data.toList[j]? = some b) : nchB b = true := by
  unfold nameB at h
  rw [Bool.and_eq_true] at h
  have hj := (List.getElem?_eq_some_iff.1 hb).1
  have h2 := List.all_eq_true.1 h.2 j (List.mem_range.2 (by simpa using hj))
  unfold nameC byteAt at h2
  rw [List.getD_eq_getElem?_getD, hb, Option.getD_some] at h2
  unfold nchB
  rw [Bool.or_eq_true] at h2 ⊢
  rcases h2 with h2 | h2
  · exact .inl h2
  · rw [Bool.and_eq_true] at h2
    exact .inr h2.2
/-- Where a sign's byte is found, one stands. -/
theorem index_hit_spec : ∀ (t : List UInt8) (k : Nat), Lib.indexAny t sgL = (k : Int) → ∃ b, t[k]? = some b ∧ sgL.contains b = true
  | [], k, h => by simp [Lib.indexAny] at h
  | c :: t, k, h => by
    have h0 := Lib.indexAny_ge sgL t
    unfold Lib.indexAny at h
    split at h
    · rename_i hc
      obtain rfl : k = 0 := by omega
      exact ⟨c, rfl, hc⟩
    · split at h
      · omega
      · rename_i hne
        simp at hne
        obtain ⟨j, rfl⟩ : ∃ j, k = j + 1 := ⟨k - 1, by omega⟩
        obtain ⟨b, hb, hbc⟩ := index_hit_spec t j (by omega)
        exact ⟨b, by simpa using hb, hbc⟩
theorem unqL_no {b : UInt8} {r : List UInt8} (h : ¬ (b.toNat : Int) = 34) : unqL (b :: r) = ([], 0) := by rw [unqL, if_neg h]
/-- No sign stands behind the letters: the program finds no rule there either. -/
theorem partR_none {t : List UInt8} (h : opR (t.drop (letL t)) = 0) : (partR t).2 = 0 := by
  unfold partR
  split
  · rfl
  rename_i hneg
  have hge := Lib.indexAny_ge sgL t
  have hlt := indexAny_lt sgL t
  have hsp := index_hit_spec t
  generalize Lib.indexAny t sgL = i at *
  obtain ⟨k, rfl⟩ : ∃ k : Nat, i = (k : Int) := ⟨i.toNat, by omega⟩
  rw [Int.toNat_natCast]
  obtain ⟨b, hb, hbc⟩ := hsp k rfl
  have hkl : letL t ≤ k := by
    rcases Nat.lt_or_ge k (letL t) with hl | hl
    · have := nch_not (letL_nch t k b hl hb)
      rw [this] at hbc; cases hbc
    · exact hl
  unfold ruleAt
  by_cases hk : k = letL t
  · rw [hk, h]
    have hr : t.drop (letL t) = b :: t.drop (letL t + 1) := by
      rw [hk] at hb
      have hl := (List.getElem?_eq_some_iff.1 hb).1
      rw [List.drop_eq_getElem_cons hl]
      rw [List.getElem?_eq_getElem hl] at hb
      injection hb with hb
      rw [hb]
    have e0 : (sgB 0).length = 0 := rfl
    have hb34 : ¬ (b.toNat : Int) = 34 := by
      simp [sgL] at hbc
      rcases hbc with rfl | rfl | rfl | rfl <;> decide
    rw [if_pos (.inl (by rw [e0, List.drop_zero, hr, unqL_no hb34]))]
  · obtain ⟨c, hc⟩ : ∃ c, t[letL t]? = some c := ⟨_, List.getElem?_eq_getElem (show letL t < t.length by omega)⟩
    have hcn := letL_end t c hc
    have hnf : nameB (mkR (t.take k) (opR (t.drop k)) (unqL ((t.drop k).drop (sgB (opR (t.drop k))).length)).1).1 = false := by
      rw [Bool.eq_false_iff]
      intro hn
      have := nameB_nch hn (letL t) c (by
        show (t.take k)[letL t]? = some c
        rw [List.getElem?_take, if_pos (by omega)]; exact hc)
      rw [this] at hcn; cases hcn
    have hrf : ruleB (mkR (t.take k) (opR (t.drop k)) (unqL ((t.drop k).drop (sgB (opR (t.drop k))).length)).1) = false := by
      unfold ruleB
      rw [hnf, Bool.false_and, Bool.false_and]
    rw [if_pos (.inr hrf)]

theorem docGo_eq : ∀ (f : Nat) (t : List UInt8) (at_ : Nat) (acc : List Rp), f + acc.length = 17 → acc.all ruleB = true → docGo f t at_ acc = parseGo f t at_ acc
  | 0, _, _, _, _, _ => rfl
  | f + 1, t, at_, acc, hf, ha => by
    rw [docGo, parseGo]
    by_cases ho : opR (t.drop (letL t)) = 0
    · rw [if_pos ho, if_pos (.inl (partR_none ho))]
    rw [if_neg ho, partR_let ho]
    unfold ruleAt
    generalize hu : unqL ((t.drop (letL t)).drop (sgB (opR (t.drop (letL t)))).length) = u
    by_cases hu0 : u.2 = 0
    · rw [if_pos hu0, if_pos (.inl (by rw [if_pos (.inl hu0)]))]
    rw [if_neg hu0]
    generalize hx : mkR (t.take (letL t)) (opR (t.drop (letL t))) u.1 = x
    generalize hn : letL t + (sgB (opR (t.drop (letL t)))).length + u.2 = n
    have hn0 : ¬ n = 0 := by omega
    by_cases hr : ruleB x = false
    · rw [if_pos (c := (if u.2 = 0 ∨ ruleB x = false then (nilR, 0) else (x, n)).2 = 0 ∨ acc.length = 16) (.inl (by rw [if_pos (.inr hr)]))]
      have hbad : (acc ++ [x]).all ruleB = false := by rw [all_snoc, hr, Bool.and_false]
      split
      · rw [if_neg (by rw [rules_bad hbad]; decide)]
      split
      · exact docGo_bad _ _ _ _ hbad
      · rfl
    have hr1 : ruleB x = true := by simpa using hr
    have hgood : (acc ++ [x]).all ruleB = true := by rw [all_snoc, ha, hr1]; rfl
    rw [if_neg (c := u.2 = 0 ∨ ruleB x = false) (by rintro (h | h); exact hu0 h; exact hr h)]
    by_cases h16 : acc.length = 16
    · rw [if_pos (c := (x, n).2 = 0 ∨ acc.length = 16) (.inr h16)]
      have hbig : rulesL (acc ++ [x]) = false := rulesL_many (by rw [List.length_append]; simp; omega)
      obtain rfl : f = 0 := by omega
      split
      · rw [if_neg (by rw [hbig]; decide)]
      split
      · rfl
      · rfl
    rw [if_neg (c := (x, n).2 = 0 ∨ acc.length = 16) (by rintro (h | h); exact hn0 h; exact h16 h)]
    have hok : rulesL (acc ++ [x]) = true := by
      unfold rulesL
      rw [hgood, Bool.and_true, decide_eq_true_eq, List.length_append]
      simp; omega
    rw [if_pos hok]
    split
    · rfl
    split
    · exact docGo_eq f _ _ _ (by rw [List.length_append]; simp; omega) hgood
    · rfl
theorem doc_eq (t : List UInt8) : docB t = parseB t := by
  unfold docB parseB
  by_cases h : Lib.hasPrefix t [123] = true
  · rw [if_pos h]
    cases t with
    | nil => exact absurd h (by decide)
    | cons b r =>
      have hb : 123 = b := by simpa [Lib.hasPrefix, List.isPrefixOf] using h
      subst hb
      have e : Lib.hasPrefix ((123 : UInt8) :: r) [123, 125] = Lib.hasPrefix r [125] := by simp [Lib.hasPrefix, List.isPrefixOf]
      rw [e, List.drop_succ_cons, List.drop_zero]
      split
      · rfl
      · exact docGo_eq 17 r 1 [] rfl rfl
  · rw [if_neg h, if_neg, if_neg h]
    intro h2
    apply h
    have := List.isPrefixOf_iff_prefix.1 h2
    obtain ⟨r, hr⟩ := this
    rw [← hr]
    rfl
end Go.Proofs.YtcmpenmaphmifaaGreatDoor
namespace Go.Proofs.YtcmpenmaphmifaaGreatDoor
open Go.RowKit

theorem parseGo_count : ∀ (f : Nat) (t : List UInt8) (at_ : Nat) (acc : List Rp), (parseGo f t at_ acc).1.length ≤ acc.length + f
  | 0, _, _, _ => by simp [parseGo]
  | f + 1, t, at_, acc => by
    rw [parseGo]
    split
    · simp
    split
    · simp
    split
    · have := parseGo_count f (t.drop ((partR t).2 + 1)) (at_ + (partR t).2 + 1) (acc ++ [(partR t).1])
      simp at this ⊢
      omega
    · simp
theorem parseB_count (t : List UInt8) : (parseB t).1.length ≤ 17 := by
  unfold parseB
  split
  · simp
  split
  · have := parseGo_count 17 (t.drop 1) 1 []
    simpa using this
  · simp

theorem noAny_name {s : ByteArray} (h : nameB s = true) (r : List UInt8) : Lib.NoAny (s.data.toList ++ r) sgL s.data.toList.length := fun j b hj hb => by
  rw [List.getElem?_append_left hj] at hb
  exact nch_not (nameB_nch h j b hb)
theorem sign_shape {o : Int} (h : opB o = true) : ∃ b r, sgB o = b :: r ∧ sgL.contains b = true ∧ ∀ q, opR (sgB o ++ 34 :: q) = o := by
  have h4 : o = 1 ∨ o = 2 ∨ o = 3 ∨ o = 4 := by simp [opB] at h; omega
  rcases h4 with rfl | rfl | rfl | rfl
  · exact ⟨61, [], rfl, rfl, fun q => by simp [sgB, opR, Lib.hasPrefix, List.isPrefixOf]⟩
  · exact ⟨33, [61], rfl, rfl, fun q => by simp [sgB, opR, Lib.hasPrefix, List.isPrefixOf]⟩
  · exact ⟨94, [61], rfl, rfl, fun q => by simp [sgB, opR, Lib.hasPrefix, List.isPrefixOf]⟩
  · exact ⟨42, [61], rfl, rfl, fun q => by simp [sgB, opR, Lib.hasPrefix, List.isPrefixOf]⟩
theorem quoteB_head (v : ByteArray) : ∃ q, quoteB v = 34 :: q := ⟨_, rfl⟩
theorem unqL_back (v : ByteArray) (r : List UInt8) : unqL (quoteB v ++ r) = (v.data.toList, (quoteB v).length) := by
  have h := unq_back v ⟨r.toArray⟩
  unfold unqB at h
  have e : (⟨(quoteB v).toArray⟩ ++ ⟨r.toArray⟩ : ByteArray).data.toList = quoteB v ++ r := by simp
  rw [e] at h
  exact h
theorem partR_back {x : Rp} (h : ruleB x = true) (r : List UInt8) : partR (partRL x ++ r) = (x, (partRL x).length) := by
  have h0 := h
  unfold ruleB at h
  rw [Bool.and_eq_true, Bool.and_eq_true] at h
  obtain ⟨⟨hn, ho⟩, _⟩ := h
  obtain ⟨b, sr, hs, hb, hop⟩ := sign_shape ho
  obtain ⟨q, hq⟩ := quoteB_head x.2.2
  have e : partRL x ++ r = x.1.data.toList ++ (sgB x.2.1 ++ (quoteB x.2.2 ++ r)) := by simp [partRL]
  have hidx : Lib.indexAny (partRL x ++ r) sgL = (x.1.data.toList.length : Int) := by
    rw [e]
    refine Lib.indexAny_hit (noAny_name hn _) (x := b) ?_ hb
    rw [List.getElem?_append_right (Nat.le_refl _), Nat.sub_self, hs]
    rfl
  have hd : (partRL x ++ r).drop x.1.data.toList.length = sgB x.2.1 ++ (quoteB x.2.2 ++ r) := by rw [e, List.drop_left]
  have ht : (partRL x ++ r).take x.1.data.toList.length = x.1.data.toList := by rw [e, List.take_left]
  have hopr : opR (sgB x.2.1 ++ (quoteB x.2.2 ++ r)) = x.2.1 := by rw [hq]; exact hop (q ++ r)
  have hu : unqL ((sgB x.2.1 ++ (quoteB x.2.2 ++ r)).drop (sgB x.2.1).length) = (x.2.2.data.toList, (quoteB x.2.2).length) := by
    rw [List.drop_left, unqL_back]
  have hmk : mkR x.1.data.toList x.2.1 x.2.2.data.toList = x := by obtain ⟨n, o, v⟩ := x; cases n; cases v; rfl
  unfold partR
  rw [hidx, if_neg (by omega), Int.toNat_natCast]
  unfold ruleAt
  rw [hd, ht, hopr, hu, hmk, if_neg ?_]
  · simp [partRL]; omega
  · rintro (h1 | h1)
    · rw [hq] at h1; simp at h1
    · rw [h0] at h1; cases h1
theorem join_tail (x : List UInt8) (l : List (List UInt8)) : Lib.join (x :: l) [44] = x ++ Lib.joinTail [44] l := Lib.join_cons ..
theorem go_back2 (bh : List UInt8) : ∀ (l : List Rp) (x : Rp) (f at_ : Nat) (acc : List Rp), f + acc.length = 17 → acc.length + (l.length + 1) ≤ 16 → (∀ y ∈ x :: l, ruleB y = true) →
    parseGo f (partRL x ++ (Lib.joinTail [44] (l.map partRL) ++ 125 :: bh)) at_ acc = (acc ++ x :: l, at_ + (partRL x).length + (Lib.joinTail [44] (l.map partRL)).length + 1)
  | [], x, f, at_, acc, hf, hc, hr => by
    obtain ⟨f, rfl⟩ : ∃ g, f = g + 1 := ⟨f - 1, by simp at hc; omega⟩
    have hp := partR_back (hr x (by simp)) (Lib.joinTail [44] ([] : List (List UInt8)) ++ 125 :: bh)
    rw [parseGo, List.map_nil, hp]
    have hpos : 0 < (partRL x).length := by obtain ⟨q, hq⟩ := quoteB_head x.2.2; simp [partRL, hq]; omega
    have hneg : ¬ ((x, (partRL x).length).2 = 0 ∨ acc.length = 16) := by
      rintro (h | h)
      · have h9 : (partRL x).length = 0 := h
        omega
      · have h9 : acc.length = 16 := h
        omega
    rw [if_neg hneg]
    have e : (partRL x ++ (Lib.joinTail [44] ([] : List (List UInt8)) ++ 125 :: bh)).drop (partRL x).length = 125 :: bh := by rw [List.drop_left]; rfl
    show (if Lib.hasPrefix ((partRL x ++ (Lib.joinTail [44] ([] : List (List UInt8)) ++ 125 :: bh)).drop (partRL x).length) [125] = true then _ else _) = _
    rw [e, if_pos (by simp [Lib.hasPrefix, List.isPrefixOf])]
    simp [Lib.joinTail]
  | y :: l, x, f, at_, acc, hf, hc, hr => by
    obtain ⟨f, rfl⟩ : ∃ g, f = g + 1 := ⟨f - 1, by simp at hc; omega⟩
    have hp := partR_back (hr x (by simp)) (Lib.joinTail [44] ((y :: l).map partRL) ++ 125 :: bh)
    have hj : Lib.joinTail [44] ((y :: l).map partRL) = 44 :: (partRL y ++ Lib.joinTail [44] (l.map partRL)) := by simp [Lib.joinTail]
    rw [parseGo, hp]
    have hpos : 0 < (partRL x).length := by obtain ⟨q, hq⟩ := quoteB_head x.2.2; simp [partRL, hq]; omega
    have hneg : ¬ ((x, (partRL x).length).2 = 0 ∨ acc.length = 16) := by
      rintro (h | h)
      · have h9 : (partRL x).length = 0 := h
        omega
      · have h9 : acc.length = 16 := h
        omega
    rw [if_neg hneg]
    have e : (partRL x ++ (Lib.joinTail [44] ((y :: l).map partRL) ++ 125 :: bh)).drop (partRL x).length = 44 :: (partRL y ++ (Lib.joinTail [44] (l.map partRL) ++ 125 :: bh)) := by rw [List.drop_left, hj]; simp
    have e1 : (partRL x ++ (Lib.joinTail [44] ((y :: l).map partRL) ++ 125 :: bh)).drop ((partRL x).length + 1) = partRL y ++ (Lib.joinTail [44] (l.map partRL) ++ 125 :: bh) := by rw [← List.drop_drop, e]; rfl
    show (if Lib.hasPrefix ((partRL x ++ (Lib.joinTail [44] ((y :: l).map partRL) ++ 125 :: bh)).drop (partRL x).length) [125] = true then _ else if Lib.hasPrefix ((partRL x ++ (Lib.joinTail [44] ((y :: l).map partRL) ++ 125 :: bh)).drop (partRL x).length) [44] = true then parseGo f ((partRL x ++ (Lib.joinTail [44] ((y :: l).map partRL) ++ 125 :: bh)).drop ((partRL x).length + 1)) (at_ + (partRL x).length + 1) (acc ++ [x]) else _) = _
    rw [e, e1, if_neg (by simp [Lib.hasPrefix, List.isPrefixOf]), if_pos (by simp [Lib.hasPrefix, List.isPrefixOf])]
    rw [go_back2 bh l y f _ _ (by rw [List.length_append]; simp; omega) (by rw [List.length_append]; simp at hc ⊢; omega) (fun z hz => hr z (by simp at hz ⊢; exact .inr hz)), hj]
    simp
    omega
theorem parse_back {l : List Rp} (h : rulesL l = true) (bh : List UInt8) : parseB (textR l ++ bh) = (l, (textR l).length) := by
  unfold rulesL at h
  rw [Bool.and_eq_true, decide_eq_true_eq] at h
  obtain ⟨hl, hr⟩ := h
  rw [List.all_eq_true] at hr
  cases l with
  | nil =>
    have e : textR [] ++ bh = 123 :: 125 :: bh := by simp [textR, Lib.join]
    rw [e]
    unfold parseB
    rw [if_pos (by simp [Lib.hasPrefix, List.isPrefixOf])]
    simp [textR, Lib.join]
  | cons x l =>
    have e : textR (x :: l) ++ bh = 123 :: (partRL x ++ (Lib.joinTail [44] (l.map partRL) ++ 125 :: bh)) := by
      unfold textR
      rw [List.map_cons, join_tail]
      simp
    rw [e]
    have hx := hr x (by simp)
    have hne : Lib.hasPrefix (123 :: (partRL x ++ (Lib.joinTail [44] (l.map partRL) ++ 125 :: bh))) [123, 125] = false := by
      have hn : nameB x.1 = true := by
        unfold ruleB at hx
        rw [Bool.and_eq_true, Bool.and_eq_true] at hx
        exact hx.1.1
      have h1 : 1 ≤ x.1.size := by
        unfold nameB at hn
        rw [Bool.and_eq_true, Bool.and_eq_true, decide_eq_true_eq] at hn
        exact hn.1.1
      have hll : x.1.data.toList.length = x.1.size := by simp
      cases hd : x.1.data.toList with
      | nil => rw [hd] at hll; simp at hll; omega
      | cons c r =>
        have hc := nameB_nch hn 0 c (by rw [hd]; rfl)
        have hc2 : ((125 : UInt8) == c) = false := by
          rw [beq_eq_false_iff_ne]
          rintro rfl
          revert hc; decide
        simp [partRL, hd, Lib.hasPrefix, List.isPrefixOf, hc2]
    unfold parseB
    rw [if_neg (by rw [hne]; decide), if_pos (by simp [Lib.hasPrefix, List.isPrefixOf]), List.drop_succ_cons, List.drop_zero]
    rw [go_back2 bh l x 17 1 [] rfl (by simpa using hl) hr]
    unfold textR
    rw [List.map_cons, join_tail]
    simp
    omega
end Go.Proofs.YtcmpenmaphmifaaGreatDoor
namespace Go.Proofs.YtcmpenmaphmifaaGreatDoor

/-- What stands ahead of the first byte c. -/
def cutB (c : UInt8) : List UInt8 → List UInt8
  | [] => []
  | x :: r => if x = c then [] else x :: cutB c r
theorem cutB_no (c : UInt8) : ∀ s, ∀ y ∈ cutB c s, y ≠ c
  | [], _, h => by cases h
  | x :: r, y, h => by
    unfold cutB at h
    by_cases hx : x = c
    · rw [if_pos hx] at h; cases h
    · rw [if_neg hx] at h
      rcases List.mem_cons.1 h with rfl | h
      · exact hx
      · exact cutB_no c r y h
theorem cutB_at (c : UInt8) : ∀ s, (c ∈ s ∧ ∃ r, s = cutB c s ++ c :: r) ∨ (c ∉ s ∧ cutB c s = s)
  | [] => .inr ⟨by simp, rfl⟩
  | x :: r => by
    unfold cutB
    by_cases hx : x = c
    · subst hx
      exact .inl ⟨List.mem_cons_self, r, by rw [if_pos rfl]; rfl⟩
    · rw [if_neg hx]
      rcases cutB_at c r with ⟨h1, r2, h2⟩ | ⟨h1, h2⟩
      · exact .inl ⟨List.mem_cons_of_mem _ h1, r2, by rw [List.cons_append, ← h2]⟩
      · exact .inr ⟨fun h => (List.mem_cons.1 h).elim (fun e => hx e.symm) h1, by rw [h2]⟩
theorem cutB_app (c : UInt8) : ∀ (d : List UInt8) (r : List UInt8), (∀ y ∈ d, y ≠ c) → (r = [] ∨ ∃ r2, r = c :: r2) → cutB c (d ++ r) = d
  | [], r, _, hr => by
    rcases hr with rfl | ⟨r2, rfl⟩
    · rfl
    · simp [cutB]
  | x :: d, r, h, hr => by
    have ih := cutB_app c d r (fun y hy => h y (List.mem_cons_of_mem _ hy)) hr
    have hx := h x List.mem_cons_self
    rw [List.cons_append]
    unfold cutB
    rw [if_neg hx, ih]
theorem cut_one (c : UInt8) (s : List UInt8) : (Lib.cut s [c]).1 = cutB c s ∧ (Lib.cut s [c]).2.2 = decide (c ∈ s) := by
  have hn := cutB_no c s
  rcases cutB_at c s with ⟨h1, r, h2⟩ | ⟨h1, h2⟩
  · have hi : Lib.index s [c] = ((cutB c s).length : Int) := by
      rw [Lib.index_one]
      conv => lhs; rw [h2]
      exact indexByte_at c r _ hn
    unfold Lib.cut
    rw [hi, if_pos (by omega)]
    refine ⟨?_, by simp [h1]⟩
    simp only [Int.toNat_natCast]
    have h4 := congrArg (List.take (cutB c s).length) h2
    rwa [List.take_left' rfl] at h4
  · have hi : Lib.index s [c] = -1 := by
      rw [Lib.index_one]
      rw [h2] at hn
      exact indexByte_not c s hn
    unfold Lib.cut
    rw [hi, if_neg (by omega)]
    exact ⟨h2.symm, by simp [h1]⟩
theorem cutB_len (c : UInt8) : ∀ s, (cutB c s).length ≤ s.length
  | [] => Nat.le_refl _
  | x :: r => by
    have ih := cutB_len c r
    unfold cutB
    split
    · simp
    · simp; omega
/-- The digits with which a text begins. -/
def runB : List UInt8 → List UInt8
  | [] => []
  | x :: r => if 48 ≤ x.toNat ∧ x.toNat ≤ 57 then x :: runB r else []
theorem runB_app : ∀ (d r : List UInt8), (∀ y ∈ d, 48 ≤ y.toNat ∧ y.toNat ≤ 57) → (r = [] ∨ ∃ x r2, r = x :: r2 ∧ ¬ (48 ≤ x.toNat ∧ x.toNat ≤ 57)) → runB (d ++ r) = d
  | [], r, _, hr => by
    rcases hr with rfl | ⟨x, r2, rfl, hx⟩
    · rfl
    · simp only [List.nil_append, runB]
      rw [if_neg hx]
  | x :: d, r, h, hr => by
    have ih := runB_app d r (fun y hy => h y (List.mem_cons_of_mem _ hy)) hr
    rw [List.cons_append]
    unfold runB
    rw [if_pos (h x List.mem_cons_self), ih]
theorem runB_dig : ∀ s, ∀ y ∈ runB s, 48 ≤ y.toNat ∧ y.toNat ≤ 57
  | [], _, h => by cases h
  | x :: r, y, h => by
    unfold runB at h
    by_cases hx : 48 ≤ x.toNat ∧ x.toNat ≤ 57
    · rw [if_pos hx] at h
      rcases List.mem_cons.1 h with rfl | h
      · exact hx
      · exact runB_dig r y h
    · rw [if_neg hx] at h; cases h
theorem runB_pre : ∀ s, ∃ r, s = runB s ++ r
  | [] => ⟨[], rfl⟩
  | x :: r => by
    obtain ⟨r2, h2⟩ := runB_pre r
    unfold runB
    split
    · exact ⟨r2, by rw [List.cons_append, ← h2]⟩
    · exact ⟨x :: r, rfl⟩
/-- The number whose text a text is. -/
def numOf (d : List UInt8) : Option Int :=
  match Lib.parseIntB 64 d with
  | .ok v => if Lib.itoa v = d then some v else none
  | _ => none
theorem numOf_some {d : List UInt8} {v : Int} (h : numOf d = some v) : d = Lib.itoa v ∧ -9223372036854775808 ≤ v ∧ v ≤ 9223372036854775807 ∧ Lib.parseIntB 64 d = .ok v := by
  unfold numOf at h
  split at h
  · rename_i u hu
    have hb := Lib.parseIntB_bounds hu
    split at h
    · rename_i he
      cases h
      exact ⟨he.symm, by omega, by omega, hu⟩
    · cases h
  · cases h
theorem parse_dec63 (n : Nat) (hn : n ≤ 9223372036854775807) : Lib.parseIntB 64 (dec n) = .ok (n : Int) := by
  have hne : dec n ≠ [] := fun e => by have := dec_pos n; rw [e] at this; simp at this
  obtain ⟨x, r, e⟩ := List.exists_cons_of_ne_nil hne
  have hx := dec_digit n x (by rw [e]; exact List.mem_cons_self)
  have hu : Lib.parseUintB 64 (x :: r) = .ok n := by
    unfold Lib.parseUintB
    rw [if_neg (by simp), ← e]
    have := parseUintM_app (2 ^ 64 - 1) (by decide) n (by omega) []
    rw [List.append_nil] at this
    rw [this]
    rfl
  rw [e]
  unfold Lib.parseIntB
  simp only
  rw [if_neg (by omega), hu]
  simp only
  rw [if_neg (by omega), if_neg (by omega), if_neg (by omega)]
theorem itoa_nat (n : Nat) : Lib.itoa (n : Int) = dec n := by rw [itoa_pos (by omega)]; rfl
theorem numOf_dec (n : Nat) (hn : n ≤ 9223372036854775807) : numOf (dec n) = some (n : Int) := by
  unfold numOf
  rw [parse_dec63 n hn]
  simp only
  rw [if_pos (itoa_nat n)]
def numA : List UInt8 → Option (Int × Nat)
  | [] => none
  | x :: r => if x = 32 then (numOf (cutB 32 r)).map fun v => (v, 1 + (cutB 32 r).length) else none
def numZ : List UInt8 → Option (Int × Nat)
  | [] => none
  | x :: r => if x = 32 then (numOf (runB r)).map fun v => (v, 1 + (runB r).length) else none
theorem numA_some {t : List UInt8} {v : Int} {u : Nat} (h : numA t = some (v, u)) : ∃ r, t = 32 :: r ∧ numOf (cutB 32 r) = some v ∧ u = 1 + (cutB 32 r).length := by
  cases t with
  | nil => cases h
  | cons x r =>
    unfold numA at h
    simp only at h
    by_cases hx : x = 32
    · rw [if_pos hx] at h
      obtain ⟨y, h1, h2⟩ := Option.map_eq_some_iff.1 h
      cases h2
      exact ⟨r, by rw [hx], h1, rfl⟩
    · rw [if_neg hx] at h; cases h
theorem numZ_some {t : List UInt8} {v : Int} {u : Nat} (h : numZ t = some (v, u)) : ∃ r, t = 32 :: r ∧ numOf (runB r) = some v ∧ u = 1 + (runB r).length := by
  cases t with
  | nil => cases h
  | cons x r =>
    unfold numZ at h
    simp only at h
    by_cases hx : x = 32
    · rw [if_pos hx] at h
      obtain ⟨y, h1, h2⟩ := Option.map_eq_some_iff.1 h
      cases h2
      exact ⟨r, by rw [hx], h1, rfl⟩
    · rw [if_neg hx] at h; cases h
theorem numA_used {t : List UInt8} {v : Int} {u : Nat} (h : numA t = some (v, u)) : 1 ≤ u ∧ u ≤ t.length := by
  obtain ⟨r, rfl, _, h2⟩ := numA_some h
  have := cutB_len 32 r
  rw [List.length_cons]
  omega
def headS (r : List UInt8) : Prop := r = [] ∨ ∃ r2, r = 32 :: r2
theorem dec_no32 (n : Nat) : ∀ y ∈ dec n, y ≠ 32 := fun y hy e => by
  have := dec_digit n y hy
  subst e
  simp at this
theorem AZ_one {t : List UInt8} {v : Int} {u : Nat} (h : numA t = some (v, u)) (hv : 0 ≤ v) : numZ t = some (v, u) := by
  obtain ⟨r, rfl, h1, h2⟩ := numA_some h
  obtain ⟨e, _, v2, _⟩ := numOf_some h1
  obtain ⟨n, rfl⟩ := Int.eq_ofNat_of_zero_le hv
  rw [itoa_nat] at e
  have hrun : runB r = dec n := by
    rcases cutB_at 32 r with ⟨_, r2, h3⟩ | ⟨_, h3⟩
    · rw [h3, e]
      exact runB_app _ _ (dec_digit n) (.inr ⟨32, r2, rfl, by decide⟩)
    · rw [← h3, e]
      have := runB_app (dec n) [] (dec_digit n) (.inl rfl)
      rwa [List.append_nil] at this
  unfold numZ
  simp only
  rw [if_pos trivial, hrun, numOf_dec n (by omega), h2, e]
  rfl
theorem ZA_one {t : List UInt8} {v : Int} {u : Nat} (h : numZ t = some (v, u)) (hs : headS (t.drop u)) : numA t = some (v, u) ∧ 0 ≤ v := by
  obtain ⟨r, rfl, h1, h2⟩ := numZ_some h
  obtain ⟨e, _, v2, _⟩ := numOf_some h1
  have hd := runB_dig r
  have hv : 0 ≤ v := by
    rcases Int.lt_or_le v 0 with h9 | h9
    · rw [e, itoa_neg h9] at hd
      have := hd 45 List.mem_cons_self
      simp at this
    · exact h9
  obtain ⟨n, rfl⟩ := Int.eq_ofNat_of_zero_le hv
  rw [itoa_nat] at e
  obtain ⟨r2, h3⟩ := runB_pre r
  have hr2 : (32 :: r).drop u = r2 := by
    rw [h2, Nat.add_comm, List.drop_succ_cons]
    have h4 := congrArg (List.drop (runB r).length) h3
    rwa [List.drop_left' rfl] at h4
  rw [hr2] at hs
  have hcut : cutB 32 r = dec n := by
    rw [h3, e]
    exact cutB_app 32 _ _ (dec_no32 n) hs
  refine ⟨?_, hv⟩
  unfold numA
  simp only
  rw [if_pos trivial, hcut, numOf_dec n (by omega), h2, e]
  rfl
def readX (f : List UInt8 → Option (Int × Nat)) : Nat → List UInt8 → Option (List Int × List UInt8)
  | 0, t => some ([], t)
  | n + 1, t => match f t with
    | none => none
    | some (v, u) => match readX f n (t.drop u) with
      | none => none
      | some (vs, r) => some (v :: vs, r)
theorem readX_succ {f : List UInt8 → Option (Int × Nat)} {n : Nat} {t : List UInt8} {vs : List Int} {r : List UInt8} (h : readX f (n + 1) t = some (vs, r)) : ∃ v u ws, f t = some (v, u) ∧ readX f n (t.drop u) = some (ws, r) ∧ vs = v :: ws := by
  unfold readX at h
  split at h
  · cases h
  · rename_i v u hf
    split at h
    · cases h
    · rename_i ws r' hr
      cases h
      exact ⟨v, u, ws, hf, hr, rfl⟩
theorem readX_mk {f : List UInt8 → Option (Int × Nat)} {n u : Nat} {t : List UInt8} {v : Int} {ws : List Int} {r : List UInt8} (h1 : f t = some (v, u)) (h2 : readX f n (t.drop u) = some (ws, r)) : readX f (n + 1) t = some (v :: ws, r) := by
  unfold readX
  rw [h1]
  simp only
  rw [h2]
theorem readX_len {f : List UInt8 → Option (Int × Nat)} : ∀ {n : Nat} {t : List UInt8} {vs : List Int} {r : List UInt8}, readX f n t = some (vs, r) → vs.length = n
  | 0, t, vs, r, h => by cases h; rfl
  | n + 1, t, vs, r, h => by
    obtain ⟨v, u, ws, _, h2, rfl⟩ := readX_succ h
    rw [List.length_cons, readX_len h2]
theorem readX_le : ∀ {n : Nat} {t : List UInt8} {vs : List Int} {r : List UInt8}, readX numA n t = some (vs, r) → ∀ v ∈ vs, v ≤ 9223372036854775807
  | 0, t, vs, r, h, v, hv => by cases h; cases hv
  | n + 1, t, vs, r, h, v, hv => by
    obtain ⟨v', u, ws, h1, h2, rfl⟩ := readX_succ h
    rcases List.mem_cons.1 hv with rfl | hv
    · obtain ⟨r', _, h3, _⟩ := numA_some h1
      exact (numOf_some h3).2.2.1
    · exact readX_le h2 v hv
theorem getD_le {vs : List Int} (h : ∀ v ∈ vs, v ≤ 9223372036854775807) (k : Nat) : vs.getD k 0 ≤ 9223372036854775807 := by
  rw [List.getD_eq_getElem?_getD]
  by_cases hk : k < vs.length
  · rw [List.getElem?_eq_getElem hk]
    exact h _ (List.getElem_mem hk)
  · rw [List.getElem?_eq_none (by omega)]
    simp
theorem read_AZ : ∀ (n : Nat) (t : List UInt8) (vs : List Int) (r : List UInt8), readX numA n t = some (vs, r) → (∀ v ∈ vs, 0 ≤ v) → readX numZ n t = some (vs, r)
  | 0, t, vs, r, h, _ => h
  | n + 1, t, vs, r, h, hv => by
    obtain ⟨v, u, ws, h1, h2, rfl⟩ := readX_succ h
    exact readX_mk (AZ_one h1 (hv v List.mem_cons_self)) (read_AZ n _ _ _ h2 fun x hx => hv x (List.mem_cons_of_mem _ hx))
theorem read_ZA : ∀ (n : Nat) (t : List UInt8) (vs : List Int) (r : List UInt8), readX numZ n t = some (vs, r) → headS r → readX numA n t = some (vs, r)
  | 0, t, vs, r, h, _ => h
  | n + 1, t, vs, r, h, hs => by
    obtain ⟨v, u, ws, h1, h2, rfl⟩ := readX_succ h
    have hh : headS (t.drop u) := by
      cases n with
      | zero => cases h2; exact hs
      | succ m =>
        obtain ⟨v', u', ws', h3, _, _⟩ := readX_succ h2
        obtain ⟨r', h4, _⟩ := numZ_some h3
        exact .inr ⟨r', h4⟩
    exact readX_mk (ZA_one h1 hh).1 (read_ZA n _ _ _ h2 hs)
def mkQ (op : Int) (rs : List Rp) (vs : List Int) (r : List UInt8) : Qr := ⟨op, rs, vs.getD 0 0, vs.getD 1 0, vs.getD 2 0, r == notesL⟩
def endQ (op : Int) (rs : List Rp) : Option (List Int × List UInt8) → Qr × Int
  | none => (Qr.zero, 90)
  | some (vs, r) => if (r = notesL ∨ r = []) ∧ rightQ (mkQ op rs vs r) = true then (mkQ op rs vs r, 0) else (Qr.zero, 90)
def kQ (op : Int) : Nat := if op = 0 then 2 else 3
theorem step_pos {op fr to_ st : Int} (h1 : 1 ≤ op) (h2 : op ≤ 5) (hs : spanB fr to_ = true) (h : stepQ op fr to_ st = true) : 1 ≤ st := by
  unfold stepQ at h
  rw [if_neg (by omega), win_nil h1 h2 hs] at h
  by_cases h9 : st < 1
  · rw [if_pos h9] at h; simp at h
  · omega
theorem right_nonneg {op : Int} {rs : List Rp} {vs : List Int} {r : List UInt8} (hl : vs.length = kQ op) (h : rightQ (mkQ op rs vs r) = true) : ∀ v ∈ vs, 0 ≤ v := by
  unfold rightQ at h
  simp only [Bool.and_eq_true] at h
  obtain ⟨ho, _, hs, hst⟩ := h
  have ho' : 0 ≤ op ∧ op < 6 := by simpa [opQ, mkQ] using ho
  have hs' := hs
  simp only [spanB, mkQ, Bool.and_eq_true] at hs'
  by_cases h0 : op = 0
  · have e : kQ op = 2 := if_pos h0
    rw [e] at hl
    match vs, hl with
    | [a, b], _ =>
      simp at hs'
      intro v hv
      simp at hv
      rcases hv with rfl | rfl <;> omega
  · have e : kQ op = 3 := if_neg h0
    rw [e] at hl
    match vs, hl with
    | [a, b, c], _ =>
      have hp := step_pos (op := op) (by omega) (by omega) hs hst
      simp [mkQ] at hp
      simp at hs'
      intro v hv
      simp at hv
      rcases hv with rfl | rfl | rfl <;> omega
theorem end_bad {op : Int} {rs : List Rp} {x : Option (List Int × List UInt8)} (h : ¬ ∃ vs r, x = some (vs, r) ∧ (r = notesL ∨ r = []) ∧ rightQ (mkQ op rs vs r) = true) : endQ op rs x = (Qr.zero, 90) := by
  cases x with
  | none => rfl
  | some p =>
    obtain ⟨vs, r⟩ := p
    exact if_neg fun h9 => h ⟨vs, r, rfl, h9⟩
theorem end_same (op : Int) (rs : List Rp) (t : List UInt8) : endQ op rs (readX numA (kQ op) t) = endQ op rs (readX numZ (kQ op) t) := by
  by_cases hA : ∃ vs r, readX numA (kQ op) t = some (vs, r) ∧ (r = notesL ∨ r = []) ∧ rightQ (mkQ op rs vs r) = true
  · obtain ⟨vs, r, h1, h2, h3⟩ := hA
    rw [h1, read_AZ _ _ _ _ h1 (right_nonneg (readX_len h1) h3)]
  · by_cases hZ : ∃ vs r, readX numZ (kQ op) t = some (vs, r) ∧ (r = notesL ∨ r = []) ∧ rightQ (mkQ op rs vs r) = true
    · obtain ⟨vs, r, h1, h2, h3⟩ := hZ
      exact absurd ⟨vs, r, read_ZA _ _ _ _ h1 (h2.elim (fun e => .inr ⟨_, e⟩) .inl), h2, h3⟩ hA
    · rw [end_bad hA, end_bad hZ]
def opA (w : List UInt8) : Option Int :=
  if w = wordQ 0 then some 0 else if w = wordQ 1 then some 1 else if w = wordQ 2 then some 2 else if w = wordQ 3 then some 3 else if w = wordQ 4 then some 4 else if w = wordQ 5 then some 5 else none
def tailQ (f : List UInt8 → Option (Int × Nat)) (t wd : List UInt8) : Option Int → Qr × Int
  | none => (Qr.zero, 90)
  | some op => if 123 ∈ t then (if (parseB (t.drop wd.length)).2 = 0 then (Qr.zero, 50)
      else endQ op (parseB (t.drop wd.length)).1 (readX f (kQ op) (t.drop (wd.length + (parseB (t.drop wd.length)).2))))
    else (Qr.zero, 90)
def parseQ (f : List UInt8 → Option (Int × Nat)) (t : List UInt8) : Qr × Int :=
  if 4096 < t.length then (Qr.zero, 8) else tailQ f t (cutB 123 t) (opA (cutB 123 t))
theorem parse_sameQ (t : List UInt8) : parseQ numA t = parseQ numZ t := by
  unfold parseQ
  split
  · rfl
  · cases opA (cutB 123 t) with
    | none => rfl
    | some op =>
      unfold tailQ
      simp only
      split
      · split
        · rfl
        · exact end_same _ _ _
      · rfl
theorem opA_range {w : List UInt8} {op : Int} (h : opA w = some op) : w = wordQ op ∧ 0 ≤ op ∧ op ≤ 5 := by
  unfold opA at h
  split at h
  · cases h; exact ⟨by assumption, by decide, by decide⟩
  split at h
  · cases h; exact ⟨by assumption, by decide, by decide⟩
  split at h
  · cases h; exact ⟨by assumption, by decide, by decide⟩
  split at h
  · cases h; exact ⟨by assumption, by decide, by decide⟩
  split at h
  · cases h; exact ⟨by assumption, by decide, by decide⟩
  split at h
  · cases h; exact ⟨by assumption, by decide, by decide⟩
  · cases h
theorem hasPrefix_drop {l : List UInt8} {n : Nat} {c : UInt8} (h : Lib.hasPrefix (l.drop n) [c] = true) : n + 1 ≤ l.length := by
  have h1 := (List.isPrefixOf_iff_prefix.1 h).length_le
  rw [List.length_drop] at h1
  simp at h1
  omega
theorem parseGo_used : ∀ (f : Nat) (t : List UInt8) (at_ : Nat) (acc : List Rp), (parseGo f t at_ acc).2 ≤ at_ + t.length
  | 0, _, _, _ => Nat.zero_le _
  | f + 1, t, at_, acc => by
    rw [parseGo]
    split
    · exact Nat.zero_le _
    split
    · rename_i h
      have := hasPrefix_drop h
      simp only
      omega
    split
    · rename_i h
      have h1 := hasPrefix_drop h
      have h2 := parseGo_used f (t.drop ((partR t).2 + 1)) (at_ + (partR t).2 + 1) (acc ++ [(partR t).1])
      rw [List.length_drop] at h2
      omega
    · exact Nat.zero_le _
theorem parseB_used (t : List UInt8) : (parseB t).2 ≤ t.length := by
  unfold parseB
  split
  · rename_i h
    have h1 := (List.isPrefixOf_iff_prefix.1 h).length_le
    simpa using h1
  split
  · rename_i h
    have h1 := (List.isPrefixOf_iff_prefix.1 h).length_le
    have h2 := parseGo_used 17 (t.drop 1) 1 []
    rw [List.length_drop] at h2
    simp at h1
    omega
  · exact Nat.zero_le _
theorem parseQ_len (f : List UInt8 → Option (Int × Nat)) (t : List UInt8) : (parseQ f t).1.rs.length ≤ 17 := by
  unfold parseQ
  split
  · simp [Qr.zero]
  · cases opA (cutB 123 t) with
    | none => simp [tailQ, Qr.zero]
    | some op =>
      unfold tailQ
      simp only
      split
      · split
        · simp [Qr.zero]
        · have h := parseB_count (t.drop (cutB 123 t).length)
          cases readX f (kQ op) (t.drop ((cutB 123 t).length + (parseB (t.drop (cutB 123 t).length)).2)) with
          | none => simp [endQ, Qr.zero]
          | some p =>
            obtain ⟨vs, r⟩ := p
            unfold endQ
            simp only
            split
            · exact h
            · simp [Qr.zero]
      · simp [Qr.zero]
end Go.Proofs.YtcmpenmaphmifaaGreatDoor
