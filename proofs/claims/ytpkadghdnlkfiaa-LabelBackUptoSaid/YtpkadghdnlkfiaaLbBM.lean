/- A set is read back from its text, and a text that is read is that of what it was read as: the plain mathematics. -/
import Derived.Test.YtpkadghdnlkfiaaLbPa
import Derived.Test.YtpkadghdnlkfiaaLbSM
namespace Go.Proofs.Ytpkadghdnlkfiaa
open Go.RowKit

theorem name_no61 {s : ByteArray} (h : nameB s = true) : ∀ c ∈ s.data.toList, ¬ (c.toNat : Int) = 61 := by
  intro c hc e
  obtain ⟨i, hi, rfl⟩ := List.getElem_of_mem hc
  have hs : i < s.size := by simpa using hi
  have hf : nameC i (byteAt s i) = false := by
    have hb : byteAt s i = 61 := by
      rw [← byteAt_get s i hs]
      exact e
    rw [hb]
    simp [nameC, letN, digN]
  have := nameTo_false hf hs
  simp [nameB, this] at h
theorem nmOf_app : ∀ (a l : List UInt8), (∀ c ∈ a, ¬ (c.toNat : Int) = 61) → nmOf (a ++ 61 :: l) = a ∧ rsOf (a ++ 61 :: l) = l
  | [], l, _ => by
    have : ((61 : UInt8).toNat : Int) = 61 := rfl
    exact ⟨by rw [List.nil_append, nmOf, if_pos this], by rw [List.nil_append, rsOf, if_pos this]⟩
  | c :: a, l, h => by
    have hc := h c (by simp)
    obtain ⟨h1, h2⟩ := nmOf_app a l (fun d hd => h d (by simp [hd]))
    exact ⟨by rw [List.cons_append, nmOf, if_neg hc, h1], by rw [List.cons_append, rsOf, if_neg hc, h2]⟩
theorem unqL_back (s : ByteArray) (t : List UInt8) : unqL (quoteB s ++ t) = (s.data.toList, (quoteB s).length) := by
  have := unq_back s ⟨t.toArray⟩
  unfold unqB at this
  simpa using this
theorem mkP_back (x : Pp) : mkP (x.1.data.toList, x.2.data.toList) = x := rfl
theorem partP_back (x : Pp) (t : List UInt8) (h : ∀ c ∈ x.1.data.toList, ¬ (c.toNat : Int) = 61) : partP (partL x ++ t) = ((x.1.data.toList, x.2.data.toList), (partL x).length) := by
  have e : partL x ++ t = x.1.data.toList ++ 61 :: (quoteB x.2 ++ t) := by simp [partL]
  obtain ⟨h1, h2⟩ := nmOf_app x.1.data.toList (quoteB x.2 ++ t) h
  have hq : (quoteB x.2).length ≠ 0 := by simp [quoteB]
  unfold partP
  rw [e, h1, h2, unqL_back]
  simp only
  rw [if_neg hq]
  simp [partL]
  omega
theorem readGo_text : ∀ (r : List Pp) (x : Pp) (f : Nat) (acc : List Pp), (∀ y ∈ x :: r, ∀ c ∈ y.1.data.toList, ¬ (c.toNat : Int) = 61) → r.length < f →
    readGo f (partL x ++ (Lib.joinTail [44] (r.map partL) ++ [125])) acc = some (acc ++ x :: r)
  | _, _, 0, _, _, hf => by omega
  | r, x, f + 1, acc, h, hf => by
    have hp := partP_back x (Lib.joinTail [44] (r.map partL) ++ [125]) (h x (by simp))
    have hl : (partL x).length ≠ 0 := by simp [partL]
    rw [readGo, hp]
    simp only
    rw [if_neg hl, List.drop_left, mkP_back]
    cases r with
    | nil => rw [if_pos (by rfl)]
    | cons y r =>
      have e : Lib.joinTail [44] ((y :: r).map partL) ++ [125] = 44 :: (partL y ++ (Lib.joinTail [44] (r.map partL) ++ [125])) := by simp [Lib.joinTail]
      have e2 : (partL x ++ (Lib.joinTail [44] ((y :: r).map partL) ++ [125])).drop ((partL x).length + 1) = partL y ++ (Lib.joinTail [44] (r.map partL) ++ [125]) := by
        rw [e, ← List.drop_drop, List.drop_left]; rfl
      rw [e2, e, if_neg (by simp), if_pos (by simp [Lib.hasPrefix]), readGo_text r y f _ (fun z hz => h z (by simp at hz ⊢; exact .inr hz)) (by simp at hf; omega)]
      simp
theorem read_text {l : List Pp} (h : ∀ y ∈ l, ∀ c ∈ y.1.data.toList, ¬ (c.toNat : Int) = 61) : readB (textB l) = some l := by
  cases l with
  | nil => rfl
  | cons x r =>
    have e : textB (x :: r) = 123 :: (partL x ++ (Lib.joinTail [44] (r.map partL) ++ [125])) := by
      unfold textB
      rw [List.map_cons, Lib.join_cons, List.append_assoc]
    have hne : ¬ textB (x :: r) = [123, 125] := by
      rw [e]
      intro h'
      have := congrArg List.length h'
      simp [partL, quoteB] at this
      omega
    unfold readB
    rw [if_neg hne, if_pos (by rw [e]; simp [Lib.hasPrefix]), e, List.drop_succ_cons, List.drop_zero]
    have hj : r.length ≤ (Lib.joinTail [44] (r.map partL)).length := by
      clear e hne h
      induction r with
      | nil => simp
      | cons y r ih =>
        have : Lib.joinTail [44] ((y :: r).map partL) = [44] ++ partL y ++ Lib.joinTail [44] (r.map partL) := by simp [Lib.joinTail]
        rw [this]
        simp
        omega
    exact readGo_text r x _ [] h (by simp; omega)

theorem cut_at : ∀ (l : List UInt8) (i : Nat), Lib.index l [61] = (i : Int) → (h : i < l.length) → l[i] = 61
  | [], i, _, h => by simp at h
  | c :: l, i, hi, h => by
    by_cases hc : c = 61
    · subst hc
      have : Lib.index (61 :: l) [61] = 0 := by simp [Lib.index, List.isPrefixOf]
      rw [this] at hi
      have : i = 0 := by omega
      subst this
      rfl
    · have hne : ¬ (61 : UInt8) = c := fun e => hc e.symm
      have hp : ([61] : List UInt8).isPrefixOf (c :: l) = false := by simp [List.isPrefixOf, hne]
      have e : Lib.index (c :: l) [61] = if Lib.index l [61] == -1 then -1 else Lib.index l [61] + 1 := by
        rw [Lib.index, hp]; simp
      rw [e] at hi
      rcases cut_spec l with ⟨h1, _, _⟩ | ⟨j, h1, _, _, h4⟩
      · rw [h1] at hi
        simp at hi
      · rw [h1, if_neg (by simp)] at hi
        have : i = j + 1 := by omega
        subst this
        simpa using cut_at l j h1 h4
theorem unq_inv : ∀ (k : Nat) (l acc : List UInt8) (n : Nat), l.length ≤ k → (unqGo l false acc n).2 ≠ 0 →
    ∃ x, (unqGo l false acc n).1 = acc ++ x ∧ l = x.flatMap escB ++ 34 :: l.drop ((x.flatMap escB).length + 1) ∧ (unqGo l false acc n).2 = n + ((x.flatMap escB).length + 1)
  | _, [], acc, n, _, h => by simp [unqGo] at h
  | 0, _ :: _, _, _, hk, _ => by simp at hk
  | k + 1, c :: r, acc, n, hk, h => by
    rw [unqGo] at h ⊢
    by_cases h34 : (c.toNat : Int) = 34
    · have hc : c = 34 := UInt8.toNat_inj.1 (by have : (34 : UInt8).toNat = 34 := rfl; omega)
      rw [if_pos h34]
      exact ⟨[], by simp, by rw [hc]; rfl, by simp⟩
    · rw [if_neg h34] at h ⊢
      by_cases h92 : (c.toNat : Int) = 92
      · have hc : c = 92 := UInt8.toNat_inj.1 (by have : (92 : UInt8).toNat = 92 := rfl; omega)
        rw [if_pos h92] at h ⊢
        cases r with
        | nil => simp [unqGo] at h
        | cons d r =>
          rw [unqGo] at h ⊢
          by_cases hg : gN (d.toNat : Int) = true
          · rw [if_pos hg] at h ⊢
            obtain ⟨x, h1, h2, h3⟩ := unq_inv k r (acc ++ [d]) (n + 1 + 1) (by simp at hk; omega) h
            have he : escB d = [92, d] := by rw [escB, if_pos hg]
            refine ⟨d :: x, by rw [h1]; simp, ?_, by rw [h3, List.flatMap_cons, he]; simp; omega⟩
            rw [List.flatMap_cons, he, hc]
            have e : ([92, d] ++ x.flatMap escB).length + 1 = ((x.flatMap escB).length + 1) + 2 := by simp
            rw [e, List.drop_succ_cons, List.drop_succ_cons]
            simp only [List.cons_append, List.nil_append]
            rw [← h2]
          · rw [if_neg hg] at h
            exact absurd rfl h
      · rw [if_neg h92] at h ⊢
        obtain ⟨x, h1, h2, h3⟩ := unq_inv k r (acc ++ [c]) (n + 1) (by simp at hk; omega) h
        have he : escB c = [c] := by rw [escB, if_neg (by simp [gN]; omega)]
        refine ⟨c :: x, by rw [h1]; simp, ?_, by rw [h3, List.flatMap_cons, he]; simp; omega⟩
        rw [List.flatMap_cons, he]
        have e : ([c] ++ x.flatMap escB).length + 1 = ((x.flatMap escB).length + 1) + 1 := by simp
        rw [e, List.drop_succ_cons]
        simp only [List.cons_append, List.nil_append]
        rw [← h2]
theorem unqL_inv {l : List UInt8} (h : (unqL l).2 ≠ 0) : l = quoteB ⟨(unqL l).1.toArray⟩ ++ l.drop (unqL l).2 ∧ (unqL l).2 = (quoteB ⟨(unqL l).1.toArray⟩).length := by
  cases l with
  | nil => exact absurd rfl h
  | cons c r =>
    rw [unqL] at h ⊢
    by_cases h34 : (c.toNat : Int) = 34
    · have hc : c = 34 := UInt8.toNat_inj.1 (by have : (34 : UInt8).toNat = 34 := rfl; omega)
      rw [if_pos h34] at h ⊢
      obtain ⟨x, h1, h2, h3⟩ := unq_inv _ r [] 1 (Nat.le_refl _) h
      rw [List.nil_append] at h1
      have hq : quoteB ⟨x.toArray⟩ = 34 :: (x.flatMap escB ++ [34]) := by
        have : x.take (ByteArray.size ⟨x.toArray⟩) = x := List.take_of_length_le (by simp [ByteArray.size])
        simp [quoteB, quoteTo, this]
      rw [h1, h3, hq]
      refine ⟨?_, by simp; omega⟩
      rw [hc, show 1 + ((x.flatMap escB).length + 1) = ((x.flatMap escB).length + 1) + 1 by omega, List.drop_succ_cons]
      simp only [List.cons_append, List.append_assoc, List.nil_append]
      rw [← h2]
    · rw [if_neg h34] at h
      exact absurd rfl h
theorem partP_inv {l : List UInt8} (h : (partP l).2 ≠ 0) : l = partL (mkP (partP l).1) ++ l.drop (partP l).2 := by
  unfold partP at h ⊢
  by_cases hu : (unqL (rsOf l)).2 = 0
  · rw [if_pos hu] at h
    exact absurd rfl h
  · rw [if_neg hu]
    simp only
    obtain ⟨h1, h2⟩ := unqL_inv hu
    rcases cut_spec l with ⟨_, _, h3⟩ | ⟨i, hi, hn, hr, hlt⟩
    · rw [h3] at hu
      exact absurd rfl hu
    · have hx : l[i]'hlt = 61 := by
        have := cut_at l i hi hlt
        exact this
      have hd : l.drop i = 61 :: rsOf l := by rw [List.drop_eq_getElem_cons hlt, hx, hr]
      have hl : l = nmOf l ++ 61 :: rsOf l := by
        rw [← hd, hn, List.take_append_drop]
      have hnl : (nmOf l).length = i := by rw [hn, List.length_take]; omega
      have hdr : l.drop ((nmOf l).length + 1 + (unqL (rsOf l)).2) = (rsOf l).drop (unqL (rsOf l)).2 := by
        rw [hnl, hr, List.drop_drop]
      rw [hdr]
      have hp : partL (mkP (nmOf l, (unqL (rsOf l)).1)) = nmOf l ++ [61] ++ quoteB ⟨(unqL (rsOf l)).1.toArray⟩ := rfl
      rw [hp, List.append_assoc, ← h1]
      simpa using hl
theorem readGo_inv : ∀ (f : Nat) (l : List UInt8) (acc m : List Pp), readGo f l acc = some m → ∃ r, r ≠ [] ∧ m = acc ++ r ∧ l = Lib.join (r.map partL) [44] ++ [125]
  | 0, _, _, _, h => by simp [readGo] at h
  | f + 1, l, acc, m, h => by
    rw [readGo] at h
    split at h
    · cases h
    · rename_i h0
      have hp := partP_inv h0
      split at h
      · rename_i h1
        injection h with h
        refine ⟨[mkP (partP l).1], by simp, h.symm, ?_⟩
        rw [List.map_cons, List.map_nil, Lib.join_one]
        rw [h1] at hp
        exact hp
      · split at h
        · rename_i h2
          obtain ⟨r, hr, hm, hl⟩ := readGo_inv f _ _ m h
          refine ⟨mkP (partP l).1 :: r, by simp, by rw [hm]; simp, ?_⟩
          have hd : l.drop (partP l).2 = 44 :: l.drop ((partP l).2 + 1) := by
            cases hh : l.drop (partP l).2 with
            | nil => rw [hh] at h2; exact absurd h2 (by decide)
            | cons a b =>
              rw [hh] at h2
              have ha : a = 44 := by
                simp [Lib.hasPrefix] at h2
                exact h2.symm
              rw [ha]
              congr 1
              have := congrArg (List.drop 1) hh
              rw [List.drop_drop] at this
              simpa using this.symm
          rw [hd, hl] at hp
          cases r with
          | nil => exact absurd rfl hr
          | cons y r =>
            rw [List.map_cons, Lib.join_cons] at hp ⊢
            rw [List.map_cons]
            have e : Lib.joinTail [44] (partL y :: r.map partL) = 44 :: (partL y ++ Lib.joinTail [44] (r.map partL)) := by simp [Lib.joinTail]
            rw [e, List.append_assoc]
            exact hp
        · cases h
theorem text_read {t : List UInt8} {m : List Pp} (h : readB t = some m) : textB m = t := by
  unfold readB at h
  split at h
  · rename_i h1
    injection h with h
    subst h
    rw [h1]; rfl
  · split at h
    · rename_i h2
      obtain ⟨r, _, hm, hl⟩ := readGo_inv _ _ _ m h
      rw [List.nil_append] at hm
      subst hm
      cases t with
      | nil => exact absurd h2 (by decide)
      | cons a b =>
        have ha : a = 123 := by
          simp [Lib.hasPrefix] at h2
          exact h2.symm
        rw [List.drop_succ_cons, List.drop_zero] at hl
        unfold textB
        rw [← hl, ha]
    · cases h
end Go.Proofs.Ytpkadghdnlkfiaa
