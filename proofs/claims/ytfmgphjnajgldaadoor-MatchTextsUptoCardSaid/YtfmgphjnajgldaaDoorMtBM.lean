/- Right rules are read back from their text: the plain mathematics. -/
import Derived.Test.YtfmgphjnajgldaaDoorMtXM
import Derived.Test.YtfmgphjnajgldaaDoorMtZM
namespace Go.Proofs.YtfmgphjnajgldaaDoor
open Go.RowKit

theorem parseGo_count : ∀ (f : Nat) (t : List UInt8) (at_ : Nat) (acc : List Rp), (parseGo f t at_ acc).1.length ≤ acc.length + f
  | 0, _, _, _ => by simp [parseGo]
  | f + 1, t, at_, acc => by
    rw [parseGo]
    split
    · simp
    split
    · simp
    split
    · have := parseGo_count f (t.drop ((partR t).2 + 1)) (at_ + (partR t).2 + 1) (acc ++ [(partR t).1])
      simp at this ⊢
      omega
    · simp
theorem parseB_count (t : List UInt8) : (parseB t).1.length ≤ 17 := by
  unfold parseB
  split
  · simp
  split
  · have := parseGo_count 17 (t.drop 1) 1 []
    simpa using this
  · simp

theorem noAny_name {s : ByteArray} (h : nameB s = true) (r : List UInt8) : Lib.NoAny (s.data.toList ++ r) sgL s.data.toList.length := fun j b hj hb => by
  rw [List.getElem?_append_left hj] at hb
  exact nch_not (nameB_nch h j b hb)
theorem sign_shape {o : Int} (h : opB o = true) : ∃ b r, sgB o = b :: r ∧ sgL.contains b = true ∧ ∀ q, opR (sgB o ++ 34 :: q) = o := by
  have h4 : o = 1 ∨ o = 2 ∨ o = 3 ∨ o = 4 := by simp [opB] at h; omega
  rcases h4 with rfl | rfl | rfl | rfl
  · exact ⟨61, [], rfl, rfl, fun q => by simp [sgB, opR, Lib.hasPrefix, List.isPrefixOf]⟩
  · exact ⟨33, [61], rfl, rfl, fun q => by simp [sgB, opR, Lib.hasPrefix, List.isPrefixOf]⟩
  · exact ⟨94, [61], rfl, rfl, fun q => by simp [sgB, opR, Lib.hasPrefix, List.isPrefixOf]⟩
  · exact ⟨42, [61], rfl, rfl, fun q => by simp [sgB, opR, Lib.hasPrefix, List.isPrefixOf]⟩
theorem quoteB_head (v : ByteArray) : ∃ q, quoteB v = 34 :: q := ⟨_, rfl⟩
theorem unqL_back (v : ByteArray) (r : List UInt8) : unqL (quoteB v ++ r) = (v.data.toList, (quoteB v).length) := by
  have h := unq_back v ⟨r.toArray⟩
  unfold unqB at h
  have e : (⟨(quoteB v).toArray⟩ ++ ⟨r.toArray⟩ : ByteArray).data.toList = quoteB v ++ r := by simp
  rw [e] at h
  exact h
theorem partR_back {x : Rp} (h : ruleB x = true) (r : List UInt8) : partR (partRL x ++ r) = (x, (partRL x).length) := by
  have h0 := h
  unfold ruleB at h
  rw [Bool.and_eq_true, Bool.and_eq_true] at h
  obtain ⟨⟨hn, ho⟩, _⟩ := h
  obtain ⟨b, sr, hs, hb, hop⟩ := sign_shape ho
  obtain ⟨q, hq⟩ := quoteB_head x.2.2
  have e : partRL x ++ r = x.1.data.toList ++ (sgB x.2.1 ++ (quoteB x.2.2 ++ r)) := by simp [partRL]
  have hidx : Lib.indexAny (partRL x ++ r) sgL = (x.1.data.toList.length : Int) := by
    rw [e]
    refine Lib.indexAny_hit (noAny_name hn _) (x := b) ?_ hb
    rw [List.getElem?_append_right (Nat.le_refl _), Nat.sub_self, hs]
    rfl
  have hd : (partRL x ++ r).drop x.1.data.toList.length = sgB x.2.1 ++ (quoteB x.2.2 ++ r) := by rw [e, List.drop_left]
  have ht : (partRL x ++ r).take x.1.data.toList.length = x.1.data.toList := by rw [e, List.take_left]
  have hopr : opR (sgB x.2.1 ++ (quoteB x.2.2 ++ r)) = x.2.1 := by rw [hq]; exact hop (q ++ r)
  have hu : unqL ((sgB x.2.1 ++ (quoteB x.2.2 ++ r)).drop (sgB x.2.1).length) = (x.2.2.data.toList, (quoteB x.2.2).length) := by
    rw [List.drop_left, unqL_back]
  have hmk : mkR x.1.data.toList x.2.1 x.2.2.data.toList = x := by obtain ⟨n, o, v⟩ := x; cases n; cases v; rfl
  unfold partR
  rw [hidx, if_neg (by omega), Int.toNat_natCast]
  unfold ruleAt
  rw [hd, ht, hopr, hu, hmk, if_neg ?_]
  · simp [partRL]; omega
  · rintro (h1 | h1)
    · rw [hq] at h1; simp at h1
    · rw [h0] at h1; cases h1
theorem join_tail (x : List UInt8) (l : List (List UInt8)) : Lib.join (x :: l) [44] = x ++ Lib.joinTail [44] l := Lib.join_cons ..
theorem go_back2 (bh : List UInt8) : ∀ (l : List Rp) (x : Rp) (f at_ : Nat) (acc : List Rp), f + acc.length = 17 → acc.length + (l.length + 1) ≤ 16 → (∀ y ∈ x :: l, ruleB y = true) →
    parseGo f (partRL x ++ (Lib.joinTail [44] (l.map partRL) ++ 125 :: bh)) at_ acc = (acc ++ x :: l, at_ + (partRL x).length + (Lib.joinTail [44] (l.map partRL)).length + 1)
  | [], x, f, at_, acc, hf, hc, hr => by
    obtain ⟨f, rfl⟩ : ∃ g, f = g + 1 := ⟨f - 1, by simp at hc; omega⟩
    have hp := partR_back (hr x (by simp)) (Lib.joinTail [44] ([] : List (List UInt8)) ++ 125 :: bh)
    rw [parseGo, List.map_nil, hp]
    have hpos : 0 < (partRL x).length := by obtain ⟨q, hq⟩ := quoteB_head x.2.2; simp [partRL, hq]; omega
    have hneg : ¬ ((x, (partRL x).length).2 = 0 ∨ acc.length = 16) := by
      rintro (h | h)
      · have h9 : (partRL x).length = 0 := h
        omega
      · have h9 : acc.length = 16 := h
        omega
    rw [if_neg hneg]
    have e : (partRL x ++ (Lib.joinTail [44] ([] : List (List UInt8)) ++ 125 :: bh)).drop (partRL x).length = 125 :: bh := by rw [List.drop_left]; rfl
    show (if Lib.hasPrefix ((partRL x ++ (Lib.joinTail [44] ([] : List (List UInt8)) ++ 125 :: bh)).drop (partRL x).length) [125] = true then _ else _) = _
    rw [e, if_pos (by simp [Lib.hasPrefix, List.isPrefixOf])]
    simp [Lib.joinTail]
  | y :: l, x, f, at_, acc, hf, hc, hr => by
    obtain ⟨f, rfl⟩ : ∃ g, f = g + 1 := ⟨f - 1, by simp at hc; omega⟩
    have hp := partR_back (hr x (by simp)) (Lib.joinTail [44] ((y :: l).map partRL) ++ 125 :: bh)
    have hj : Lib.joinTail [44] ((y :: l).map partRL) = 44 :: (partRL y ++ Lib.joinTail [44] (l.map partRL)) := by simp [Lib.joinTail]
    rw [parseGo, hp]
    have hpos : 0 < (partRL x).length := by obtain ⟨q, hq⟩ := quoteB_head x.2.2; simp [partRL, hq]; omega
    have hneg : ¬ ((x, (partRL x).length).2 = 0 ∨ acc.length = 16) := by
      rintro (h | h)
      · have h9 : (partRL x).length = 0 := h
        omega
      · have h9 : acc.length = 16 := h
        omega
    rw [if_neg hneg]
    have e : (partRL x ++ (Lib.joinTail [44] ((y :: l).map partRL) ++ 125 :: bh)).drop (partRL x).length = 44 :: (partRL y ++ (Lib.joinTail [44] (l.map partRL) ++ 125 :: bh)) := by rw [List.drop_left, hj]; simp
    have e1 : (partRL x ++ (Lib.joinTail [44] ((y :: l).map partRL) ++ 125 :: bh)).drop ((partRL x).length + 1) = partRL y ++ (Lib.joinTail [44] (l.map partRL) ++ 125 :: bh) := by rw [← List.drop_drop, e]; rfl
    show (if Lib.hasPrefix ((partRL x ++ (Lib.joinTail [44] ((y :: l).map partRL) ++ 125 :: bh)).drop (partRL x).length) [125] = true then _ else if Lib.hasPrefix ((partRL x ++ (Lib.joinTail [44] ((y :: l).map partRL) ++ 125 :: bh)).drop (partRL x).length) [44] = true then parseGo f ((partRL x ++ (Lib.joinTail [44] ((y :: l).map partRL) ++ 125 :: bh)).drop ((partRL x).length + 1)) (at_ + (partRL x).length + 1) (acc ++ [x]) else _) = _
    rw [e, e1, if_neg (by simp [Lib.hasPrefix, List.isPrefixOf]), if_pos (by simp [Lib.hasPrefix, List.isPrefixOf])]
    rw [go_back2 bh l y f _ _ (by rw [List.length_append]; simp; omega) (by rw [List.length_append]; simp at hc ⊢; omega) (fun z hz => hr z (by simp at hz ⊢; exact .inr hz)), hj]
    simp
    omega
theorem parse_back {l : List Rp} (h : rulesL l = true) (bh : List UInt8) : parseB (textR l ++ bh) = (l, (textR l).length) := by
  unfold rulesL at h
  rw [Bool.and_eq_true, decide_eq_true_eq] at h
  obtain ⟨hl, hr⟩ := h
  rw [List.all_eq_true] at hr
  cases l with
  | nil =>
    have e : textR [] ++ bh = 123 :: 125 :: bh := by simp [textR, Lib.join]
    rw [e]
    unfold parseB
    rw [if_pos (by simp [Lib.hasPrefix, List.isPrefixOf])]
    simp [textR, Lib.join]
  | cons x l =>
    have e : textR (x :: l) ++ bh = 123 :: (partRL x ++ (Lib.joinTail [44] (l.map partRL) ++ 125 :: bh)) := by
      unfold textR
      rw [List.map_cons, join_tail]
      simp
    rw [e]
    have hx := hr x (by simp)
    have hne : Lib.hasPrefix (123 :: (partRL x ++ (Lib.joinTail [44] (l.map partRL) ++ 125 :: bh))) [123, 125] = false := by
      have hn : nameB x.1 = true := by
        unfold ruleB at hx
        rw [Bool.and_eq_true, Bool.and_eq_true] at hx
        exact hx.1.1
      have h1 : 1 ≤ x.1.size := by
        unfold nameB at hn
        rw [Bool.and_eq_true, Bool.and_eq_true, decide_eq_true_eq] at hn
        exact hn.1.1
      have hll : x.1.data.toList.length = x.1.size := by simp
      cases hd : x.1.data.toList with
      | nil => rw [hd] at hll; simp at hll; omega
      | cons c r =>
        have hc := nameB_nch hn 0 c (by rw [hd]; rfl)
        have hc2 : ((125 : UInt8) == c) = false := by
          rw [beq_eq_false_iff_ne]
          rintro rfl
          revert hc; decide
        simp [partRL, hd, Lib.hasPrefix, List.isPrefixOf, hc2]
    unfold parseB
    rw [if_neg (by rw [hne]; decide), if_pos (by simp [Lib.hasPrefix, List.isPrefixOf]), List.drop_succ_cons, List.drop_zero]
    rw [go_back2 bh l x 17 1 [] rfl (by simpa using hl) hr]
    unfold textR
    rw [List.map_cons, join_tail]
    simp
    omega
end Go.Proofs.YtfmgphjnajgldaaDoor
