/- AskBack is proved where what comes in is of bulk at most 1048576: whatever the query and the text, the law returns true, and they read as they did. -/
import Derived.Test.YtcmpenmaphmifaaGreatDoorPk16
import Derived.Test.YtcmpenmaphmifaaGreatDoorPk25
import Derived.Test.YtcmpenmaphmifaaGreatDoorPk21
import Derived.MakeChecks
namespace Go.Proofs.YtcmpenmaphmifaaGreatDoor

theorem unq_invQ : ∀ (k : Nat) (l acc : List UInt8) (n : Nat), l.length ≤ k → (unqGo l false acc n).2 ≠ 0 →
    ∃ x, (unqGo l false acc n).1 = acc ++ x ∧ l = x.flatMap escB ++ 34 :: l.drop ((x.flatMap escB).length + 1) ∧ (unqGo l false acc n).2 = n + ((x.flatMap escB).length + 1)
  | _, [], acc, n, _, h => by simp [unqGo] at h
  | 0, _ :: _, _, _, hk, _ => by simp at hk
  | k + 1, c :: r, acc, n, hk, h => by
    rw [unqGo] at h ⊢
    by_cases h34 : (c.toNat : Int) = 34
    · have hc : c = 34 := UInt8.toNat_inj.1 (by have : (34 : UInt8).toNat = 34 := rfl; omega)
      rw [if_pos h34]
      exact ⟨[], by simp, by rw [hc]; rfl, by simp⟩
    · rw [if_neg h34] at h ⊢
      by_cases h92 : (c.toNat : Int) = 92
      · have hc : c = 92 := UInt8.toNat_inj.1 (by have : (92 : UInt8).toNat = 92 := rfl; omega)
        rw [if_pos h92] at h ⊢
        cases r with
        | nil => simp [unqGo] at h
        | cons d r =>
          rw [unqGo] at h ⊢
          by_cases hg : gN (d.toNat : Int) = true
          · rw [if_pos hg] at h ⊢
            obtain ⟨x, h1, h2, h3⟩ := unq_invQ k r (acc ++ [d]) (n + 1 + 1) (by simp at hk; omega) h
            have he : escB d = [92, d] := by rw [escB, if_pos hg]
            refine ⟨d :: x, by rw [h1]; simp, ?_, by rw [h3, List.flatMap_cons, he]; simp; omega⟩
            rw [List.flatMap_cons, he, hc]
            have e : ([92, d] ++ x.flatMap escB).length + 1 = ((x.flatMap escB).length + 1) + 2 := by simp
            rw [e, List.drop_succ_cons, List.drop_succ_cons]
            simp only [List.cons_append, List.nil_append]
            rw [← h2]
          · rw [if_neg hg] at h
            exact absurd rfl h
      · rw [if_neg h92] at h ⊢
        obtain ⟨x, h1, h2, h3⟩ := unq_invQ k r (acc ++ [c]) (n + 1) (by simp at hk; omega) h
        have he : escB c = [c] := by rw [escB, if_neg (by simp [gN]; omega)]
        refine ⟨c :: x, by rw [h1]; simp, ?_, by rw [h3, List.flatMap_cons, he]; simp; omega⟩
        rw [List.flatMap_cons, he]
        have e : ([c] ++ x.flatMap escB).length + 1 = ((x.flatMap escB).length + 1) + 1 := by simp
        rw [e, List.drop_succ_cons]
        simp only [List.cons_append, List.nil_append]
        rw [← h2]
theorem unqL_invQ {l : List UInt8} (h : (unqL l).2 ≠ 0) : l = quoteB ⟨(unqL l).1.toArray⟩ ++ l.drop (unqL l).2 ∧ (unqL l).2 = (quoteB ⟨(unqL l).1.toArray⟩).length := by
  cases l with
  | nil => exact absurd rfl h
  | cons c r =>
    rw [unqL] at h ⊢
    by_cases h34 : (c.toNat : Int) = 34
    · have hc : c = 34 := UInt8.toNat_inj.1 (by have : (34 : UInt8).toNat = 34 := rfl; omega)
      rw [if_pos h34] at h ⊢
      obtain ⟨x, h1, h2, h3⟩ := unq_invQ _ r [] 1 (Nat.le_refl _) h
      rw [List.nil_append] at h1
      have hq : quoteB ⟨x.toArray⟩ = 34 :: (x.flatMap escB ++ [34]) := by
        have : x.take (ByteArray.size ⟨x.toArray⟩) = x := List.take_of_length_le (by simp [ByteArray.size])
        simp [quoteB, quoteTo, this]
      rw [h1, h3, hq]
      refine ⟨?_, by simp; omega⟩
      rw [hc, show 1 + ((x.flatMap escB).length + 1) = ((x.flatMap escB).length + 1) + 1 by omega, List.drop_succ_cons]
      simp only [List.cons_append, List.append_assoc, List.nil_append]
      rw [← h2]
    · rw [if_neg h34] at h
      exact absurd rfl h
theorem prefix_app {r p : List UInt8} (h : Lib.hasPrefix r p = true) : r = p ++ r.drop p.length := by
  obtain ⟨s, rfl⟩ := List.isPrefixOf_iff_prefix.1 h
  rw [List.drop_left]
theorem prefix_one {t : List UInt8} {n : Nat} {c : UInt8} (h : Lib.hasPrefix (t.drop n) [c] = true) : t.drop n = c :: t.drop (n + 1) := by
  have h1 := prefix_app h
  rw [List.drop_drop] at h1
  exact h1
theorem sgB_pre (r : List UInt8) : r = sgB (opR r) ++ r.drop (sgB (opR r)).length := by
  unfold opR
  split
  · exact prefix_app ‹_›
  split
  · exact prefix_app ‹_›
  split
  · exact prefix_app ‹_›
  split
  · exact prefix_app ‹_›
  · rfl
theorem glueQ {t a q : List UInt8} {k s u : Nat} (h1 : t.drop k = a ++ (t.drop k).drop s) (h2 : (t.drop k).drop s = q ++ ((t.drop k).drop s).drop u) : t = t.take k ++ a ++ q ++ t.drop (k + s + u) := by
  have e : t.drop (k + s + u) = ((t.drop k).drop s).drop u := by rw [List.drop_drop, List.drop_drop, Nat.add_assoc]
  rw [e, List.append_assoc, List.append_assoc, ← h2, ← h1, List.take_append_drop]
theorem ruleAt_inv {t : List UInt8} {k : Nat} (h : (ruleAt t k).2 ≠ 0) : t = partRL (ruleAt t k).1 ++ t.drop (ruleAt t k).2 := by
  unfold ruleAt at h ⊢
  by_cases hc : (unqL ((t.drop k).drop (sgB (opR (t.drop k))).length)).2 = 0 ∨ ruleB (mkR (t.take k) (opR (t.drop k)) (unqL ((t.drop k).drop (sgB (opR (t.drop k))).length)).1) = false
  · rw [if_pos hc] at h
    exact absurd rfl h
  · rw [if_neg hc]
    obtain ⟨a1, _⟩ := unqL_invQ (fun e => hc (.inl e))
    exact glueQ (sgB_pre (t.drop k)) a1
theorem partR_inv {t : List UInt8} (h : (partR t).2 ≠ 0) : t = partRL (partR t).1 ++ t.drop (partR t).2 := by
  unfold partR at h ⊢
  by_cases hc : Lib.indexAny t sgL < 0
  · rw [if_pos hc] at h
    exact absurd rfl h
  · rw [if_neg hc] at h ⊢
    exact ruleAt_inv h
theorem parseGo_inv : ∀ (f : Nat) (t : List UInt8) (at_ : Nat) (acc : List Rp), (parseGo f t at_ acc).2 ≠ 0 → ∃ r n, r ≠ [] ∧ parseGo f t at_ acc = (acc ++ r, at_ + n) ∧ t = Lib.join (r.map partRL) [44] ++ 125 :: t.drop n
  | 0, _, _, _, h => absurd rfl h
  | f + 1, t, at_, acc, h => by
    rw [parseGo] at h ⊢
    by_cases h0 : (partR t).2 = 0 ∨ acc.length = 16
    · rw [if_pos h0] at h
      exact absurd rfl h
    · rw [if_neg h0] at h ⊢
      have hp := partR_inv (fun e => h0 (.inl e))
      by_cases h1 : Lib.hasPrefix (t.drop (partR t).2) [125] = true
      · rw [if_pos h1]
        refine ⟨[(partR t).1], (partR t).2 + 1, by simp, by rw [Nat.add_assoc], ?_⟩
        rw [prefix_one h1] at hp
        rw [List.map_cons, List.map_nil, Lib.join_one]
        exact hp
      · rw [if_neg h1] at h ⊢
        by_cases h2 : Lib.hasPrefix (t.drop (partR t).2) [44] = true
        · rw [if_pos h2] at h ⊢
          obtain ⟨r, n, hr, he, hl⟩ := parseGo_inv f _ _ _ h
          refine ⟨(partR t).1 :: r, (partR t).2 + 1 + n, by simp, by rw [he]; simp; omega, ?_⟩
          rw [List.drop_drop] at hl
          rw [prefix_one h2, hl] at hp
          cases r with
          | nil => exact absurd rfl hr
          | cons y r =>
            rw [List.map_cons, Lib.join_cons] at hp ⊢
            rw [List.map_cons]
            have e : Lib.joinTail [44] (partRL y :: r.map partRL) = 44 :: (partRL y ++ Lib.joinTail [44] (r.map partRL)) := by simp [Lib.joinTail]
            rw [e, List.append_assoc]
            exact hp
        · rw [if_neg h2] at h
          exact absurd rfl h
theorem parseB_inv {t : List UInt8} (h : (parseB t).2 ≠ 0) : t = textR (parseB t).1 ++ t.drop (parseB t).2 := by
  unfold parseB at h ⊢
  by_cases h0 : Lib.hasPrefix t [123, 125] = true
  · rw [if_pos h0]
    exact prefix_app h0
  · rw [if_neg h0] at h ⊢
    by_cases h1 : Lib.hasPrefix t [123] = true
    · rw [if_pos h1] at h ⊢
      obtain ⟨r, n, _, he, hl⟩ := parseGo_inv _ _ _ _ h
      have h2 := prefix_app h1
      rw [he]
      simp only [List.nil_append, textR]
      have e : [(123 : UInt8)].length = 1 := rfl
      rw [e] at h2
      rw [List.drop_drop] at hl
      rw [hl] at h2
      simpa using h2
    · rw [if_neg h1] at h
      exact absurd rfl h
theorem numA_inv {t : List UInt8} {v : Int} {u : Nat} (h : numA t = some (v, u)) : t = 32 :: Lib.itoa v ++ t.drop u := by
  obtain ⟨r, rfl, h1, h2⟩ := numA_some h
  obtain ⟨e, _, _, _⟩ := numOf_some h1
  have hd : (32 :: r).drop u = r.drop (cutB 32 r).length := by rw [h2, Nat.add_comm, List.drop_succ_cons]
  rw [hd, ← e]
  have hr : r = cutB 32 r ++ r.drop (cutB 32 r).length := by
    rcases cutB_at 32 r with ⟨_, r2, h3⟩ | ⟨_, h3⟩
    · have h4 := congrArg (List.drop (cutB 32 r).length) h3
      rw [List.drop_left' rfl] at h4
      rw [h4]
      exact h3
    · rw [h3]
      simp
  rw [List.cons_append, ← hr]
theorem readX_inv : ∀ (n : Nat) (t : List UInt8) (vs : List Int) (r : List UInt8), readX numA n t = some (vs, r) → t = numsL vs ++ r
  | 0, t, vs, r, h => by cases h; rfl
  | n + 1, t, vs, r, h => by
    obtain ⟨v, u, ws, h1, h2, rfl⟩ := readX_succ h
    have h3 := numA_inv h1
    have h4 := readX_inv n _ _ _ h2
    rw [h4] at h3
    rw [h3]
    simp [numsL]
theorem cutB_cat (c : UInt8) (t : List UInt8) : t = cutB c t ++ t.drop (cutB c t).length := by
  rcases cutB_at c t with ⟨_, r2, h3⟩ | ⟨_, h3⟩
  · have h4 := congrArg (List.drop (cutB c t).length) h3
    rw [List.drop_left' rfl] at h4
    rw [h4]
    exact h3
  · rw [h3]
    simp
theorem numsQ_mk {op : Int} {rs : List Rp} {vs : List Int} {r : List UInt8} (hl : vs.length = kQ op) : numsQ (mkQ op rs vs r) = vs := by
  unfold numsQ
  by_cases h0 : op = 0
  · have e : kQ op = 2 := if_pos h0
    rw [e] at hl
    match vs, hl with
    | [a, b], _ => exact if_pos h0
  · have e : kQ op = 3 := if_neg h0
    rw [e] at hl
    match vs, hl with
    | [a, b, c], _ => exact if_neg h0
theorem tail_mk {op : Int} {rs : List Rp} {vs : List Int} {r : List UInt8} (h : r = notesL ∨ r = []) : (if (mkQ op rs vs r).nt = true then notesL else []) = r := by
  rcases h with rfl | rfl
  · exact if_pos (by simp [mkQ])
  · exact if_neg (by simp [mkQ, notesL])
/-- A text that is read is the text of what it is read as; and that may be. -/
theorem parseQ_inv {t : List UInt8} {y : Qr} (h : parseQ numA t = (y, 0)) : rightQ y = true ∧ textQ y = t := by
  unfold parseQ at h
  by_cases h0 : 4096 < t.length
  · rw [if_pos h0] at h; cases h
  · rw [if_neg h0] at h
    have hc := cutB_cat 123 t
    cases ho : opA (cutB 123 t) with
    | none => rw [ho] at h; cases h
    | some op =>
      rw [ho] at h
      have hw := (opA_range ho).1
      unfold tailQ at h
      simp only at h
      by_cases h1 : 123 ∈ t
      · rw [if_pos h1] at h
        by_cases h2 : (parseB (t.drop (cutB 123 t).length)).2 = 0
        · rw [if_pos h2] at h; cases h
        · rw [if_neg h2] at h
          have hb := parseB_inv h2
          rw [List.drop_drop] at hb
          cases hx : readX numA (kQ op) (t.drop ((cutB 123 t).length + (parseB (t.drop (cutB 123 t).length)).2)) with
          | none => rw [hx] at h; cases h
          | some p =>
            obtain ⟨vs, r⟩ := p
            rw [hx] at h
            have hn := readX_inv _ _ _ _ hx
            have hl := readX_len hx
            unfold endQ at h
            simp only at h
            by_cases h3 : (r = notesL ∨ r = []) ∧ rightQ (mkQ op (parseB (t.drop (cutB 123 t).length)).1 vs r) = true
            · rw [if_pos h3] at h
              injection h with h _
              subst h
              refine ⟨h3.2, ?_⟩
              unfold textQ
              rw [numsQ_mk hl, tail_mk h3.1]
              show wordQ op ++ textR (parseB (t.drop (cutB 123 t).length)).1 ++ numsL vs ++ r = t
              rw [← hw, List.append_assoc, List.append_assoc, ← hn, ← hb]
              exact hc.symm
            · rw [if_neg h3] at h; cases h
      · rw [if_neg h1] at h; cases h
theorem read_back : ∀ (vs : List Int) (tl : List UInt8), (∀ v ∈ vs, 0 ≤ v ∧ v ≤ 9223372036854775807) → headS tl → readX numA vs.length (numsL vs ++ tl) = some (vs, tl)
  | [], tl, _, _ => rfl
  | v :: ws, tl, h, ht => by
    have ih := read_back ws tl (fun x hx => h x (List.mem_cons_of_mem _ hx)) ht
    obtain ⟨h1, h2⟩ := h v List.mem_cons_self
    obtain ⟨n, rfl⟩ := Int.eq_ofNat_of_zero_le h1
    have hh : (numsL ws ++ tl) = [] ∨ ∃ r2, (numsL ws ++ tl) = 32 :: r2 := by
      cases ws with
      | nil => exact ht
      | cons w ws => exact .inr ⟨_, rfl⟩
    have hcut : cutB 32 (dec n ++ (numsL ws ++ tl)) = dec n := cutB_app 32 _ _ (dec_no32 n) hh
    have e : numsL ((n : Int) :: ws) ++ tl = 32 :: (dec n ++ (numsL ws ++ tl)) := by
      have := itoa_nat n
      simp [numsL, this]
    rw [e]
    refine readX_mk (u := 1 + (dec n).length) ?_ ?_
    · unfold numA
      simp only
      rw [if_pos trivial, hcut, numOf_dec n (by omega)]
      rfl
    · rw [Nat.add_comm, List.drop_succ_cons, List.drop_left]
      exact ih
theorem word_no (op : Int) (h : 0 ≤ op ∧ op < 6) : (∀ y ∈ wordQ op, y ≠ 123) ∧ opA (wordQ op) = some op := by
  have h6 : op = 0 ∨ op = 1 ∨ op = 2 ∨ op = 3 ∨ op = 4 ∨ op = 5 := by omega
  rcases h6 with rfl | rfl | rfl | rfl | rfl | rfl <;> exact ⟨by decide, by decide⟩
/-- A right query is read back from its text, if that has at most 4096 bytes. -/
theorem textQ_back {q : Qr} (h : rightQ q = true) (hl : (textQ q).length ≤ 4096) : parseQ numA (textQ q) = (q, 0) := by
  have h0 := h
  unfold rightQ at h0
  simp only [Bool.and_eq_true] at h0
  obtain ⟨ho, hr, hs, hst⟩ := h0
  have ho' : 0 ≤ q.op ∧ q.op < 6 := by simpa [opQ] using ho
  have hs' := hs
  simp only [spanB, Bool.and_eq_true, decide_eq_true_eq] at hs'
  obtain ⟨w1, w2⟩ := word_no q.op ho'
  obtain ⟨tl, htl, ht1, ht2⟩ : ∃ tl, (if q.nt = true then notesL else []) = tl ∧ (tl = notesL ∨ tl = []) ∧ (tl == notesL) = q.nt := by
    cases q.nt
    · exact ⟨[], rfl, .inr rfl, by decide⟩
    · exact ⟨notesL, rfl, .inl rfl, by decide⟩
  have hh : headS tl := by
    rcases ht1 with rfl | rfl
    · exact .inr ⟨_, rfl⟩
    · exact .inl rfl
  have e : textQ q = wordQ q.op ++ (textR q.rs ++ (numsL (numsQ q) ++ tl)) := by
    unfold textQ
    rw [htl]
    simp only [List.append_assoc]
  have hq : (numsQ q).length = kQ q.op ∧ (∀ v ∈ numsQ q, 0 ≤ v ∧ v ≤ 9223372036854775807) ∧ mkQ q.op q.rs (numsQ q) tl = q := by
    unfold numsQ kQ
    by_cases hz : q.op = 0
    · rw [if_pos hz, if_pos hz]
      have hst0 : q.st = 0 := by
        unfold stepQ at hst
        rw [if_pos hz] at hst
        simpa using hst
      refine ⟨rfl, fun v hv => ?_, ?_⟩
      · simp at hv
        rcases hv with rfl | rfl <;> omega
      · obtain ⟨op, rs, fr, to_, st, nt⟩ := q
        simp only at hst0 ht2
        subst hst0
        simp only [mkQ, ht2]
        rfl
    · rw [if_neg hz, if_neg hz]
      have hp := step_pos (by omega) (by omega) hs hst
      have hst1 : q.st ≤ 4611686018427387904 := by
        unfold stepQ at hst
        rw [if_neg hz] at hst
        simp at hst
        exact hst.2
      refine ⟨rfl, fun v hv => ?_, ?_⟩
      · simp at hv
        rcases hv with rfl | rfl | rfl <;> omega
      · obtain ⟨op, rs, fr, to_, st, nt⟩ := q
        simp only at ht2
        simp only [mkQ, ht2]
        rfl
  obtain ⟨q1, q2, q3⟩ := hq
  have hcut : cutB 123 (textQ q) = wordQ q.op := by
    rw [e]
    exact cutB_app 123 _ _ w1 (.inr ⟨_, rfl⟩)
  have hmem : (123 : UInt8) ∈ textQ q := by
    rw [e]
    simp [textR]
  have hd : (textQ q).drop (wordQ q.op).length = textR q.rs ++ (numsL (numsQ q) ++ tl) := by rw [e, List.drop_left]
  have hpb := parse_back hr (numsL (numsQ q) ++ tl)
  have hd2 : (textQ q).drop ((wordQ q.op).length + (textR q.rs).length) = numsL (numsQ q) ++ tl := by
    rw [← List.drop_drop, hd, List.drop_left]
  unfold parseQ
  rw [if_neg (by omega), hcut, w2]
  unfold tailQ
  simp only
  rw [if_pos hmem, hd, hpb]
  simp only
  rw [if_neg (by simp [textR]), hd2, ← q1, read_back _ _ q2 hh]
  unfold endQ
  simp only
  rw [q3, if_pos ⟨ht1, h⟩]
end Go.Proofs.YtcmpenmaphmifaaGreatDoor
namespace Go.Proofs.YtcmpenmaphmifaaGreatDoor
open Go.RowKit Go.BigFrame

/-- The law's box of the query, and a box of one that it made, seen from the world w. -/
structure Ab3 (w wx : World) (K : Nat) (q : Qr) (A : Option Addr) (c : Nat) (y : Qr) (Ay : Option Addr) (cy b7 : Nat) : Prop where
  bq : Rwo wx w.heap.size (qc q A c) 24
  by_ : Rwo wx b7 (qc y Ay cy) 27
  rr : Rr wx K A c q.rs
  ry : Rr wx wx.heap.size Ay cy y.rs
  bl : Below w.heap.size w wx
  hk : K ≤ w.heap.size
theorem Ab3.below {w wx wy : World} {K : Nat} {q y : Qr} {A Ay : Option Addr} {c cy b7 : Nat} (h : Ab3 w wx K q A c y Ay cy b7) (hb : Below wx.heap.size wx wy) : Ab3 w wy K q A c y Ay cy b7 :=
  ⟨h.bq.below hb, h.by_.below hb, h.rr.below (hb.mono (Nat.le_trans h.hk h.bl.size)), (h.ry.below hb).more hb.size, h.bl.trans (hb.mono h.bl.size), h.hk⟩
theorem right_ok {q : Qr} (h : rightQ q = true) : SmR q.rs ∧ Qok q := by
  unfold rightQ at h
  simp only [Bool.and_eq_true] at h
  obtain ⟨ho, hr, hs, hst⟩ := h
  have ho' : 0 ≤ q.op ∧ q.op < 6 := by simpa [opQ] using ho
  have hs' := hs
  simp only [spanB, Bool.and_eq_true, decide_eq_true_eq] at hs'
  refine ⟨fun x hx => ?_, ⟨by omega, by omega, by omega, by omega, by omega, by omega, ?_, ?_⟩⟩
  · unfold rulesL at hr
    rw [Bool.and_eq_true, List.all_eq_true] at hr
    have h1 := hr.2 x hx
    simp only [ruleB, nameB, valB, emB_iff, Bool.and_eq_true, Bool.or_eq_true, decide_eq_true_eq] at h1
    omega
  · by_cases hz : q.op = 0
    · unfold stepQ at hst
      rw [if_pos hz] at hst
      simp at hst
      omega
    · have := step_pos (by omega) (by omega) hs hst
      omega
  · unfold stepQ at hst
    by_cases hz : q.op = 0
    · rw [if_pos hz] at hst
      simp at hst
      omega
    · rw [if_neg hz] at hst
      simp at hst
      omega
set_option maxRecDepth 100000 in
set_option maxHeartbeats 1600000 in
theorem askback_any {K0 : Nat} {q : Qr} {A : Option Addr} {c : Nat} (t : ByteArray) (w : World) (hr : Rr w K0 A c q.rs) (hK : K0 ≤ w.heap.size) (hS : SmR q.rs) (hl : q.rs.length ≤ 1048576) (hq : Qok q) (hs : t.size ≤ 1048576) (hm : Mx w) (he : Errs w) (hp : Pow w) (hg : Sg w) (hwo : Wo w) :
    Calls Tryz.prog 4 #[qv q A c, .string t] w fun e w' => e = .returned (.bool true) ∧ Below w.heap.size w w' := by
  have HGL : Hid (∀ wx, Below w.heap.size w wx → Mx wx ∧ Errs wx ∧ Pow wx ∧ Sg wx ∧ Wo wx) := Lib.hid fun wx h => ⟨Mx.below hm h, he.below h, hp.below h, Sg.below hg h, hwo.below h⟩
  obtain ⟨y, er, hp0⟩ : ∃ y er, parseQ numA t.data.toList = (y, er) := ⟨_, _, rfl⟩
  have hyl : y.rs.length ≤ 1048576 := by have h := parseQ_len numA t.data.toList; rw [hp0] at h; simp only at h; omega
  have HPT : Hid (∀ wx, Below w.heap.size w wx → Calls Tryz.prog 7 #[.string t] wx (ParP wx (y, er))) := Lib.hid fun wx h => by
    obtain ⟨h1, h2, h3, h4, h5⟩ := HGL.out wx h
    rw [← hp0]
    exact akParse_any t wx hs h1 h2 h3 h4 h5
  have HPE := Lib.hid hp0
  have HAW : Hid (∀ wx, Below w.heap.size w wx → Calls Tryz.prog 9 #[] wx fun e w' => e = .returned (.bool true) ∧ Below wx.heap.size wx w') := Lib.hid fun wx h => by
    obtain ⟨h1, h2, h3, h4, h5⟩ := HGL.out wx h
    exact awakeQ_any wx h1 h2 h3 h4 h5
  have HQ := Lib.hid hq
  have HSQ := Lib.hid hS
  have HLQ := Lib.hid hl
  have HLY := Lib.hid hyl
  obtain ⟨rq, hrq⟩ : ∃ rq, rq = rightQ q := ⟨_, rfl⟩
  obtain ⟨s, hs0⟩ : ∃ s : ByteArray, s = ⟨(textQ q).toArray⟩ := ⟨_, rfl⟩
  have hsl : s.data.toList = textQ q := by rw [hs0]
  have hsz : s.size = (textQ q).length := by rw [hs0]; simp [ByteArray.size]
  obtain ⟨sz, hszd⟩ : ∃ sz, sz = decide (s.size ≤ 4096) := ⟨_, rfl⟩
  have HSZ : Hid (decide (s.size ≤ 4096) = sz ∧ decide ((s.size : Int) ≤ 4096) = sz) := Lib.hid ⟨hszd.symm, by rw [hszd]; exact decide_eq_decide.2 (by omega)⟩
  have HPS : Hid (rq = true → sz = true → ∀ wx, Below w.heap.size w wx → Calls Tryz.prog 7 #[.string s] wx (ParP wx (q, 0))) := Lib.hid fun h1 h2 wx h => by
    have h3 : s.size ≤ 4096 := by rw [hszd] at h2; simpa using h2
    obtain ⟨k1, k2, k3, k4, k5⟩ := HGL.out wx h
    have h4 := textQ_back (q := q) (by rw [← hrq]; exact h1) (by omega)
    have h5 := akParse_any s wx (by omega) k1 k2 k3 k4 k5
    rwa [hsl, h4] at h5
  have HTX : Hid (∀ wx A' c', Below w.heap.size w wx → Rr wx wx.heap.size A' c' q.rs → Calls Tryz.prog 13 #[qv q A' c'] wx (NewStr wx s)) := Lib.hid fun wx A' c' h h9 => by
    obtain ⟨h1, h2, h3, h4, h5⟩ := HGL.out wx h
    rw [hs0]
    exact akText_any wx h9 (Nat.le_refl _) HSQ.out HLQ.out HQ.out h4 h5 h3
  have HRQ : Hid (∀ wx A' c', Rr wx wx.heap.size A' c' q.rs → Calls Tryz.prog 10 #[qv q A' c'] wx fun e w' => e = .returned (.bool rq) ∧ Below wx.heap.size wx w') := Lib.hid fun wx A' c' h9 => by
    rw [hrq]
    exact akRight_any h9 (Nat.le_refl _) HSQ.out HQ.out.s2
  have hcl := hr.le
  have HBX : Hid (Rwo (w.alloc (.cells (qc q A c) 24)) w.heap.size (qc q A c) 24) := Lib.hid ⟨heap_alloc_new w _⟩
  have HB1 : Hid (Below w.heap.size w (w.alloc (.cells (qc q A c) 24))) := Lib.hid ((Below.refl _ _).alloc (Nat.le_refl _) _)
  have HRR1 : Hid (Rr (w.alloc (.cells (qc q A c) 24)) K0 A c q.rs) := Lib.hid (hr.alloc hK _)
  have HKW := Lib.hid hK
  clear hm he hp hg hwo hp0 hs hq hS hl hyl hr hK hs0 hsl hsz hszd hrq
  go_enter Tryz.func4, Tryz.ntmps4
  go_upto_region 1 with fail
  generalize w.alloc (.cells (qc q A c) 24) = w1 at HBX HB1 HRR1 ⊢
  have p0 : w1.cell? ⟨w.heap.size, 0, none⟩ = some (.int .i64 q.op) := HBX.out.cell rfl
  have p1 : w1.cell? ⟨w.heap.size, 1, none⟩ = some (.slice A q.rs.length c) := HBX.out.cell rfl
  have p2 : w1.cell? ⟨w.heap.size, 2, none⟩ = some (.int .i64 q.fr) := HBX.out.cell rfl
  have p3 : w1.cell? ⟨w.heap.size, 3, none⟩ = some (.int .i64 q.to_) := HBX.out.cell rfl
  have p4 : w1.cell? ⟨w.heap.size, 4, none⟩ = some (.int .i64 q.st) := HBX.out.cell rfl
  have p5 : w1.cell? ⟨w.heap.size, 5, none⟩ = some (.bool q.nt) := HBX.out.cell rfl
  have pl := HBX.out.lt
  go_wp2_with fail
  refine (toQ_any w1 HRR1.out (Nat.le_trans HKW.out HB1.out.size) HLQ.out).mono ?_
  rintro e w2 ⟨Ax, cx, rfl, hxr, b2⟩
  have hxc := (So.sr encR_len hxr).1.le
  clear p0 p1 p2 p3 p4 p5 pl
  go_upto_region 2 with fail
  have hb3 : Below w2.heap.size w2 (w2.alloc (.cells (qc q Ax cx) 27)) := (Below.refl _ _).alloc (Nat.le_refl _) _
  have hx3 : Rwo (w2.alloc (.cells (qc q Ax cx) 27)) w2.heap.size (qc q Ax cx) 27 := ⟨heap_alloc_new w2 _⟩
  generalize w2.alloc (.cells (qc q Ax cx) 27) = w3 at hb3 hx3 ⊢
  have b23 := b2.trans (hb3.mono b2.size)
  obtain ⟨b5, hb5⟩ : ∃ b5, b5 = w2.heap.size := ⟨_, rfl⟩
  rw [← hb5] at hx3 ⊢
  have HA3 : Hid (Ab3 w w3 K0 q A c q Ax cx b5) := Lib.hid ⟨HBX.out.below b23, hx3, HRR1.out.below (b23.mono (Nat.le_trans HKW.out HB1.out.size)), ((So.sr encR_len hxr).1.below hb3).more hb3.size, HB1.out.trans (b23.mono HB1.out.size), HKW.out⟩
  clear hb3 hx3 b23 hb5 hxr b2 HBX HB1 HRR1
  have p0 : w3.cell? ⟨b5, 0, none⟩ = some (.int .i64 q.op) := HA3.out.by_.cell rfl
  have p1 : w3.cell? ⟨b5, 1, none⟩ = some (.slice Ax q.rs.length cx) := HA3.out.by_.cell rfl
  have p2 : w3.cell? ⟨b5, 2, none⟩ = some (.int .i64 q.fr) := HA3.out.by_.cell rfl
  have p3 : w3.cell? ⟨b5, 3, none⟩ = some (.int .i64 q.to_) := HA3.out.by_.cell rfl
  have p4 : w3.cell? ⟨b5, 4, none⟩ = some (.int .i64 q.st) := HA3.out.by_.cell rfl
  have p5 : w3.cell? ⟨b5, 5, none⟩ = some (.bool q.nt) := HA3.out.by_.cell rfl
  have pl := HA3.out.by_.lt
  go_wp2_with fail
  refine (HTX.out w3 Ax cx HA3.out.bl HA3.out.ry).mono ?_
  rintro e w4 ⟨rfl, b4⟩
  clear p0 p1 p2 p3 p4 p5 pl
  have HA4 := Lib.hid (HA3.out.below b4)
  clear b4 HA3
  have p0 : w4.cell? ⟨b5, 0, none⟩ = some (.int .i64 q.op) := HA4.out.by_.cell rfl
  have p1 : w4.cell? ⟨b5, 1, none⟩ = some (.slice Ax q.rs.length cx) := HA4.out.by_.cell rfl
  have p2 : w4.cell? ⟨b5, 2, none⟩ = some (.int .i64 q.fr) := HA4.out.by_.cell rfl
  have p3 : w4.cell? ⟨b5, 3, none⟩ = some (.int .i64 q.to_) := HA4.out.by_.cell rfl
  have p4 : w4.cell? ⟨b5, 4, none⟩ = some (.int .i64 q.st) := HA4.out.by_.cell rfl
  have p5 : w4.cell? ⟨b5, 5, none⟩ = some (.bool q.nt) := HA4.out.by_.cell rfl
  have pl := HA4.out.by_.lt
  go_wp2_with fail
  refine (HRQ.out w4 Ax cx HA4.out.ry).mono ?_
  rintro e w5 ⟨rfl, b45⟩
  have HA := Lib.hid (HA4.out.below b45)
  clear b45 HA4
  clear p0 p1 p2 p3 p4 p5 pl
  cases rq
  · skip
    go_wp2_with fail
    refine (HPT.out _ HA.out.bl).mono ?_
    rintro e w6 ⟨A9, c9, rfl, h9r, b9⟩
    have h9c := (So.sr encR_len h9r).1.le
    go_upto_region 8 with fail
    have hb7 : Below w6.heap.size w6 (w6.alloc (.cells (qc y A9 c9) 27)) := (Below.refl _ _).alloc (Nat.le_refl _) _
    have hy7 : Rwo (w6.alloc (.cells (qc y A9 c9) 27)) w6.heap.size (qc y A9 c9) 27 := ⟨heap_alloc_new w6 _⟩
    generalize w6.alloc (.cells (qc y A9 c9) 27) = w7 at hb7 hy7 ⊢
    have b97 := b9.trans (hb7.mono b9.size)
    obtain ⟨bb, hbb⟩ : ∃ bb, bb = w6.heap.size := ⟨_, rfl⟩
    rw [← hbb] at hy7 ⊢
    have HG0 : Hid (Ab3 w w7 K0 q A c y A9 c9 bb) := Lib.hid ⟨HA.out.bq.below b97, hy7, HA.out.rr.below (b97.mono (Nat.le_trans HA.out.hk HA.out.bl.size)), ((So.sr encR_len h9r).1.below hb7).more hb7.size, HA.out.bl.trans (b97.mono HA.out.bl.size), HA.out.hk⟩
    clear hb7 hy7 b97 hbb h9r b9 HA
    go_wp2_with fail
    refine (HAW.out w7 HG0.out.bl).mono ?_
    rintro e w8 ⟨rfl, b8⟩
    have HG8 := Lib.hid (HG0.out.below b8)
    clear b8 HG0
    by_cases hz : er = 0
    · subst hz
      obtain ⟨hr1, hr2⟩ := parseQ_inv HPE.out
      obtain ⟨hs1, hq1⟩ := right_ok hr1
      have HRY : Hid (∀ wx, Ab3 w wx K0 q A c y A9 c9 bb → Calls Tryz.prog 10 #[qv y A9 c9] wx fun e w' => e = .returned (.bool true) ∧ Below wx.heap.size wx w') := Lib.hid fun wx h => by
        rw [← hr1]
        exact akRight_any h.ry (Nat.le_refl _) hs1 hq1.s2
      have HTY : Hid (∀ wx, Ab3 w wx K0 q A c y A9 c9 bb → Calls Tryz.prog 13 #[qv y A9 c9] wx (NewStr wx t)) := Lib.hid fun wx h => by
        obtain ⟨h1, h2, h3, h4, h5⟩ := HGL.out wx h.bl
        have h9 := akText_any wx h.ry (Nat.le_refl _) hs1 HLY.out hq1 h4 h5 h3
        rwa [hr2] at h9
      clear hr1 hr2 hs1 hq1
      have p0 : w8.cell? ⟨bb, 0, none⟩ = some (.int .i64 y.op) := HG8.out.by_.cell rfl
      have p1 : w8.cell? ⟨bb, 1, none⟩ = some (.slice A9 y.rs.length c9) := HG8.out.by_.cell rfl
      have p2 : w8.cell? ⟨bb, 2, none⟩ = some (.int .i64 y.fr) := HG8.out.by_.cell rfl
      have p3 : w8.cell? ⟨bb, 3, none⟩ = some (.int .i64 y.to_) := HG8.out.by_.cell rfl
      have p4 : w8.cell? ⟨bb, 4, none⟩ = some (.int .i64 y.st) := HG8.out.by_.cell rfl
      have p5 : w8.cell? ⟨bb, 5, none⟩ = some (.bool y.nt) := HG8.out.by_.cell rfl
      have pl := HG8.out.by_.lt
      go_wp2_with fail
      refine (HRY.out w8 HG8.out).mono ?_
      rintro e w9 ⟨rfl, b9⟩
      have HG9 := Lib.hid (HG8.out.below b9)
      clear b9 HG8
      clear p0 p1 p2 p3 p4 p5 pl
      have p0 : w9.cell? ⟨bb, 0, none⟩ = some (.int .i64 y.op) := HG9.out.by_.cell rfl
      have p1 : w9.cell? ⟨bb, 1, none⟩ = some (.slice A9 y.rs.length c9) := HG9.out.by_.cell rfl
      have p2 : w9.cell? ⟨bb, 2, none⟩ = some (.int .i64 y.fr) := HG9.out.by_.cell rfl
      have p3 : w9.cell? ⟨bb, 3, none⟩ = some (.int .i64 y.to_) := HG9.out.by_.cell rfl
      have p4 : w9.cell? ⟨bb, 4, none⟩ = some (.int .i64 y.st) := HG9.out.by_.cell rfl
      have p5 : w9.cell? ⟨bb, 5, none⟩ = some (.bool y.nt) := HG9.out.by_.cell rfl
      have pl := HG9.out.by_.lt
      go_wp2_with fail
      refine (HTY.out w9 HG9.out).mono ?_
      rintro e w10 ⟨rfl, b10⟩
      have HB := Lib.hid (HG9.out.bl.trans (b10.mono HG9.out.bl.size))
      clear b10 HG9
      clear p0 p1 p2 p3 p4 p5 pl
      go_wp2_with fail
      go_ret
      exact ⟨rfl, HB.out⟩
    · have z1 : (er == 0) = false := by simpa using hz
      have z2 : (er != 0) = true := by simpa using hz
      have z3 : decide (er = 0) = false := by simpa using hz
      have z4 : decide (er ≠ 0) = true := by simpa using hz
      go_wp2_with fail
      go_ret
      exact ⟨rfl, HG8.out.bl⟩
  · obtain ⟨z1, z2⟩ := HSZ.out
    cases sz
    · skip
      go_wp2_with fail
      refine (HPT.out _ HA.out.bl).mono ?_
      rintro e w6 ⟨A9, c9, rfl, h9r, b9⟩
      have h9c := (So.sr encR_len h9r).1.le
      go_upto_region 8 with fail
      have hb7 : Below w6.heap.size w6 (w6.alloc (.cells (qc y A9 c9) 27)) := (Below.refl _ _).alloc (Nat.le_refl _) _
      have hy7 : Rwo (w6.alloc (.cells (qc y A9 c9) 27)) w6.heap.size (qc y A9 c9) 27 := ⟨heap_alloc_new w6 _⟩
      generalize w6.alloc (.cells (qc y A9 c9) 27) = w7 at hb7 hy7 ⊢
      have b97 := b9.trans (hb7.mono b9.size)
      obtain ⟨bb, hbb⟩ : ∃ bb, bb = w6.heap.size := ⟨_, rfl⟩
      rw [← hbb] at hy7 ⊢
      have HG0 : Hid (Ab3 w w7 K0 q A c y A9 c9 bb) := Lib.hid ⟨HA.out.bq.below b97, hy7, HA.out.rr.below (b97.mono (Nat.le_trans HA.out.hk HA.out.bl.size)), ((So.sr encR_len h9r).1.below hb7).more hb7.size, HA.out.bl.trans (b97.mono HA.out.bl.size), HA.out.hk⟩
      clear hb7 hy7 b97 hbb h9r b9 HA
      go_wp2_with fail
      refine (HAW.out w7 HG0.out.bl).mono ?_
      rintro e w8 ⟨rfl, b8⟩
      have HG8 := Lib.hid (HG0.out.below b8)
      clear b8 HG0
      by_cases hz : er = 0
      · subst hz
        obtain ⟨hr1, hr2⟩ := parseQ_inv HPE.out
        obtain ⟨hs1, hq1⟩ := right_ok hr1
        have HRY : Hid (∀ wx, Ab3 w wx K0 q A c y A9 c9 bb → Calls Tryz.prog 10 #[qv y A9 c9] wx fun e w' => e = .returned (.bool true) ∧ Below wx.heap.size wx w') := Lib.hid fun wx h => by
          rw [← hr1]
          exact akRight_any h.ry (Nat.le_refl _) hs1 hq1.s2
        have HTY : Hid (∀ wx, Ab3 w wx K0 q A c y A9 c9 bb → Calls Tryz.prog 13 #[qv y A9 c9] wx (NewStr wx t)) := Lib.hid fun wx h => by
          obtain ⟨h1, h2, h3, h4, h5⟩ := HGL.out wx h.bl
          have h9 := akText_any wx h.ry (Nat.le_refl _) hs1 HLY.out hq1 h4 h5 h3
          rwa [hr2] at h9
        clear hr1 hr2 hs1 hq1
        have p0 : w8.cell? ⟨bb, 0, none⟩ = some (.int .i64 y.op) := HG8.out.by_.cell rfl
        have p1 : w8.cell? ⟨bb, 1, none⟩ = some (.slice A9 y.rs.length c9) := HG8.out.by_.cell rfl
        have p2 : w8.cell? ⟨bb, 2, none⟩ = some (.int .i64 y.fr) := HG8.out.by_.cell rfl
        have p3 : w8.cell? ⟨bb, 3, none⟩ = some (.int .i64 y.to_) := HG8.out.by_.cell rfl
        have p4 : w8.cell? ⟨bb, 4, none⟩ = some (.int .i64 y.st) := HG8.out.by_.cell rfl
        have p5 : w8.cell? ⟨bb, 5, none⟩ = some (.bool y.nt) := HG8.out.by_.cell rfl
        have pl := HG8.out.by_.lt
        go_wp2_with fail
        refine (HRY.out w8 HG8.out).mono ?_
        rintro e w9 ⟨rfl, b9⟩
        have HG9 := Lib.hid (HG8.out.below b9)
        clear b9 HG8
        clear p0 p1 p2 p3 p4 p5 pl
        have p0 : w9.cell? ⟨bb, 0, none⟩ = some (.int .i64 y.op) := HG9.out.by_.cell rfl
        have p1 : w9.cell? ⟨bb, 1, none⟩ = some (.slice A9 y.rs.length c9) := HG9.out.by_.cell rfl
        have p2 : w9.cell? ⟨bb, 2, none⟩ = some (.int .i64 y.fr) := HG9.out.by_.cell rfl
        have p3 : w9.cell? ⟨bb, 3, none⟩ = some (.int .i64 y.to_) := HG9.out.by_.cell rfl
        have p4 : w9.cell? ⟨bb, 4, none⟩ = some (.int .i64 y.st) := HG9.out.by_.cell rfl
        have p5 : w9.cell? ⟨bb, 5, none⟩ = some (.bool y.nt) := HG9.out.by_.cell rfl
        have pl := HG9.out.by_.lt
        go_wp2_with fail
        refine (HTY.out w9 HG9.out).mono ?_
        rintro e w10 ⟨rfl, b10⟩
        have HB := Lib.hid (HG9.out.bl.trans (b10.mono HG9.out.bl.size))
        clear b10 HG9
        clear p0 p1 p2 p3 p4 p5 pl
        go_wp2_with fail
        go_ret
        exact ⟨rfl, HB.out⟩
      · have z1 : (er == 0) = false := by simpa using hz
        have z2 : (er != 0) = true := by simpa using hz
        have z3 : decide (er = 0) = false := by simpa using hz
        have z4 : decide (er ≠ 0) = true := by simpa using hz
        go_wp2_with fail
        go_ret
        exact ⟨rfl, HG8.out.bl⟩
    · replace HPS := Lib.hid (HPS.out rfl rfl)
      go_wp2_with fail
      refine (HPS.out _ HA.out.bl).mono ?_
      rintro e w6 ⟨Ay, cy, rfl, h9r, b9⟩
      have h9c := (So.sr encR_len h9r).1.le
      go_upto_region 5 with fail
      have hb7 : Below w6.heap.size w6 (w6.alloc (.cells (qc q Ay cy) 27)) := (Below.refl _ _).alloc (Nat.le_refl _) _
      have hy7 : Rwo (w6.alloc (.cells (qc q Ay cy) 27)) w6.heap.size (qc q Ay cy) 27 := ⟨heap_alloc_new w6 _⟩
      generalize w6.alloc (.cells (qc q Ay cy) 27) = w7 at hb7 hy7 ⊢
      have b97 := b9.trans (hb7.mono b9.size)
      obtain ⟨b7, hbb⟩ : ∃ b7, b7 = w6.heap.size := ⟨_, rfl⟩
      rw [← hbb] at hy7 ⊢
      have HG0 : Hid (Ab3 w w7 K0 q A c q Ay cy b7) := Lib.hid ⟨HA.out.bq.below b97, hy7, HA.out.rr.below (b97.mono (Nat.le_trans HA.out.hk HA.out.bl.size)), ((So.sr encR_len h9r).1.below hb7).more hb7.size, HA.out.bl.trans (b97.mono HA.out.bl.size), HA.out.hk⟩
      clear hb7 hy7 b97 hbb h9r b9
      clear HA
      apply region_V Hx (fun wx => Ab3 w wx K0 q A c q Ay cy b7) [.v (.int .i64 0), .v (.bool false), .v (.bool false), .v (qv q Ay cy), .q q, .v (qv q A c), .v (.bool true), .v (.bool false), .v (.bool false)] (.v undef)
      case mono => exact fun p v w0 w1 h hb => Hx.mono h hb
      case hm => kernel_rfl
      case hf => kernel_rfl
      case hQ => exact (by intro c x y w e h; exact And.intro (e.symm.trans (And.left h)) (And.right h))
      case hF => intro vs; simp only [putAll, Act.put, List.setIfInBounds_toArray, List.set_cons_zero, List.set_cons_succ, Nat.reduceAdd]; rfl
      case h0 => exact HG0.out.below ⟨rfl, rfl, rfl, Nat.le_refl _, fun _ _ => rfl⟩
      case hstep =>
        repeat' (first | exact AllOps.nil | apply AllOps.cons)
        · intro vs wx hG hd K hK
          replace hK : ∀ (uu : Value) (w' : World), Below wx.heap.size wx w' → ((fun wx => Ab3 w wx K0 q A c q Ay cy b7)) w' → Hx (.v (.int .i64 0)) uu w' → K _ w' := hK
          simp only [Act.put, List.setIfInBounds_toArray, List.set_cons_zero, List.set_cons_succ] at hK ⊢
          have HK := Lib.hid hK
          have HG := Lib.hid hG
          clear hK hd
          clear hG
          go_simp
          exact HK.out _ _ (Below.refl _ _) HG.out rfl
        · intro vs wx hG hd K hK
          have e0 : vs 0 = .int .i64 0 := hd.get (j := 0) (by simp [depsOf, Region.binds])
          replace hK : ∀ (uu : Value) (w' : World), Below wx.heap.size wx w' → ((fun wx => Ab3 w wx K0 q A c q Ay cy b7)) w' → Hx (.v (.bool false)) uu w' → K _ w' := hK
          simp only [Act.put, List.setIfInBounds_toArray, List.set_cons_zero, List.set_cons_succ, e0] at hK ⊢
          have HK := Lib.hid hK
          have HG := Lib.hid hG
          clear hK hd e0
          clear hG
          go_simp
          exact HK.out _ _ (Below.refl _ _) HG.out rfl
        · intro vs wx hG hd K hK
          have e1 : vs 1 = .bool false := hd.get (j := 1) (by simp [depsOf, Region.binds])
          replace hK : ∀ (uu : Value) (w' : World), Below wx.heap.size wx w' → ((fun wx => Ab3 w wx K0 q A c q Ay cy b7)) w' → Hx (.v (.bool false)) uu w' → K _ w' := hK
          simp only [Act.put, List.setIfInBounds_toArray, List.set_cons_zero, List.set_cons_succ, e1] at hK ⊢
          have HK := Lib.hid hK
          have HG := Lib.hid hG
          clear hK hd e1
          clear hG
          go_simp
          exact HK.out _ _ (Below.refl _ _) HG.out rfl
        · intro vs wx hG hd K hK
          have e2 : vs 2 = .bool false := hd.get (j := 2) (by simp [depsOf, Region.binds])
          replace hK : ∀ (uu : Value) (w' : World), Below wx.heap.size wx w' → ((fun wx => Ab3 w wx K0 q A c q Ay cy b7)) w' → Hx (.v (qv q Ay cy)) uu w' → K _ w' := hK
          simp only [Act.put, List.setIfInBounds_toArray, List.set_cons_zero, List.set_cons_succ, e2] at hK ⊢
          have HK := Lib.hid hK
          have HG := Lib.hid hG
          clear hK hd e2
          have p0 : wx.cell? ⟨w.heap.size, 0, none⟩ = some (.int .i64 q.op) := HG.out.bq.cell rfl
          have p1 : wx.cell? ⟨w.heap.size, 1, none⟩ = some (.slice A q.rs.length c) := HG.out.bq.cell rfl
          have p2 : wx.cell? ⟨w.heap.size, 2, none⟩ = some (.int .i64 q.fr) := HG.out.bq.cell rfl
          have p3 : wx.cell? ⟨w.heap.size, 3, none⟩ = some (.int .i64 q.to_) := HG.out.bq.cell rfl
          have p4 : wx.cell? ⟨w.heap.size, 4, none⟩ = some (.int .i64 q.st) := HG.out.bq.cell rfl
          have p5 : wx.cell? ⟨w.heap.size, 5, none⟩ = some (.bool q.nt) := HG.out.bq.cell rfl
          have pl := HG.out.bq.lt
          have y0 : wx.cell? ⟨b7, 0, none⟩ = some (.int .i64 q.op) := HG.out.by_.cell rfl
          have y1 : wx.cell? ⟨b7, 1, none⟩ = some (.slice Ay q.rs.length cy) := HG.out.by_.cell rfl
          have y2 : wx.cell? ⟨b7, 2, none⟩ = some (.int .i64 q.fr) := HG.out.by_.cell rfl
          have y3 : wx.cell? ⟨b7, 3, none⟩ = some (.int .i64 q.to_) := HG.out.by_.cell rfl
          have y4 : wx.cell? ⟨b7, 4, none⟩ = some (.int .i64 q.st) := HG.out.by_.cell rfl
          have y5 : wx.cell? ⟨b7, 5, none⟩ = some (.bool q.nt) := HG.out.by_.cell rfl
          have yl := HG.out.by_.lt
          clear hG
          go_simp
          exact HK.out _ _ (Below.refl _ _) HG.out rfl
        · intro vs wx hG hd K hK
          have e2 : vs 2 = .bool false := hd.get (j := 2) (by simp [depsOf, Region.binds])
          have e3 : vs 3 = qv q Ay cy := hd.get (j := 3) (by simp [depsOf, Region.binds])
          replace hK : ∀ (uu : Value) (w' : World), Below wx.heap.size wx w' → ((fun wx => Ab3 w wx K0 q A c q Ay cy b7)) w' → Hx (.q q) uu w' → K _ w' := hK
          simp only [Act.put, List.setIfInBounds_toArray, List.set_cons_zero, List.set_cons_succ, e2, e3] at hK ⊢
          have HK := Lib.hid hK
          have HG := Lib.hid hG
          clear hK hd e2 e3
          clear hG
          go_simp
          go_at_call 16
          refine (fromQ_any wx HG.out.ry (Nat.le_refl _) HLQ.out).mono ?_
          rintro e w9 ⟨A9, c9, rfl, h9, hb⟩
          exact HK.out _ _ hb (HG.out.below hb) ⟨A9, c9, rfl, (So.sr encR_len h9).1⟩
        · intro vs wx hG hd K hK
          have e2 : vs 2 = .bool false := hd.get (j := 2) (by simp [depsOf, Region.binds])
          replace hK : ∀ (uu : Value) (w' : World), Below wx.heap.size wx w' → ((fun wx => Ab3 w wx K0 q A c q Ay cy b7)) w' → Hx (.v (qv q A c)) uu w' → K _ w' := hK
          simp only [Act.put, List.setIfInBounds_toArray, List.set_cons_zero, List.set_cons_succ, e2] at hK ⊢
          have HK := Lib.hid hK
          have HG := Lib.hid hG
          clear hK hd e2
          have p0 : wx.cell? ⟨w.heap.size, 0, none⟩ = some (.int .i64 q.op) := HG.out.bq.cell rfl
          have p1 : wx.cell? ⟨w.heap.size, 1, none⟩ = some (.slice A q.rs.length c) := HG.out.bq.cell rfl
          have p2 : wx.cell? ⟨w.heap.size, 2, none⟩ = some (.int .i64 q.fr) := HG.out.bq.cell rfl
          have p3 : wx.cell? ⟨w.heap.size, 3, none⟩ = some (.int .i64 q.to_) := HG.out.bq.cell rfl
          have p4 : wx.cell? ⟨w.heap.size, 4, none⟩ = some (.int .i64 q.st) := HG.out.bq.cell rfl
          have p5 : wx.cell? ⟨w.heap.size, 5, none⟩ = some (.bool q.nt) := HG.out.bq.cell rfl
          have pl := HG.out.bq.lt
          have y0 : wx.cell? ⟨b7, 0, none⟩ = some (.int .i64 q.op) := HG.out.by_.cell rfl
          have y1 : wx.cell? ⟨b7, 1, none⟩ = some (.slice Ay q.rs.length cy) := HG.out.by_.cell rfl
          have y2 : wx.cell? ⟨b7, 2, none⟩ = some (.int .i64 q.fr) := HG.out.by_.cell rfl
          have y3 : wx.cell? ⟨b7, 3, none⟩ = some (.int .i64 q.to_) := HG.out.by_.cell rfl
          have y4 : wx.cell? ⟨b7, 4, none⟩ = some (.int .i64 q.st) := HG.out.by_.cell rfl
          have y5 : wx.cell? ⟨b7, 5, none⟩ = some (.bool q.nt) := HG.out.by_.cell rfl
          have yl := HG.out.by_.lt
          clear hG
          go_simp
          exact HK.out _ _ (Below.refl _ _) HG.out rfl
        · intro vs wx hG hd K hK
          have e2 : vs 2 = .bool false := hd.get (j := 2) (by simp [depsOf, Region.binds])
          obtain ⟨A4, c4, e4, r4⟩ : ∃ A' c', vs 4 = qv q A' c' ∧ Rr wx wx.heap.size A' c' q.rs := hd.get (j := 4) (by simp [depsOf, Region.binds])
          have e5 : vs 5 = qv q A c := hd.get (j := 5) (by simp [depsOf, Region.binds])
          replace hK : ∀ (uu : Value) (w' : World), Below wx.heap.size wx w' → ((fun wx => Ab3 w wx K0 q A c q Ay cy b7)) w' → Hx (.v (.bool true)) uu w' → K _ w' := hK
          simp only [Act.put, List.setIfInBounds_toArray, List.set_cons_zero, List.set_cons_succ, e2, e4, e5] at hK ⊢
          have HK := Lib.hid hK
          have HG := Lib.hid hG
          clear hK hd e2 e4 e5
          clear hG
          go_simp
          go_at_call 15
          refine (sameQ_refl wx r4 (HG.out.rr.more (Nat.le_trans HG.out.hk HG.out.bl.size)) (Nat.le_refl _)).mono ?_
          rintro e w1 ⟨rfl, hb⟩
          exact HK.out _ _ hb (HG.out.below hb) rfl
        · intro vs wx hG hd K hK
          have e2 : vs 2 = .bool false := hd.get (j := 2) (by simp [depsOf, Region.binds])
          have e6 : vs 6 = .bool true := hd.get (j := 6) (by simp [depsOf, Region.binds])
          replace hK : ∀ (uu : Value) (w' : World), Below wx.heap.size wx w' → ((fun wx => Ab3 w wx K0 q A c q Ay cy b7)) w' → Hx (.v (.bool false)) uu w' → K _ w' := hK
          simp only [Act.put, List.setIfInBounds_toArray, List.set_cons_zero, List.set_cons_succ, e2, e6] at hK ⊢
          have HK := Lib.hid hK
          have HG := Lib.hid hG
          clear hK hd e2 e6
          clear hG
          go_simp
          exact HK.out _ _ (Below.refl _ _) HG.out rfl
        · intro vs wx hG hd K hK
          have e2 : vs 2 = .bool false := hd.get (j := 2) (by simp [depsOf, Region.binds])
          have e7 : vs 7 = .bool false := hd.get (j := 7) (by simp [depsOf, Region.binds])
          replace hK : ∀ (uu : Value) (w' : World), Below wx.heap.size wx w' → ((fun wx => Ab3 w wx K0 q A c q Ay cy b7)) w' → Hx (.v (.bool false)) uu w' → K _ w' := hK
          simp only [Act.put, List.setIfInBounds_toArray, List.set_cons_zero, List.set_cons_succ, e2, e7] at hK ⊢
          have HK := Lib.hid hK
          have HG := Lib.hid hG
          clear hK hd e2 e7
          clear hG
          go_simp
          exact HK.out _ _ (Below.refl _ _) HG.out rfl
      case hend =>
        intro vs wx hG hv
        have e9 : vs 8 = .bool false := hv 8 (by decide)
        rw [e9]
        have HA := Lib.hid hG
        clear hG hv e9
        go_wp2_with fail
        refine (HPT.out _ HA.out.bl).mono ?_
        rintro e w6 ⟨A9, c9, rfl, h9r, b9⟩
        have h9c := (So.sr encR_len h9r).1.le
        go_upto_region 8 with fail
        have hb7 : Below w6.heap.size w6 (w6.alloc (.cells (qc y A9 c9) 27)) := (Below.refl _ _).alloc (Nat.le_refl _) _
        have hy7 : Rwo (w6.alloc (.cells (qc y A9 c9) 27)) w6.heap.size (qc y A9 c9) 27 := ⟨heap_alloc_new w6 _⟩
        generalize w6.alloc (.cells (qc y A9 c9) 27) = w7 at hb7 hy7 ⊢
        have b97 := b9.trans (hb7.mono b9.size)
        obtain ⟨bb, hbb⟩ : ∃ bb, bb = w6.heap.size := ⟨_, rfl⟩
        rw [← hbb] at hy7 ⊢
        have HG0 : Hid (Ab3 w w7 K0 q A c y A9 c9 bb) := Lib.hid ⟨HA.out.bq.below b97, hy7, HA.out.rr.below (b97.mono (Nat.le_trans HA.out.hk HA.out.bl.size)), ((So.sr encR_len h9r).1.below hb7).more hb7.size, HA.out.bl.trans (b97.mono HA.out.bl.size), HA.out.hk⟩
        clear hb7 hy7 b97 hbb h9r b9 HA
        go_wp2_with fail
        refine (HAW.out w7 HG0.out.bl).mono ?_
        rintro e w8 ⟨rfl, b8⟩
        have HG8 := Lib.hid (HG0.out.below b8)
        clear b8 HG0
        by_cases hz : er = 0
        · subst hz
          obtain ⟨hr1, hr2⟩ := parseQ_inv HPE.out
          obtain ⟨hs1, hq1⟩ := right_ok hr1
          have HRY : Hid (∀ wx, Ab3 w wx K0 q A c y A9 c9 bb → Calls Tryz.prog 10 #[qv y A9 c9] wx fun e w' => e = .returned (.bool true) ∧ Below wx.heap.size wx w') := Lib.hid fun wx h => by
            rw [← hr1]
            exact akRight_any h.ry (Nat.le_refl _) hs1 hq1.s2
          have HTY : Hid (∀ wx, Ab3 w wx K0 q A c y A9 c9 bb → Calls Tryz.prog 13 #[qv y A9 c9] wx (NewStr wx t)) := Lib.hid fun wx h => by
            obtain ⟨h1, h2, h3, h4, h5⟩ := HGL.out wx h.bl
            have h9 := akText_any wx h.ry (Nat.le_refl _) hs1 HLY.out hq1 h4 h5 h3
            rwa [hr2] at h9
          clear hr1 hr2 hs1 hq1
          have p0 : w8.cell? ⟨bb, 0, none⟩ = some (.int .i64 y.op) := HG8.out.by_.cell rfl
          have p1 : w8.cell? ⟨bb, 1, none⟩ = some (.slice A9 y.rs.length c9) := HG8.out.by_.cell rfl
          have p2 : w8.cell? ⟨bb, 2, none⟩ = some (.int .i64 y.fr) := HG8.out.by_.cell rfl
          have p3 : w8.cell? ⟨bb, 3, none⟩ = some (.int .i64 y.to_) := HG8.out.by_.cell rfl
          have p4 : w8.cell? ⟨bb, 4, none⟩ = some (.int .i64 y.st) := HG8.out.by_.cell rfl
          have p5 : w8.cell? ⟨bb, 5, none⟩ = some (.bool y.nt) := HG8.out.by_.cell rfl
          have pl := HG8.out.by_.lt
          go_wp2_with fail
          refine (HRY.out w8 HG8.out).mono ?_
          rintro e w9 ⟨rfl, b9⟩
          have HG9 := Lib.hid (HG8.out.below b9)
          clear b9 HG8
          clear p0 p1 p2 p3 p4 p5 pl
          have p0 : w9.cell? ⟨bb, 0, none⟩ = some (.int .i64 y.op) := HG9.out.by_.cell rfl
          have p1 : w9.cell? ⟨bb, 1, none⟩ = some (.slice A9 y.rs.length c9) := HG9.out.by_.cell rfl
          have p2 : w9.cell? ⟨bb, 2, none⟩ = some (.int .i64 y.fr) := HG9.out.by_.cell rfl
          have p3 : w9.cell? ⟨bb, 3, none⟩ = some (.int .i64 y.to_) := HG9.out.by_.cell rfl
          have p4 : w9.cell? ⟨bb, 4, none⟩ = some (.int .i64 y.st) := HG9.out.by_.cell rfl
          have p5 : w9.cell? ⟨bb, 5, none⟩ = some (.bool y.nt) := HG9.out.by_.cell rfl
          have pl := HG9.out.by_.lt
          go_wp2_with fail
          refine (HTY.out w9 HG9.out).mono ?_
          rintro e w10 ⟨rfl, b10⟩
          have HB := Lib.hid (HG9.out.bl.trans (b10.mono HG9.out.bl.size))
          clear b10 HG9
          clear p0 p1 p2 p3 p4 p5 pl
          go_wp2_with fail
          go_ret
          exact ⟨rfl, HB.out⟩
        · have z1 : (er == 0) = false := by simpa using hz
          have z2 : (er != 0) = true := by simpa using hz
          have z3 : decide (er = 0) = false := by simpa using hz
          have z4 : decide (er ≠ 0) = true := by simpa using hz
          go_wp2_with fail
          go_ret
          exact ⟨rfl, HG8.out.bl⟩

end Go.Proofs.YtcmpenmaphmifaaGreatDoor
namespace Go.Proofs.YtcmpenmaphmifaaGreatDoor
open Go.ChangeShapes Go.WideShapes Go.ChangeAt Go.RowKit Go.ChangeMaps

set_option maxRecDepth 100000 in
theorem askback_contract (H : Type) (enc : TypeId × Value → H) (W : World) (base : Nat) (args : Array Value) (ds gs : List (DataW H)) (before : List MemPlace)
    (hval : ∀ (j : Nat) t v, Tryz.f4.params[j]? = some t → args[j]? = some v → Value.okWide Tryz.prog W .any base t v)
    (hW : DataW.Whole enc Tryz.prog Tryz.f4.params.toList Rows.askBackSpec.vars false W args.toList ds gs before) (hk0 : Rows.uptoSmall H (ds ++ gs) = true) (hL : laidMetH Tryz.prog Rows.askBackUptoRow.laid W) (hsh : W.ShapedOpen Tryz.prog) :
    Calls Tryz.prog 4 args W fun e W' => ∃ v, e = .returned v ∧ Rows.askBackSpec.post enc Tryz.prog Tryz.f4 false true false false W args v W' := by
  have hW' := hW
  obtain ⟨p, q, hA0, hV, rfl, hfz, hnd⟩ := hW
  have hA : DataW.TrodAll enc Tryz.prog W 0 (fun _ => true) true Tryz.f4.params.toList args.toList ds p := hA0
  rw [Tryz.params4] at hA hval
  obtain ⟨v0, vs0, d0, ds0, p0, q0, hargs, hds, hps, h0, r0⟩ := trodAll_cons hA
  obtain ⟨v1, vs1, d1, ds1, p1, q1, ha1, hd1, hp1, h1, r1⟩ := trodAll_cons r0
  subst ha1 hd1 hp1
  obtain ⟨e1, e2, e3⟩ := trodAll_nil r1
  subst e1 e2 e3
  subst hds hps
  obtain rfl : args = #[v0, v1] := by cases args; simp_all
  obtain ⟨rfl, rfl⟩ := trodVars_none hV
  obtain ⟨qq, A, c, rfl, hr, hl, hS, hq⟩ := open_qu (hval 0 _ v0 rfl rfl) h0
  obtain ⟨t, rfl, rfl, rfl, th⟩ := open_string Tryz.underlying9 (hval 1 _ v1 rfl rfl) h1
  have hL2 : laidMet Tryz.prog Rows.askBackUptoRow.laid W := by rwa [MakeChecks.laidMetH_plain _ _ _ (by kernel_rfl)] at hL
  obtain ⟨hw, he, hg, hwo⟩ := ask_vars_of (show laidMet Tryz.prog Rows.askTextsUptoRow.laid W from hL2)
  have hm : Mx W := mx_of hsh
  have hk : Rows.uptoBulkAll (H := H) _ ≤ 1048576 := of_decide_eq_true hk0
  simp only [Rows.uptoBulkAll, List.append_nil] at hk
  have hk2 : Rows.uptoBulk d0 + t.size ≤ 1048576 := by
    have ht : t.data.toList.length = t.size := by simp
    have h1 : Rows.uptoBulk (H := H) (.lit (.string t.data.toList)) = t.data.toList.length + 1 ∨ Rows.uptoBulk (H := H) (.lit (.string t.data.toList)) = t.data.toList.length := by simp [Rows.uptoBulk]
    omega
  refine (askback_any t W hr (Nat.le_refl _) (fun x hx => by have := hS x hx; omega) (by omega) hq (by omega) hm he hw hg hwo).mono fun e W' ⟨he, hg⟩ => ?_
  subst he
  exact ⟨_, rfl, law_post (s := Rows.askBackSpec) hW' rfl rfl (by kernel_rfl) ⟨rfl, rfl, rfl⟩ hg⟩

theorem askback_reads (os : Os) {H : Type} (enc : TypeId × Value → H) : ∃ places, DataW.whole enc Tryz.prog ((laidWorldQ os).forCall (fun _ _ => 0) ⟨#[], qArgs, []⟩).memory Tryz.f4.params.toList Rows.askBackSpec.vars false (qArgs : Array Value).toList 8 = some ([.agg [.lit (.int .i64 0), .nil, .lit (.int .i64 0), .lit (.int .i64 0), .lit (.int .i64 0), .lit (.bool false)], .lit (.string [])], [], places) :=
  ⟨[], by kernel_rfl⟩
theorem witness_shapedE {H : Type} {enc : TypeId × Value → H} {C : Checked} {os : Os} {f : FuncId} {fn : Func} {s : OpenSpec} {conds : List PathCond} {apart : Bool} {laid : List (String × DataW Unit)} (modest : Bool) (w0 : World) (args : Array Value) (hos : w0.os = os)
    (hsh : (w0.forCall (fun _ _ => 0) ⟨#[], args, []⟩).Shaped C.prog)
    (hok : Input.okWideB C.prog (w0.forCall (fun _ _ => 0) ⟨#[], args, []⟩) f ⟨#[], args, []⟩ = true)
    (hrow : s.preRow enc C.prog fn conds apart laid (w0.forCall (fun _ _ => 0) ⟨#[], args, []⟩).memory args) :
    ∃ (w : World) (tape : Tape) (i : Input), w.os = os ∧ (w.forCall tape i).Shaped C.prog ∧ i.vars = [] ∧ Input.okWide C.prog (w.forCall tape i) .any w.heap.size f i ∧
      s.preRow enc C.prog fn conds apart laid (w.forCall tape i).memory i.args ∧ ({ modest := modest } : Assume).holds C.prog (lone (Frame.enter C.prog f i.args .normal) [] (w.forCall tape i)) :=
  ⟨w0, fun _ _ => 0, ⟨#[], args, []⟩, hos, hsh, (Input.okWide_of_okWideB (base := 0) hok).1, (Input.okWide_of_okWideB hok).2, hrow, by
    simp only [Assume.holds]
    exact ⟨by simp, by simp, fun _ => Modest.zero, by simp, by simp⟩⟩

set_option maxRecDepth 100000 in
theorem askback_lifted (os : Os) (started : os.Started) (H : Type) (enc : TypeId × Value → H) (F : Stop.Interp) :
    ReturnsInHanded {} Tryz.checked os 4 .any ((Rows.OpenSpec.upto Rows.askBackSpec).preRow enc Tryz.prog Tryz.f4 Rows.askBackUptoRow.domain false Rows.askBackUptoRow.laid) (((Rows.OpenSpec.upto Rows.askBackSpec).at F).post enc Tryz.prog Tryz.f4 false true false false) := by
  obtain ⟨places, hx⟩ := askback_reads os enc
  refine returnsInHanded_of_row (C := Tryz.checked) (s := Rows.OpenSpec.upto Rows.askBackSpec) own started (by kernel_rfl) Tryz.func4
    (witness_shapedE (enc := enc) (C := Tryz.checked) false (laidWorldQ os) qArgs (World.laidAll_os _ _ _) (laid_worldQ_shaped os) (by kernel_rfl)
      (OpenSpec.preRow_of_cond 8 hx (by kernel_rfl) (fun k hk => by injection hk with hk; subst hk; kernel_rfl) (by kernel_rfl) (show laidMet Tryz.prog Rows.askBackUptoRow.laid _ from laid_worldQ_met os))) ?_
  intro W base args ds gs before hval hW _ hk0 _ hL hsh _
  exact askback_contract H enc W base args ds gs before hval hW (hk0 _ rfl) hL hsh

theorem askback_said : Rows.AskBackUptoSaid :=
  OpenClaim.holds_of_cond 4 Tryz.f4 rfl rfl rfl rfl rfl rfl rfl ⟨rfl, rfl, rfl, rfl, rfl⟩ rfl rfl rfl rfl rfl (by kernel_rfl) Tryz.func4 (by kernel_rfl)
    (of_decide_eq_true (by kernel_rfl)) (by unfold Func.isWrapper; first | (rw [if_pos (by decide +kernel)]; kernel_rfl) | (rw [if_neg (by decide +kernel)]; exact ⟨rfl, rfl⟩))
    (fun os started H enc _ F => by rw [OpenClaim.pre_eq_preRow]; exact askback_lifted os started H enc F)

theorem askback_plain (f : FuncId) (fn : Func) (hf : Tryz.pinned.checked.prog.funcNamed "slackwater/slackwaterlaw13.AskBack" = some f) (hfn : Tryz.pinned.checked.prog.funcs[f]? = some fn) :
    true = Tryz.pinned.checked.prog.looks [] ∧ ∀ (j : Nat) t, fn.params[j]? = some t → Tryz.pinned.checked.prog.wantsStandIn t = false := by
  obtain rfl : f = 4 := Option.some.inj ((show Tryz.prog.funcNamed "slackwater/slackwaterlaw13.AskBack" = some 4 by kernel_rfl).symm.trans hf) |>.symm
  obtain rfl : fn = Tryz.f4 := (Option.some.inj (Tryz.func4.symm.trans hfn)).symm
  refine ⟨by kernel_rfl, fun j t ht => ?_⟩
  rw [Tryz.params4] at ht
  have ht' : t = 24 ∨ t = 9 := by simpa using Array.mem_of_getElem? ht
  rcases ht' with rfl | rfl
  · exact (show Tryz.prog.wantsStandIn 24 = false by kernel_rfl)
  · exact (show Tryz.prog.wantsStandIn 9 = false by kernel_rfl)

/-- THE CARD -/
theorem askback_card : Rows.AskBackUptoCardSaid :=
  Claim7.holds_tied_plain_at .later [] _ _ _ _ askback_said (fun _ h => by cases h) (by kernel_rfl) (fun _ h => by cases h) askBackUpto_row_tie rfl ⟨rfl, rfl⟩ (by kernel_rfl) rfl askback_plain (by kernel_rfl)
end Go.Proofs.YtcmpenmaphmifaaGreatDoor
