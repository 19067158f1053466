/- Queries: the mathematics of reading their texts. -/
import Derived.Test.YtcfbcidakddhfaaGreatDoorPr28
import Derived.Test.YtcfbcidakddhfaaGreatDoorPr19
import Derived.Test.YtcfbcidakddhfaaGreatDoorPr17
import Derived.Lib.ParseIntBTie
namespace Go.Proofs.YtcfbcidakddhfaaGreatDoor

/-- What stands ahead of the first byte c. -/
def cutB (c : UInt8) : List UInt8 → List UInt8
  | [] => []
  | x :: r => if x = c then [] else x :: cutB c r
theorem cutB_no (c : UInt8) : ∀ s, ∀ y ∈ cutB c s, y ≠ c
  | [], _, h => by cases h
  | x :: r, y, h => by
    unfold cutB at h
    by_cases hx : x = c
    · rw [if_pos hx] at h; cases h
    · rw [if_neg hx] at h
      rcases List.mem_cons.1 h with rfl | h
      · exact hx
      · exact cutB_no c r y h
theorem cutB_at (c : UInt8) : ∀ s, (c ∈ s ∧ ∃ r, s = cutB c s ++ c :: r) ∨ (c ∉ s ∧ cutB c s = s)
  | [] => .inr ⟨by simp, rfl⟩
  | x :: r => by
    unfold cutB
    by_cases hx : x = c
    · subst hx
      exact .inl ⟨List.mem_cons_self, r, by rw [if_pos rfl]; rfl⟩
    · rw [if_neg hx]
      rcases cutB_at c r with ⟨h1, r2, h2⟩ | ⟨h1, h2⟩
      · exact .inl ⟨List.mem_cons_of_mem _ h1, r2, by rw [List.cons_append, ← h2]⟩
      · exact .inr ⟨fun h => (List.mem_cons.1 h).elim (fun e => hx e.symm) h1, by rw [h2]⟩
theorem cutB_app (c : UInt8) : ∀ (d : List UInt8) (r : List UInt8), (∀ y ∈ d, y ≠ c) → (r = [] ∨ ∃ r2, r = c :: r2) → cutB c (d ++ r) = d
  | [], r, _, hr => by
    rcases hr with rfl | ⟨r2, rfl⟩
    · rfl
    · simp [cutB]
  | x :: d, r, h, hr => by
    have ih := cutB_app c d r (fun y hy => h y (List.mem_cons_of_mem _ hy)) hr
    have hx := h x List.mem_cons_self
    rw [List.cons_append]
    unfold cutB
    rw [if_neg hx, ih]
theorem cut_one (c : UInt8) (s : List UInt8) : (Lib.cut s [c]).1 = cutB c s ∧ (Lib.cut s [c]).2.2 = decide (c ∈ s) := by
  have hn := cutB_no c s
  rcases cutB_at c s with ⟨h1, r, h2⟩ | ⟨h1, h2⟩
  · have hi : Lib.index s [c] = ((cutB c s).length : Int) := by
      rw [Lib.index_one]
      conv => lhs; rw [h2]
      exact indexByte_at c r _ hn
    unfold Lib.cut
    rw [hi, if_pos (by omega)]
    refine ⟨?_, by simp [h1]⟩
    simp only [Int.toNat_natCast]
    have h4 := congrArg (List.take (cutB c s).length) h2
    rwa [List.take_left' rfl] at h4
  · have hi : Lib.index s [c] = -1 := by
      rw [Lib.index_one]
      rw [h2] at hn
      exact indexByte_not c s hn
    unfold Lib.cut
    rw [hi, if_neg (by omega)]
    exact ⟨h2.symm, by simp [h1]⟩
theorem cutB_len (c : UInt8) : ∀ s, (cutB c s).length ≤ s.length
  | [] => Nat.le_refl _
  | x :: r => by
    have ih := cutB_len c r
    unfold cutB
    split
    · simp
    · simp; omega
/-- The digits with which a text begins. -/
def runB : List UInt8 → List UInt8
  | [] => []
  | x :: r => if 48 ≤ x.toNat ∧ x.toNat ≤ 57 then x :: runB r else []
theorem runB_app : ∀ (d r : List UInt8), (∀ y ∈ d, 48 ≤ y.toNat ∧ y.toNat ≤ 57) → (r = [] ∨ ∃ x r2, r = x :: r2 ∧ ¬ (48 ≤ x.toNat ∧ x.toNat ≤ 57)) → runB (d ++ r) = d
  | [], r, _, hr => by
    rcases hr with rfl | ⟨x, r2, rfl, hx⟩
    · rfl
    · simp only [List.nil_append, runB]
      rw [if_neg hx]
  | x :: d, r, h, hr => by
    have ih := runB_app d r (fun y hy => h y (List.mem_cons_of_mem _ hy)) hr
    rw [List.cons_append]
    unfold runB
    rw [if_pos (h x List.mem_cons_self), ih]
theorem runB_dig : ∀ s, ∀ y ∈ runB s, 48 ≤ y.toNat ∧ y.toNat ≤ 57
  | [], _, h => by cases h
  | x :: r, y, h => by
    unfold runB at h
    by_cases hx : 48 ≤ x.toNat ∧ x.toNat ≤ 57
    · rw [if_pos hx] at h
      rcases List.mem_cons.1 h with rfl | h
      · exact hx
      · exact runB_dig r y h
    · rw [if_neg hx] at h; cases h
theorem runB_pre : ∀ s, ∃ r, s = runB s ++ r
  | [] => ⟨[], rfl⟩
  | x :: r => by
    obtain ⟨r2, h2⟩ := runB_pre r
    unfold runB
    split
    · exact ⟨r2, by rw [List.cons_append, ← h2]⟩
    · exact ⟨x :: r, rfl⟩
/-- The number whose text a text is. -/
def numOf (d : List UInt8) : Option Int :=
  match Lib.parseIntB 64 d with
  | .ok v => if Lib.itoa v = d then some v else none
  | _ => none
theorem numOf_some {d : List UInt8} {v : Int} (h : numOf d = some v) : d = Lib.itoa v ∧ -9223372036854775808 ≤ v ∧ v ≤ 9223372036854775807 ∧ Lib.parseIntB 64 d = .ok v := by
  unfold numOf at h
  split at h
  · rename_i u hu
    have hb := Lib.parseIntB_bounds hu
    split at h
    · rename_i he
      cases h
      exact ⟨he.symm, by omega, by omega, hu⟩
    · cases h
  · cases h
theorem parse_dec63 (n : Nat) (hn : n ≤ 9223372036854775807) : Lib.parseIntB 64 (dec n) = .ok (n : Int) := by
  have hne : dec n ≠ [] := fun e => by have := dec_pos n; rw [e] at this; simp at this
  obtain ⟨x, r, e⟩ := List.exists_cons_of_ne_nil hne
  have hx := dec_digit n x (by rw [e]; exact List.mem_cons_self)
  have hu : Lib.parseUintB 64 (x :: r) = .ok n := by
    unfold Lib.parseUintB
    rw [if_neg (by simp), ← e]
    have := parseUintM_app (2 ^ 64 - 1) (by decide) n (by omega) []
    rw [List.append_nil] at this
    rw [this]
    rfl
  rw [e]
  unfold Lib.parseIntB
  simp only
  rw [if_neg (by omega), hu]
  simp only
  rw [if_neg (by omega), if_neg (by omega), if_neg (by omega)]
theorem itoa_nat (n : Nat) : Lib.itoa (n : Int) = dec n := by rw [itoa_pos (by omega)]; rfl
theorem numOf_dec (n : Nat) (hn : n ≤ 9223372036854775807) : numOf (dec n) = some (n : Int) := by
  unfold numOf
  rw [parse_dec63 n hn]
  simp only
  rw [if_pos (itoa_nat n)]
def numA : List UInt8 → Option (Int × Nat)
  | [] => none
  | x :: r => if x = 32 then (numOf (cutB 32 r)).map fun v => (v, 1 + (cutB 32 r).length) else none
def numZ : List UInt8 → Option (Int × Nat)
  | [] => none
  | x :: r => if x = 32 then (numOf (runB r)).map fun v => (v, 1 + (runB r).length) else none
theorem numA_some {t : List UInt8} {v : Int} {u : Nat} (h : numA t = some (v, u)) : ∃ r, t = 32 :: r ∧ numOf (cutB 32 r) = some v ∧ u = 1 + (cutB 32 r).length := by
  cases t with
  | nil => cases h
  | cons x r =>
    unfold numA at h
    simp only at h
    by_cases hx : x = 32
    · rw [if_pos hx] at h
      obtain ⟨y, h1, h2⟩ := Option.map_eq_some_iff.1 h
      cases h2
      exact ⟨r, by rw [hx], h1, rfl⟩
    · rw [if_neg hx] at h; cases h
theorem numZ_some {t : List UInt8} {v : Int} {u : Nat} (h : numZ t = some (v, u)) : ∃ r, t = 32 :: r ∧ numOf (runB r) = some v ∧ u = 1 + (runB r).length := by
  cases t with
  | nil => cases h
  | cons x r =>
    unfold numZ at h
    simp only at h
    by_cases hx : x = 32
    · rw [if_pos hx] at h
      obtain ⟨y, h1, h2⟩ := Option.map_eq_some_iff.1 h
      cases h2
      exact ⟨r, by rw [hx], h1, rfl⟩
    · rw [if_neg hx] at h; cases h
theorem numA_used {t : List UInt8} {v : Int} {u : Nat} (h : numA t = some (v, u)) : 1 ≤ u ∧ u ≤ t.length := by
  obtain ⟨r, rfl, _, h2⟩ := numA_some h
  have := cutB_len 32 r
  rw [List.length_cons]
  omega
def headS (r : List UInt8) : Prop := r = [] ∨ ∃ r2, r = 32 :: r2
theorem dec_no32 (n : Nat) : ∀ y ∈ dec n, y ≠ 32 := fun y hy e => by
  have := dec_digit n y hy
  subst e
  simp at this
theorem AZ_one {t : List UInt8} {v : Int} {u : Nat} (h : numA t = some (v, u)) (hv : 0 ≤ v) : numZ t = some (v, u) := by
  obtain ⟨r, rfl, h1, h2⟩ := numA_some h
  obtain ⟨e, _, v2, _⟩ := numOf_some h1
  obtain ⟨n, rfl⟩ := Int.eq_ofNat_of_zero_le hv
  rw [itoa_nat] at e
  have hrun : runB r = dec n := by
    rcases cutB_at 32 r with ⟨_, r2, h3⟩ | ⟨_, h3⟩
    · rw [h3, e]
      exact runB_app _ _ (dec_digit n) (.inr ⟨32, r2, rfl, by decide⟩)
    · rw [← h3, e]
      have := runB_app (dec n) [] (dec_digit n) (.inl rfl)
      rwa [List.append_nil] at this
  unfold numZ
  simp only
  rw [if_pos trivial, hrun, numOf_dec n (by omega), h2, e]
  rfl
theorem ZA_one {t : List UInt8} {v : Int} {u : Nat} (h : numZ t = some (v, u)) (hs : headS (t.drop u)) : numA t = some (v, u) ∧ 0 ≤ v := by
  obtain ⟨r, rfl, h1, h2⟩ := numZ_some h
  obtain ⟨e, _, v2, _⟩ := numOf_some h1
  have hd := runB_dig r
  have hv : 0 ≤ v := by
    rcases Int.lt_or_le v 0 with h9 | h9
    · rw [e, itoa_neg h9] at hd
      have := hd 45 List.mem_cons_self
      simp at this
    · exact h9
  obtain ⟨n, rfl⟩ := Int.eq_ofNat_of_zero_le hv
  rw [itoa_nat] at e
  obtain ⟨r2, h3⟩ := runB_pre r
  have hr2 : (32 :: r).drop u = r2 := by
    rw [h2, Nat.add_comm, List.drop_succ_cons]
    have h4 := congrArg (List.drop (runB r).length) h3
    rwa [List.drop_left' rfl] at h4
  rw [hr2] at hs
  have hcut : cutB 32 r = dec n := by
    rw [h3, e]
    exact cutB_app 32 _ _ (dec_no32 n) hs
  refine ⟨?_, hv⟩
  unfold numA
  simp only
  rw [if_pos trivial, hcut, numOf_dec n (by omega), h2, e]
  rfl
def readX (f : List UInt8 → Option (Int × Nat)) : Nat → List UInt8 → Option (List Int × List UInt8)
  | 0, t => some ([], t)
  | n + 1, t => match f t with
    | none => none
    | some (v, u) => match readX f n (t.drop u) with
      | none => none
      | some (vs, r) => some (v :: vs, r)
theorem readX_succ {f : List UInt8 → Option (Int × Nat)} {n : Nat} {t : List UInt8} {vs : List Int} {r : List UInt8} (h : readX f (n + 1) t = some (vs, r)) : ∃ v u ws, f t = some (v, u) ∧ readX f n (t.drop u) = some (ws, r) ∧ vs = v :: ws := by
  unfold readX at h
  split at h
  · cases h
  · rename_i v u hf
    split at h
    · cases h
    · rename_i ws r' hr
      cases h
      exact ⟨v, u, ws, hf, hr, rfl⟩
theorem readX_mk {f : List UInt8 → Option (Int × Nat)} {n u : Nat} {t : List UInt8} {v : Int} {ws : List Int} {r : List UInt8} (h1 : f t = some (v, u)) (h2 : readX f n (t.drop u) = some (ws, r)) : readX f (n + 1) t = some (v :: ws, r) := by
  unfold readX
  rw [h1]
  simp only
  rw [h2]
theorem readX_len {f : List UInt8 → Option (Int × Nat)} : ∀ {n : Nat} {t : List UInt8} {vs : List Int} {r : List UInt8}, readX f n t = some (vs, r) → vs.length = n
  | 0, t, vs, r, h => by cases h; rfl
  | n + 1, t, vs, r, h => by
    obtain ⟨v, u, ws, _, h2, rfl⟩ := readX_succ h
    rw [List.length_cons, readX_len h2]
theorem readX_le : ∀ {n : Nat} {t : List UInt8} {vs : List Int} {r : List UInt8}, readX numA n t = some (vs, r) → ∀ v ∈ vs, v ≤ 9223372036854775807
  | 0, t, vs, r, h, v, hv => by cases h; cases hv
  | n + 1, t, vs, r, h, v, hv => by
    obtain ⟨v', u, ws, h1, h2, rfl⟩ := readX_succ h
    rcases List.mem_cons.1 hv with rfl | hv
    · obtain ⟨r', _, h3, _⟩ := numA_some h1
      exact (numOf_some h3).2.2.1
    · exact readX_le h2 v hv
theorem getD_le {vs : List Int} (h : ∀ v ∈ vs, v ≤ 9223372036854775807) (k : Nat) : vs.getD k 0 ≤ 9223372036854775807 := by
  rw [List.getD_eq_getElem?_getD]
  by_cases hk : k < vs.length
  · rw [List.getElem?_eq_getElem hk]
    exact h _ (List.getElem_mem hk)
  · rw [List.getElem?_eq_none (by omega)]
    simp
theorem read_AZ : ∀ (n : Nat) (t : List UInt8) (vs : List Int) (r : List UInt8), readX numA n t = some (vs, r) → (∀ v ∈ vs, 0 ≤ v) → readX numZ n t = some (vs, r)
  | 0, t, vs, r, h, _ => h
  | n + 1, t, vs, r, h, hv => by
    obtain ⟨v, u, ws, h1, h2, rfl⟩ := readX_succ h
    exact readX_mk (AZ_one h1 (hv v List.mem_cons_self)) (read_AZ n _ _ _ h2 fun x hx => hv x (List.mem_cons_of_mem _ hx))
theorem read_ZA : ∀ (n : Nat) (t : List UInt8) (vs : List Int) (r : List UInt8), readX numZ n t = some (vs, r) → headS r → readX numA n t = some (vs, r)
  | 0, t, vs, r, h, _ => h
  | n + 1, t, vs, r, h, hs => by
    obtain ⟨v, u, ws, h1, h2, rfl⟩ := readX_succ h
    have hh : headS (t.drop u) := by
      cases n with
      | zero => cases h2; exact hs
      | succ m =>
        obtain ⟨v', u', ws', h3, _, _⟩ := readX_succ h2
        obtain ⟨r', h4, _⟩ := numZ_some h3
        exact .inr ⟨r', h4⟩
    exact readX_mk (ZA_one h1 hh).1 (read_ZA n _ _ _ h2 hs)
def mkQ (op : Int) (rs : List Rp) (vs : List Int) (r : List UInt8) : Qr := ⟨op, rs, vs.getD 0 0, vs.getD 1 0, vs.getD 2 0, r == notesL⟩
def endQ (op : Int) (rs : List Rp) : Option (List Int × List UInt8) → Qr × Int
  | none => (Qr.zero, 90)
  | some (vs, r) => if (r = notesL ∨ r = []) ∧ rightQ (mkQ op rs vs r) = true then (mkQ op rs vs r, 0) else (Qr.zero, 90)
def kQ (op : Int) : Nat := if op = 0 then 2 else 3
theorem step_pos {op fr to_ st : Int} (h1 : 1 ≤ op) (h2 : op ≤ 5) (hs : spanB fr to_ = true) (h : stepQ op fr to_ st = true) : 1 ≤ st := by
  unfold stepQ at h
  rw [if_neg (by omega), win_nil h1 h2 hs] at h
  by_cases h9 : st < 1
  · rw [if_pos h9] at h; simp at h
  · omega
theorem right_nonneg {op : Int} {rs : List Rp} {vs : List Int} {r : List UInt8} (hl : vs.length = kQ op) (h : rightQ (mkQ op rs vs r) = true) : ∀ v ∈ vs, 0 ≤ v := by
  unfold rightQ at h
  simp only [Bool.and_eq_true] at h
  obtain ⟨ho, _, hs, hst⟩ := h
  have ho' : 0 ≤ op ∧ op < 6 := by simpa [opQ, mkQ] using ho
  have hs' := hs
  simp only [spanB, mkQ, Bool.and_eq_true] at hs'
  by_cases h0 : op = 0
  · have e : kQ op = 2 := if_pos h0
    rw [e] at hl
    match vs, hl with
    | [a, b], _ =>
      simp at hs'
      intro v hv
      simp at hv
      rcases hv with rfl | rfl <;> omega
  · have e : kQ op = 3 := if_neg h0
    rw [e] at hl
    match vs, hl with
    | [a, b, c], _ =>
      have hp := step_pos (op := op) (by omega) (by omega) hs hst
      simp [mkQ] at hp
      simp at hs'
      intro v hv
      simp at hv
      rcases hv with rfl | rfl | rfl <;> omega
theorem end_bad {op : Int} {rs : List Rp} {x : Option (List Int × List UInt8)} (h : ¬ ∃ vs r, x = some (vs, r) ∧ (r = notesL ∨ r = []) ∧ rightQ (mkQ op rs vs r) = true) : endQ op rs x = (Qr.zero, 90) := by
  cases x with
  | none => rfl
  | some p =>
    obtain ⟨vs, r⟩ := p
    exact if_neg fun h9 => h ⟨vs, r, rfl, h9⟩
theorem end_same (op : Int) (rs : List Rp) (t : List UInt8) : endQ op rs (readX numA (kQ op) t) = endQ op rs (readX numZ (kQ op) t) := by
  by_cases hA : ∃ vs r, readX numA (kQ op) t = some (vs, r) ∧ (r = notesL ∨ r = []) ∧ rightQ (mkQ op rs vs r) = true
  · obtain ⟨vs, r, h1, h2, h3⟩ := hA
    rw [h1, read_AZ _ _ _ _ h1 (right_nonneg (readX_len h1) h3)]
  · by_cases hZ : ∃ vs r, readX numZ (kQ op) t = some (vs, r) ∧ (r = notesL ∨ r = []) ∧ rightQ (mkQ op rs vs r) = true
    · obtain ⟨vs, r, h1, h2, h3⟩ := hZ
      exact absurd ⟨vs, r, read_ZA _ _ _ _ h1 (h2.elim (fun e => .inr ⟨_, e⟩) .inl), h2, h3⟩ hA
    · rw [end_bad hA, end_bad hZ]
def opA (w : List UInt8) : Option Int :=
  if w = wordQ 0 then some 0 else if w = wordQ 1 then some 1 else if w = wordQ 2 then some 2 else if w = wordQ 3 then some 3 else if w = wordQ 4 then some 4 else if w = wordQ 5 then some 5 else none
def tailQ (f : List UInt8 → Option (Int × Nat)) (t wd : List UInt8) : Option Int → Qr × Int
  | none => (Qr.zero, 90)
  | some op => if 123 ∈ t then (if (parseB (t.drop wd.length)).2 = 0 then (Qr.zero, 50)
      else endQ op (parseB (t.drop wd.length)).1 (readX f (kQ op) (t.drop (wd.length + (parseB (t.drop wd.length)).2))))
    else (Qr.zero, 90)
def parseQ (f : List UInt8 → Option (Int × Nat)) (t : List UInt8) : Qr × Int :=
  if 4096 < t.length then (Qr.zero, 8) else tailQ f t (cutB 123 t) (opA (cutB 123 t))
theorem parse_sameQ (t : List UInt8) : parseQ numA t = parseQ numZ t := by
  unfold parseQ
  split
  · rfl
  · cases opA (cutB 123 t) with
    | none => rfl
    | some op =>
      unfold tailQ
      simp only
      split
      · split
        · rfl
        · exact end_same _ _ _
      · rfl
theorem opA_range {w : List UInt8} {op : Int} (h : opA w = some op) : w = wordQ op ∧ 0 ≤ op ∧ op ≤ 5 := by
  unfold opA at h
  split at h
  · cases h; exact ⟨by assumption, by decide, by decide⟩
  split at h
  · cases h; exact ⟨by assumption, by decide, by decide⟩
  split at h
  · cases h; exact ⟨by assumption, by decide, by decide⟩
  split at h
  · cases h; exact ⟨by assumption, by decide, by decide⟩
  split at h
  · cases h; exact ⟨by assumption, by decide, by decide⟩
  split at h
  · cases h; exact ⟨by assumption, by decide, by decide⟩
  · cases h
theorem hasPrefix_drop {l : List UInt8} {n : Nat} {c : UInt8} (h : Lib.hasPrefix (l.drop n) [c] = true) : n + 1 ≤ l.length := by
  have h1 := (List.isPrefixOf_iff_prefix.1 h).length_le
  rw [List.length_drop] at h1
  simp at h1
  omega
theorem parseGo_used : ∀ (f : Nat) (t : List UInt8) (at_ : Nat) (acc : List Rp), (parseGo f t at_ acc).2 ≤ at_ + t.length
  | 0, _, _, _ => Nat.zero_le _
  | f + 1, t, at_, acc => by
    rw [parseGo]
    split
    · exact Nat.zero_le _
    split
    · rename_i h
      have := hasPrefix_drop h
      simp only
      omega
    split
    · rename_i h
      have h1 := hasPrefix_drop h
      have h2 := parseGo_used f (t.drop ((partR t).2 + 1)) (at_ + (partR t).2 + 1) (acc ++ [(partR t).1])
      rw [List.length_drop] at h2
      omega
    · exact Nat.zero_le _
theorem parseB_used (t : List UInt8) : (parseB t).2 ≤ t.length := by
  unfold parseB
  split
  · rename_i h
    have h1 := (List.isPrefixOf_iff_prefix.1 h).length_le
    simpa using h1
  split
  · rename_i h
    have h1 := (List.isPrefixOf_iff_prefix.1 h).length_le
    have h2 := parseGo_used 17 (t.drop 1) 1 []
    rw [List.length_drop] at h2
    simp at h1
    omega
  · exact Nat.zero_le _
theorem parseQ_len (f : List UInt8 → Option (Int × Nat)) (t : List UInt8) : (parseQ f t).1.rs.length ≤ 17 := by
  unfold parseQ
  split
  · simp [Qr.zero]
  · cases opA (cutB 123 t) with
    | none => simp [tailQ, Qr.zero]
    | some op =>
      unfold tailQ
      simp only
      split
      · split
        · simp [Qr.zero]
        · have h := parseB_count (t.drop (cutB 123 t).length)
          cases readX f (kQ op) (t.drop ((cutB 123 t).length + (parseB (t.drop (cutB 123 t).length)).2)) with
          | none => simp [endQ, Qr.zero]
          | some p =>
            obtain ⟨vs, r⟩ := p
            unfold endQ
            simp only
            split
            · exact h
            · simp [Qr.zero]
      · simp [Qr.zero]
end Go.Proofs.YtcfbcidakddhfaaGreatDoor
