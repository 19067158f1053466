/- The document's Parse of a query. -/
import Derived.Test.YtcmpenmaphmifaaGreatDoorPk22
import Derived.Test.YtcmpenmaphmifaaGreatDoorPk20
import Derived.Test.YtcmpenmaphmifaaGreatDoorPk23
import Derived.Deep.CutBlock
namespace Go.Proofs.YtcmpenmaphmifaaGreatDoor
open Go.RowKit Go.BigFrame

/-- A query that the document read, in memory of the call's own, and why not. -/
def ParD (w : World) (p : Qr × Int) (e : Ending) (w' : World) : Prop :=
  ∃ A c, e = .returned (.tuple #[qv p.1 A c, .int .i64 p.2]) ∧ Rd w' w.heap.size (.slice A p.1.rs.length c) p.1.rs ∧ Below w.heap.size w w'
theorem pard_bad {w w' : World} {x : Int} (h : Below w.heap.size w w') : ParD w (Qr.zero, x) (.returned (.tuple #[qv Qr.zero none 0, .int .i64 x])) w' := ⟨none, 0, rfl, So.empty _ _ _ _ _, h⟩
theorem cutB_next {c : UInt8} {T : List UInt8} {k : Nat} (hk : k < T.length) (hc : T[k] ≠ c) : cutB c (T.drop k) = T[k] :: cutB c (T.drop (k + 1)) := by
  rw [List.drop_eq_getElem_cons hk]
  conv => lhs; unfold cutB
  rw [if_neg hc]
theorem cutB_end {c : UInt8} {T : List UInt8} {k : Nat} (h : T.length ≤ k ∨ ∃ hk : k < T.length, T[k] = c) : cutB c (T.drop k) = [] := by
  rcases h with h | ⟨hk, h⟩
  · rw [List.drop_eq_nil_of_le h]
    rfl
  · rw [List.drop_eq_getElem_cons hk, h]
    unfold cutB
    rw [if_pos rfl]
theorem cutB_pre (c : UInt8) (T : List UInt8) : T.take (cutB c T).length = cutB c T := by
  rcases cutB_at c T with ⟨_, r, h⟩ | ⟨_, h⟩
  · have h4 := congrArg (List.take (cutB c T).length) h
    rwa [List.take_left' rfl] at h4
  · rw [h, List.take_length]
theorem cutB_mem (c : UInt8) (T : List UInt8) : (cutB c T).length = T.length ↔ c ∉ T := by
  rcases cutB_at c T with ⟨h1, r, h⟩ | ⟨h1, h⟩
  · have h4 := congrArg List.length h
    rw [List.length_append, List.length_cons] at h4
    exact ⟨fun h9 => by omega, fun h9 => absurd h1 h9⟩
  · exact ⟨fun _ => h1, fun _ => by rw [h]⟩
/-- Which of the first j words a text is; -1: none. -/
def opZ (wd : List UInt8) : Nat → Int
  | 0 => -1
  | j + 1 => if wd = wordQ (j : Int) then (j : Int) else opZ wd j
theorem opZ_succ (wd : List UInt8) (j : Nat) : opZ wd (j + 1) = if wd = wordQ (j : Int) then (j : Int) else opZ wd j := rfl
theorem opZ_six (wd : List UInt8) : opZ wd 6 = (opA wd).getD (-1) := by
  unfold opA
  by_cases h0 : wd = wordQ 0
  · rw [if_pos h0, h0]; decide
  by_cases h1 : wd = wordQ 1
  · rw [if_neg h0, if_pos h1, h1]; decide
  by_cases h2 : wd = wordQ 2
  · rw [if_neg h0, if_neg h1, if_pos h2, h2]; decide
  by_cases h3 : wd = wordQ 3
  · rw [if_neg h0, if_neg h1, if_neg h2, if_pos h3, h3]; decide
  by_cases h4 : wd = wordQ 4
  · rw [if_neg h0, if_neg h1, if_neg h2, if_neg h3, if_pos h4, h4]; decide
  by_cases h5 : wd = wordQ 5
  · rw [if_neg h0, if_neg h1, if_neg h2, if_neg h3, if_neg h4, if_pos h5, h5]; decide
  · rw [if_neg h0, if_neg h1, if_neg h2, if_neg h3, if_neg h4, if_neg h5]
    unfold opZ
    rw [if_neg (by simpa using h5)]
    unfold opZ
    rw [if_neg (by simpa using h4)]
    unfold opZ
    rw [if_neg (by simpa using h3)]
    unfold opZ
    rw [if_neg (by simpa using h2)]
    unfold opZ
    rw [if_neg (by simpa using h1)]
    unfold opZ
    rw [if_neg (by simpa using h0)]
    rfl
theorem step_le {T : List UInt8} {x : Option Nat} (h : ∀ k, x = some k → k ≤ T.length) : ∀ k, (numStep T x).2 = some k → k ≤ T.length := by
  intro k hk
  cases x with
  | none => cases hk
  | some m =>
    unfold numStep at hk
    simp only at hk
    cases hn : numZ (T.drop m) with
    | none => rw [hn] at hk; cases hk
    | some p =>
      obtain ⟨v, u⟩ := p
      rw [hn] at hk
      simp only [Option.some.injEq] at hk
      obtain ⟨r, h1, _, h3⟩ := numZ_some hn
      have h4 := congrArg List.length h1
      obtain ⟨r2, h5⟩ := runB_pre r
      have h6 := congrArg List.length h5
      rw [List.length_drop, List.length_cons] at h4
      rw [List.length_append] at h6
      omega
theorem step_fit {T : List UInt8} {x : Option Nat} : -9223372036854775808 ≤ (numStep T x).1 ∧ (numStep T x).1 ≤ 9223372036854775807 := by
  cases x with
  | none => simp [numStep]
  | some m =>
    unfold numStep
    simp only
    cases hn : numZ (T.drop m) with
    | none => simp
    | some p =>
      obtain ⟨v, u⟩ := p
      obtain ⟨r, _, h2, _⟩ := numZ_some hn
      exact ⟨(numOf_some h2).2.1, (numOf_some h2).2.2.1⟩
/-- Numbers read one behind the other. -/
theorem steps_read (T : List UInt8) : ∀ (n : Nat) (x : Nat), readX numZ (n + 1) (T.drop x) = match (numStep T (some x)).2 with
    | none => none
    | some k => (readX numZ n (T.drop k)).map fun p => ((numStep T (some x)).1 :: p.1, p.2) := fun n x => by
  unfold numStep
  simp only
  cases hn : numZ (T.drop x) with
  | none =>
    unfold readX
    rw [hn]
  | some p =>
    obtain ⟨v, u⟩ := p
    simp only
    conv => lhs; unfold readX
    rw [hn]
    simp only
    rw [List.drop_drop]
    cases readX numZ n (T.drop (x + u)) with
    | none => rfl
    | some q => rfl
theorem read2 {T : List UInt8} {a0 : Nat} {v1 v2 : Int} {x1 x2 : Option Nat} (h1 : numStep T (some a0) = (v1, x1)) (h2 : numStep T x1 = (v2, x2)) : readX numZ 2 (T.drop a0) = x2.map fun k => ([v1, v2], T.drop k) := by
  rw [steps_read, h1]
  cases x1 with
  | none => cases h2; rfl
  | some k1 =>
    simp only
    rw [steps_read, h2]
    cases x2 with
    | none => rfl
    | some k2 => rfl
theorem read3 {T : List UInt8} {a0 : Nat} {v1 v2 v3 : Int} {x1 x2 x3 : Option Nat} (h1 : numStep T (some a0) = (v1, x1)) (h2 : numStep T x1 = (v2, x2)) (h3 : numStep T x2 = (v3, x3)) : readX numZ 3 (T.drop a0) = x3.map fun k => ([v1, v2, v3], T.drop k) := by
  rw [steps_read, h1]
  cases x1 with
  | none => cases h2; cases h3; rfl
  | some k1 =>
    simp only
    rw [read2 h2 h3]
    cases x3 with
    | none => rfl
    | some k3 => rfl
set_option maxRecDepth 100000 in
set_option maxHeartbeats 1600000 in
theorem rParseQ_any (t : ByteArray) (w : World) (hs : t.size ≤ 1048576) : Calls Tryz.prog 8 #[.string t] w (ParD w (parseQ numZ t.data.toList)) := by
  have htl : t.data.toList.length = t.size := by simp
  have HS := Lib.hid hs
  have HB : Hid (Below w.heap.size w (w.alloc (.cells #[.int .i64 0, .slice none 0 0, .int .i64 0, .int .i64 0, .int .i64 0, .bool false] 24))) := Lib.hid ((Below.refl _ _).alloc (Nat.le_refl _) _)
  have HZ : Hid (Rwo (w.alloc (.cells #[.int .i64 0, .slice none 0 0, .int .i64 0, .int .i64 0, .int .i64 0, .bool false] 24)) w.heap.size #[.int .i64 0, .slice none 0 0, .int .i64 0, .int .i64 0, .int .i64 0, .bool false] 24) := Lib.hid ⟨heap_alloc_new w _⟩
  clear hs
  obtain ⟨T, hT⟩ : ∃ T, T = t.data.toList := ⟨_, rfl⟩
  rw [← hT] at htl ⊢
  by_cases hl : 4096 < t.size
  · have HF : Hid (parseQ numZ T = (Qr.zero, 8)) := Lib.hid (by unfold parseQ; rw [if_pos (by omega)])
    have el : decide ((4096 : Int) < (t.size : Int)) = true := by simp; omega
    clear hl htl hT
    go_enter Tryz.func8, Tryz.ntmps8
    go_upto_region 1 with fail
    generalize w.alloc (.cells #[.int .i64 0, .slice none 0 0, .int .i64 0, .int .i64 0, .int .i64 0, .bool false] 24) = W1 at HB HZ ⊢
    have z0 : W1.cell? ⟨w.heap.size, 0, none⟩ = some (.int .i64 0) := HZ.out.cell rfl
    have z1 : W1.cell? ⟨w.heap.size, 1, none⟩ = some (.slice none 0 0) := HZ.out.cell rfl
    have z2 : W1.cell? ⟨w.heap.size, 2, none⟩ = some (.int .i64 0) := HZ.out.cell rfl
    have z3 : W1.cell? ⟨w.heap.size, 3, none⟩ = some (.int .i64 0) := HZ.out.cell rfl
    have z4 : W1.cell? ⟨w.heap.size, 4, none⟩ = some (.int .i64 0) := HZ.out.cell rfl
    have z5 : W1.cell? ⟨w.heap.size, 5, none⟩ = some (.bool false) := HZ.out.cell rfl
    have zf := HZ.out.fr
    have zl := HZ.out.lt
    go_wp2
    have hZ9 := HZ.out.set6 (.int .i64 0) (.slice none 0 0) (.int .i64 0) (.int .i64 0) (.int .i64 0) (.bool false)
    have hB9 := below_set6 HB.out (Nat.le_refl w.heap.size) (.int .i64 0) (.slice none 0 0) (.int .i64 0) (.int .i64 0) (.int .i64 0) (.bool false)
    generalize hW9 : (World.setCell _ _ _ : World) = W9 at hZ9 hB9 ⊢
    clear hW9 z0 z1 z2 z3 z4 z5 zf
    have x0 : W9.cell? ⟨w.heap.size, 0, none⟩ = some (.int .i64 0) := hZ9.cell rfl
    have x1 : W9.cell? ⟨w.heap.size, 1, none⟩ = some (.slice none 0 0) := hZ9.cell rfl
    have x2 : W9.cell? ⟨w.heap.size, 2, none⟩ = some (.int .i64 0) := hZ9.cell rfl
    have x3 : W9.cell? ⟨w.heap.size, 3, none⟩ = some (.int .i64 0) := hZ9.cell rfl
    have x4 : W9.cell? ⟨w.heap.size, 4, none⟩ = some (.int .i64 0) := hZ9.cell rfl
    have x5 : W9.cell? ⟨w.heap.size, 5, none⟩ = some (.bool false) := hZ9.cell rfl
    have HB9 := Lib.hid hB9
    clear hZ9 hB9
    refine bodyPost_ret (v := .tuple #[qv Qr.zero none 0, .int .i64 8]) (by simp [results, Tryz.results8, go_sem, Qr.zero, x0, x1, x2, x3, x4, x5]) rfl ?_
    rw [HF.out]
    exact pard_bad HB9.out

  have el : decide ((4096 : Int) < (t.size : Int)) = false := by simp; omega
  have hcl := cutB_len 123 T
  have HF0 : parseQ numZ T = tailQ numZ T (cutB 123 T) (opA (cutB 123 T)) := by unfold parseQ; rw [if_neg (by omega)]
  have hpre := cutB_pre 123 T
  have hmem := cutB_mem 123 T
  obtain ⟨wd, hwd⟩ : ∃ wd, wd = cutB 123 T := ⟨_, rfl⟩
  rw [← hwd] at HF0 hcl hpre hmem
  have HT := Lib.hid hT
  have HTL := Lib.hid htl
  have HWC := Lib.hid hwd
  have HF1 := Lib.hid HF0
  have HPRE := Lib.hid hpre
  have HMEM := Lib.hid hmem
  have hts : (t.size : Int) ≤ 4096 := by omega
  have hcl2 : wd.length ≤ t.size := by omega
  clear hT htl hwd HF0 hl hpre hmem hcl
  go_enter Tryz.func8, Tryz.ntmps8
  go_upto_region 3 with fail
  have hz1 : w.heap.size < (w.alloc (.cells #[.int .i64 0, .slice none 0 0, .int .i64 0, .int .i64 0, .int .i64 0, .bool false] 24)).heap.size := by simp
  have hzz : (w.alloc (.cells #[.int .i64 0, .slice none 0 0, .int .i64 0, .int .i64 0, .int .i64 0, .bool false] 24)).heap.size = w.heap.size + 1 := by simp
  have HZZ := Lib.hid hzz
  clear hzz
  generalize w.alloc (.cells #[.int .i64 0, .slice none 0 0, .int .i64 0, .int .i64 0, .int .i64 0, .bool false] 24) = W1 at HB HZ hz1 HZZ ⊢
  go_upto_block 0 with fail
  go_cut [4] from 13 to 24 (fun v wx => v = .int .i64 (wd.length : Int) ∧ wx = W1)
  case first =>
    go_wp2_with fail
    go_loop [4] (fun v => ∃ k : Nat, v = .int .i64 (k : Int) ∧ k ≤ t.size ∧ Hid (cutB 123 T = T.take k ++ cutB 123 (T.drop k))) (fun v => t.size - (intOf v).toNat)
    case atStart => exact ⟨0, rfl, Nat.zero_le _, Lib.hid (by simp)⟩
    case round =>
      obtain ⟨k, rfl, hk, HQ⟩ := hrel
      have i0 : 0 ≤ (k : Int) := by omega
      by_cases hlt : k < t.size
      · have i1 : (k : Int) < (t.size : Int) := by omega
        have hTk : T[k]'(by have := HTL.out; omega) = t[k] := by
          have := byte_at t k hlt
          have h := HT.out
          simpa [h] using this
        by_cases hc : t[k] = 123
        · have q1 : (((t[k]).toNat : Int) == 123) = true := by rw [hc]; rfl
          have hkw : k = wd.length := by
            have h := HQ.out
            rw [cutB_end (.inr ⟨by have := HTL.out; omega, by rw [hTk, hc]⟩), List.append_nil, ← HWC.out] at h
            rw [h, List.length_take]
            have := HTL.out
            omega
          have HKW := Lib.hid hkw
          clear hTk hc hkw
          go_wp2_with fail
          go_meet
          case rel => exact ⟨by rw [HKW.out], rfl⟩
        · have h3 : ((t[k]).toNat : Int) ≠ 123 := fun e => hc (UInt8.toNat_inj.1 (by
            have h32 : (123 : UInt8).toNat = 123 := rfl
            rw [h32]
            omega))
          have q1 : (((t[k]).toNat : Int) == 123) = false := by simpa using h3
          have HQ2 : Hid (cutB 123 T = T.take (k + 1) ++ cutB 123 (T.drop (k + 1))) := Lib.hid (by
            have h := HQ.out
            have hkl : k < T.length := by have := HTL.out; omega
            rw [cutB_next hkl (by rw [hTk]; exact hc)] at h
            rw [List.take_succ_eq_append_getElem hkl, List.append_assoc]
            exact h)
          clear hTk hc h3
          go_wp2_with fail
          go_round
          case rel => exact ⟨k + 1, by go_num, hlt, HQ2⟩
          case measure => simp [intOf]; omega
      · have i1 : ¬ (k : Int) < (t.size : Int) := by omega
        have hkw : k = wd.length := by
          have h := HQ.out
          rw [cutB_end (.inl (by have := HTL.out; omega)), List.append_nil, ← HWC.out] at h
          rw [h, List.length_take]
          have := HTL.out
          omega
        have HKW := Lib.hid hkw
        clear hkw
        go_wp2_with fail
        go_meet
        case rel => exact ⟨by rw [HKW.out], rfl⟩
  case rest =>
    obtain ⟨hc4, hcw⟩ := hcut
    subst hc4
    subst hcw
    rename World => W1
    go_wp2_with fail
    have hX2 : Rwo (W1.alloc (.cells #[.int .i64 (-1), .slice none 0 0, .int .i64 0, .int .i64 0, .int .i64 0, .bool false] 24)) W1.heap.size #[.int .i64 (-1), .slice none 0 0, .int .i64 0, .int .i64 0, .int .i64 0, .bool false] 24 := ⟨heap_alloc_new W1 _⟩
    have hb2 : Below W1.heap.size W1 (W1.alloc (.cells #[.int .i64 (-1), .slice none 0 0, .int .i64 0, .int .i64 0, .int .i64 0, .bool false] 24)) := (Below.refl _ _).alloc (Nat.le_refl _) _
    generalize W1.alloc (.cells #[.int .i64 (-1), .slice none 0 0, .int .i64 0, .int .i64 0, .int .i64 0, .bool false] 24) = W2 at hX2 hb2 ⊢
    have HX2 := Lib.hid hX2
    have HZ2 := Lib.hid (HZ.out.below hb2)
    have HB2 : Hid (Below w.heap.size w W2) := Lib.hid (HB.out.trans (hb2.mono HB.out.size))
    clear hX2 hb2 HZ HB
    obtain ⟨b, hbb⟩ : ∃ b, b = W1.heap.size := ⟨_, rfl⟩
    rw [← hbb] at HX2 hz1 ⊢
    have hb0 : w.heap.size ≠ b := by omega
    have hbw : w.heap.size ≤ b := by omega
    clear hbb HZZ
    have w1 : 0 ≤ (wd.length : Int) := by omega
    have w2 : (wd.length : Int) ≤ (t.size : Int) := by omega
    go_loopw [6] (fun iv wr => ∃ j : Nat, iv = .int .i64 (j : Int) ∧ j ≤ 6 ∧ Hid (Rwo wr b #[.int .i64 (opZ wd j), .slice none 0 0, .int .i64 0, .int .i64 0, .int .i64 0, .bool false] 24) ∧ Hid (Rwo wr w.heap.size #[.int .i64 0, .slice none 0 0, .int .i64 0, .int .i64 0, .int .i64 0, .bool false] 24) ∧ Hid (Below w.heap.size w wr)) (fun iv _ => 6 - (intOf iv).toNat)
    case atStart => exact ⟨0, rfl, by decide, HX2, HZ2, HB2⟩
    case round =>
      obtain ⟨j, rfl, hj, HX, HZ, HB⟩ := hrel
      rename World => W0
      clear HX2 HZ2 HB2
      have i0 : 0 ≤ (j : Int) := by omega
      by_cases hlt : j ≤ 5
      · have i1 : (j : Int) ≤ 5 := by omega
        have HWD : Hid (∀ wx, Calls Tryz.prog 30 #[.int .i64 (j : Int)] wx fun e w' => e = .returned (.string (strB (wordQ (j : Int)))) ∧ Below wx.heap.size wx w') := Lib.hid fun wx => (rWord_any (j : Int) wx).mono fun e w' h => ⟨h.1, by rw [← h.2]; exact Below.refl _ _⟩
        obtain ⟨bj, hbj⟩ : ∃ bj, bj = decide (wd = wordQ (j : Int)) := ⟨_, rfl⟩
        have HBJ : Hid (((t.extract 0 wd.length).toList == (strB (wordQ (j : Int))).toList) = bj) := Lib.hid (by
          rw [Lib.toList_data, Lib.toList_data, ls_strB, Lib.extract_data, ← HT.out, List.drop_zero, Nat.sub_zero, HPRE.out, hbj]
          by_cases h : wd = wordQ (j : Int)
          · simp [h]
          · rw [decide_eq_false h]; exact beq_eq_false_iff_ne.2 h)
        have HDJ : Hid (decide (wd = wordQ (j : Int)) = bj) := Lib.hid hbj.symm
        clear hbj
        go_upto_region 10 with fail
        apply region_V (fun (x : Value) (u : Value) (_ : World) => u = x) (fun wx => Below W0.heap.size W0 wx) [.string t, .int .i64 (wd.length : Int), .string (t.extract 0 wd.length), .int .i64 (j : Int), .string (strB (wordQ (j : Int))), .bool bj] (undef)
        case mono => exact fun p v w0 w1 h hb => h
        case hm => kernel_rfl
        case hf => kernel_rfl
        case hQ => exact (by intro c x y w e h; exact And.intro (e.symm.trans (And.left h)) (And.right h))
        case hF => intro vs; simp only [putAll, Act.put, List.setIfInBounds_toArray, List.set_cons_zero, List.set_cons_succ, Nat.reduceAdd]; rfl
        case h0 => exact ⟨rfl, rfl, rfl, Nat.le_refl _, fun _ _ => rfl⟩
        case hstep =>
          repeat' (first | exact AllOps.nil | apply AllOps.cons)
          · intro vs wx hG hd K hK
            replace hK : ∀ (uu : Value) (w' : World), Below wx.heap.size wx w' → ((fun wx => Below W0.heap.size W0 wx)) w' → (fun (x : Value) (u : Value) (_ : World) => u = x) (.string t) uu w' → K _ w' := hK
            simp only [Act.put, List.setIfInBounds_toArray, List.set_cons_zero, List.set_cons_succ] at hK ⊢
            have HK := Lib.hid hK
            have HG := Lib.hid hG
            clear hK hd
            clear hG
            go_simp
            exact HK.out _ _ (Below.refl _ _) HG.out rfl
          · intro vs wx hG hd K hK
            replace hK : ∀ (uu : Value) (w' : World), Below wx.heap.size wx w' → ((fun wx => Below W0.heap.size W0 wx)) w' → (fun (x : Value) (u : Value) (_ : World) => u = x) (.int .i64 (wd.length : Int)) uu w' → K _ w' := hK
            simp only [Act.put, List.setIfInBounds_toArray, List.set_cons_zero, List.set_cons_succ] at hK ⊢
            have HK := Lib.hid hK
            have HG := Lib.hid hG
            clear hK hd
            clear hG
            go_simp
            exact HK.out _ _ (Below.refl _ _) HG.out rfl
          · intro vs wx hG hd K hK
            have e0 : vs 0 = .string t := hd.get (j := 0) (by simp [depsOf, Region.binds])
            have e1 : vs 1 = .int .i64 (wd.length : Int) := hd.get (j := 1) (by simp [depsOf, Region.binds])
            replace hK : ∀ (uu : Value) (w' : World), Below wx.heap.size wx w' → ((fun wx => Below W0.heap.size W0 wx)) w' → (fun (x : Value) (u : Value) (_ : World) => u = x) (.string (t.extract 0 wd.length)) uu w' → K _ w' := hK
            simp only [Act.put, List.setIfInBounds_toArray, List.set_cons_zero, List.set_cons_succ, e0, e1] at hK ⊢
            have HK := Lib.hid hK
            have HG := Lib.hid hG
            clear hK hd e0 e1
            clear hG
            go_simp
            exact HK.out _ _ (Below.refl _ _) HG.out rfl
          · intro vs wx hG hd K hK
            replace hK : ∀ (uu : Value) (w' : World), Below wx.heap.size wx w' → ((fun wx => Below W0.heap.size W0 wx)) w' → (fun (x : Value) (u : Value) (_ : World) => u = x) (.int .i64 (j : Int)) uu w' → K _ w' := hK
            simp only [Act.put, List.setIfInBounds_toArray, List.set_cons_zero, List.set_cons_succ] at hK ⊢
            have HK := Lib.hid hK
            have HG := Lib.hid hG
            clear hK hd
            clear hG
            go_simp
            exact HK.out _ _ (Below.refl _ _) HG.out rfl
          · intro vs wx hG hd K hK
            have e3 : vs 3 = .int .i64 (j : Int) := hd.get (j := 3) (by simp [depsOf, Region.binds])
            replace hK : ∀ (uu : Value) (w' : World), Below wx.heap.size wx w' → ((fun wx => Below W0.heap.size W0 wx)) w' → (fun (x : Value) (u : Value) (_ : World) => u = x) (.string (strB (wordQ (j : Int)))) uu w' → K _ w' := hK
            simp only [Act.put, List.setIfInBounds_toArray, List.set_cons_zero, List.set_cons_succ, e3] at hK ⊢
            have HK := Lib.hid hK
            have HG := Lib.hid hG
            clear hK hd e3
            clear hG
            go_simp
            go_at_call 30
            refine (HWD.out wx).mono ?_
            rintro e w1 ⟨rfl, hb⟩
            exact HK.out _ _ hb (HG.out.trans (hb.mono HG.out.size)) rfl
          · intro vs wx hG hd K hK
            have e2 : vs 2 = .string (t.extract 0 wd.length) := hd.get (j := 2) (by simp [depsOf, Region.binds])
            have e4 : vs 4 = .string (strB (wordQ (j : Int))) := hd.get (j := 4) (by simp [depsOf, Region.binds])
            replace hK : ∀ (uu : Value) (w' : World), Below wx.heap.size wx w' → ((fun wx => Below W0.heap.size W0 wx)) w' → (fun (x : Value) (u : Value) (_ : World) => u = x) (.bool bj) uu w' → K _ w' := hK
            simp only [Act.put, List.setIfInBounds_toArray, List.set_cons_zero, List.set_cons_succ, e2, e4] at hK ⊢
            have HK := Lib.hid hK
            have HG := Lib.hid hG
            clear hK hd e2 e4
            clear hG
            have hbj := HBJ.out
            go_simp
            exact HK.out _ _ (Below.refl _ _) HG.out rfl
        case hend =>
          intro vs wx hG hv
          have e9 : vs 5 = .bool bj := hv 5 (by decide)
          rw [e9]
          have HXx := Lib.hid (HX.out.below hG)
          have HZx := Lib.hid (HZ.out.below hG)
          have HBx := Lib.hid (HB.out.trans (hG.mono HB.out.size))
          clear hG hv e9
          cases bj with
          | false =>
            have HJ : Hid (opZ wd (j + 1) = opZ wd j) := Lib.hid (by rw [opZ_succ]; exact if_neg (of_decide_eq_false HDJ.out))
            go_wp2_with fail
            go_roundw
            case rel => exact ⟨j + 1, by go_num, by omega, by rw [HJ.out]; exact HXx, HZx, HBx⟩
            case measure => simp [intOf]; omega
          | true =>
            have HJ : Hid (opZ wd (j + 1) = (j : Int)) := Lib.hid (by rw [opZ_succ]; exact if_pos (of_decide_eq_true HDJ.out))
            have y0 : wx.cell? ⟨b, 0, none⟩ = some (.int .i64 (opZ wd j)) := HXx.out.cell rfl
            have yf := HXx.out.fr
            have yl := HXx.out.lt
            have HX3 : Hid (Rwo (wx.setCell ⟨b, 0, none⟩ (.int .i64 (j : Int))) b #[.int .i64 (opZ wd (j + 1)), .slice none 0 0, .int .i64 0, .int .i64 0, .int .i64 0, .bool false] 24) := Lib.hid (by rw [HJ.out]; exact HXx.out.set 0 _)
            have HZ3 : Hid (Rwo (wx.setCell ⟨b, 0, none⟩ (.int .i64 (j : Int))) w.heap.size #[.int .i64 0, .slice none 0 0, .int .i64 0, .int .i64 0, .int .i64 0, .bool false] 24) := Lib.hid (HZx.out.other hb0)
            have HB3 : Hid (Below w.heap.size w (wx.setCell ⟨b, 0, none⟩ (.int .i64 (j : Int)))) := Lib.hid (HBx.out.setCell (p := ⟨b, 0, none⟩) hbw _)
            go_wp2_with fail
            go_roundw
            case rel => exact ⟨j + 1, by go_num, by omega, HX3, HZ3, HB3⟩
            case measure => simp [intOf]; omega

      · have i1 : ¬ (j : Int) ≤ 5 := by omega
        obtain rfl : j = 6 := by omega
        rw [opZ_six] at HX
        clear i0 hlt hj
        by_cases hm : (123 : UInt8) ∈ T
        · have hne : wd.length ≠ t.size := fun e => HMEM.out.1 (by have := HTL.out; omega) hm
          have qm : ((wd.length : Int) == (t.size : Int)) = false := by simp; omega
          have qmn : (wd.length == t.size) = false := by simp; omega
          have HM := Lib.hid hm
          clear hm hne
          cases hop : opA wd with
          | none =>
            rw [hop] at HX
            have HF : Hid (parseQ numZ T = (Qr.zero, 90)) := Lib.hid (by rw [HF1.out, hop]; rfl)
            have y0 : W0.cell? ⟨b, 0, none⟩ = some (.int .i64 (-1)) := HX.out.cell rfl
            have yl := HX.out.lt
            clear hop
            have z0 : W0.cell? ⟨w.heap.size, 0, none⟩ = some (.int .i64 0) := HZ.out.cell rfl
            have z1 : W0.cell? ⟨w.heap.size, 1, none⟩ = some (.slice none 0 0) := HZ.out.cell rfl
            have z2 : W0.cell? ⟨w.heap.size, 2, none⟩ = some (.int .i64 0) := HZ.out.cell rfl
            have z3 : W0.cell? ⟨w.heap.size, 3, none⟩ = some (.int .i64 0) := HZ.out.cell rfl
            have z4 : W0.cell? ⟨w.heap.size, 4, none⟩ = some (.int .i64 0) := HZ.out.cell rfl
            have z5 : W0.cell? ⟨w.heap.size, 5, none⟩ = some (.bool false) := HZ.out.cell rfl
            have zf := HZ.out.fr
            have zl := HZ.out.lt
            go_wp2
            have hZ9 := HZ.out.set6 (.int .i64 0) (.slice none 0 0) (.int .i64 0) (.int .i64 0) (.int .i64 0) (.bool false)
            have hB9 := below_set6 HB.out (Nat.le_refl w.heap.size) (.int .i64 0) (.slice none 0 0) (.int .i64 0) (.int .i64 0) (.int .i64 0) (.bool false)
            generalize hW9 : (World.setCell _ _ _ : World) = W9 at hZ9 hB9 ⊢
            clear hW9 z0 z1 z2 z3 z4 z5 zf
            have x0 : W9.cell? ⟨w.heap.size, 0, none⟩ = some (.int .i64 0) := hZ9.cell rfl
            have x1 : W9.cell? ⟨w.heap.size, 1, none⟩ = some (.slice none 0 0) := hZ9.cell rfl
            have x2 : W9.cell? ⟨w.heap.size, 2, none⟩ = some (.int .i64 0) := hZ9.cell rfl
            have x3 : W9.cell? ⟨w.heap.size, 3, none⟩ = some (.int .i64 0) := hZ9.cell rfl
            have x4 : W9.cell? ⟨w.heap.size, 4, none⟩ = some (.int .i64 0) := hZ9.cell rfl
            have x5 : W9.cell? ⟨w.heap.size, 5, none⟩ = some (.bool false) := hZ9.cell rfl
            have HB9 := Lib.hid hB9
            clear hZ9 hB9
            refine bodyPost_ret (v := .tuple #[qv Qr.zero none 0, .int .i64 90]) (by simp [results, Tryz.results8, go_sem, Qr.zero, x0, x1, x2, x3, x4, x5]) rfl ?_
            rw [HF.out]
            exact pard_bad HB9.out
          | some op =>
            rw [hop] at HX
            have hop0 := (opA_range hop).2.1
            have hop5 := (opA_range hop).2.2
            have qo : decide (op < 0) = false := by simp; omega
            have y0 : W0.cell? ⟨b, 0, none⟩ = some (.int .i64 op) := HX.out.cell rfl
            have yl := HX.out.lt
            have hw3 := HZ.out.lt
            have hF2 : parseQ numZ T = (if (parseB (T.drop wd.length)).2 = 0 then (Qr.zero, 50) else endQ op (parseB (T.drop wd.length)).1 (readX numZ (kQ op) (T.drop (wd.length + (parseB (T.drop wd.length)).2)))) := by
              rw [HF1.out, hop]
              unfold tailQ
              simp only
              rw [if_pos HM.out]
            have HC3 : Hid (∀ wx, Calls Tryz.prog 31 #[.string (t.extract wd.length t.size)] wx (RdPost2 wx (parseB (T.drop wd.length)))) := Lib.hid fun wx => by
              have h1 := rParseR_any (t.extract wd.length t.size) wx (by rw [ex_size]; have := HS.out; omega)
              rwa [doc_eq, ex_list, ← HT.out] at h1
            have hsm := parseB_sm (T.drop wd.length)
            have hused := parseB_used (T.drop wd.length)
            generalize hpb : parseB (T.drop wd.length) = pb at hF2 HC3 hsm hused
            obtain ⟨rs, used⟩ := pb
            simp only at hF2 hused hsm
            have hSR : SmR rs := fun x hx => by
              have := hsm x hx
              have h2 := HTL.out
              have h3 := HS.out
              rw [List.length_drop] at this
              omega
            have HSR := Lib.hid hSR
            rw [List.length_drop, HTL.out] at hused
            have HHU := Lib.hid hused
            have HFX := Lib.hid hF2
            clear hop hpb hsm hSR hused hF2
            go_wp2_with fail
            refine (HC3.out W0).mono ?_
            rintro e W3 ⟨A9, c9, rfl, hr3, b3⟩
            obtain ⟨K3, hK3⟩ : ∃ K3, K3 = W0.heap.size := ⟨_, rfl⟩
            have HRA : Hid (Rd W3 K3 (.slice A9 rs.length c9) rs) := Lib.hid (by rw [hK3]; exact hr3)
            replace HX := Lib.hid (HX.out.below b3)
            replace HZ := Lib.hid (HZ.out.below b3)
            replace HB := Lib.hid (HB.out.trans (b3.mono HB.out.size))
            rw [← hK3] at yl hw3
            have hnb : (Value.slice A9 rs.length c9).ownBlock ≠ some b := fun h => by have := (So.ltB HRA.out _ h).1; omega
            clear b3 hr3 hK3 y0 HC3 yl
            by_cases hu0 : used = 0
            · have HF : Hid (parseQ numZ T = (Qr.zero, 50)) := Lib.hid (by rw [HFX.out, if_pos hu0])
              subst hu0
              have z0 : W3.cell? ⟨w.heap.size, 0, none⟩ = some (.int .i64 0) := HZ.out.cell rfl
              have z1 : W3.cell? ⟨w.heap.size, 1, none⟩ = some (.slice none 0 0) := HZ.out.cell rfl
              have z2 : W3.cell? ⟨w.heap.size, 2, none⟩ = some (.int .i64 0) := HZ.out.cell rfl
              have z3 : W3.cell? ⟨w.heap.size, 3, none⟩ = some (.int .i64 0) := HZ.out.cell rfl
              have z4 : W3.cell? ⟨w.heap.size, 4, none⟩ = some (.int .i64 0) := HZ.out.cell rfl
              have z5 : W3.cell? ⟨w.heap.size, 5, none⟩ = some (.bool false) := HZ.out.cell rfl
              have zf := HZ.out.fr
              have zl := HZ.out.lt
              go_wp2
              have hZ9 := HZ.out.set6 (.int .i64 0) (.slice none 0 0) (.int .i64 0) (.int .i64 0) (.int .i64 0) (.bool false)
              have hB9 := below_set6 HB.out (Nat.le_refl w.heap.size) (.int .i64 0) (.slice none 0 0) (.int .i64 0) (.int .i64 0) (.int .i64 0) (.bool false)
              generalize hW9 : (World.setCell _ _ _ : World) = W9 at hZ9 hB9 ⊢
              clear hW9 z0 z1 z2 z3 z4 z5 zf
              have x0 : W9.cell? ⟨w.heap.size, 0, none⟩ = some (.int .i64 0) := hZ9.cell rfl
              have x1 : W9.cell? ⟨w.heap.size, 1, none⟩ = some (.slice none 0 0) := hZ9.cell rfl
              have x2 : W9.cell? ⟨w.heap.size, 2, none⟩ = some (.int .i64 0) := hZ9.cell rfl
              have x3 : W9.cell? ⟨w.heap.size, 3, none⟩ = some (.int .i64 0) := hZ9.cell rfl
              have x4 : W9.cell? ⟨w.heap.size, 4, none⟩ = some (.int .i64 0) := hZ9.cell rfl
              have x5 : W9.cell? ⟨w.heap.size, 5, none⟩ = some (.bool false) := hZ9.cell rfl
              have HB9 := Lib.hid hB9
              clear hZ9 hB9
              refine bodyPost_ret (v := .tuple #[qv Qr.zero none 0, .int .i64 50]) (by simp [results, Tryz.results8, go_sem, Qr.zero, x0, x1, x2, x3, x4, x5]) rfl ?_
              rw [HF.out]
              exact pard_bad HB9.out
            · have hF2 := HFX.out
              rw [if_neg hu0] at hF2
              have HF2 := Lib.hid hF2
              have u0 : ((used : Int) == (0 : Int)) = false := by simp; omega
              have u0n : (used == 0) = false := by simp; omega
              have u0d : decide (used = 0) = false := by simp; omega
              have u1 : 0 ≤ (used : Int) := by omega
              have u2 : (wd.length : Int) + (used : Int) ≤ (t.size : Int) := by have := HHU.out; omega
              obtain ⟨v1, x1, h1⟩ : ∃ v1 x1, numStep T (some (wd.length + used)) = (v1, x1) := ⟨_, _, rfl⟩
              obtain ⟨v2, x2, h2⟩ : ∃ v2 x2, numStep T x1 = (v2, x2) := ⟨_, _, rfl⟩
              obtain ⟨v3, x3, h3⟩ : ∃ v3 x3, numStep T x2 = (v3, x3) := ⟨_, _, rfl⟩
              have l0 : ∀ k, some (wd.length + used) = some k → k ≤ T.length := fun k hk => by
                cases hk
                have := HTL.out
                omega
              have l1 : ∀ k, x1 = some k → k ≤ T.length := by have h := step_le l0; rwa [h1] at h
              have l2 : ∀ k, x2 = some k → k ≤ T.length := by have h := step_le l1; rwa [h2] at h
              have l3 : ∀ k, x3 = some k → k ≤ T.length := by have h := step_le l2; rwa [h3] at h
              have hv3 : v3 ≤ 9223372036854775807 := by have h := (step_fit (T := T) (x := x2)).2; rwa [h3] at h
              have HR2 := Lib.hid (read2 h1 h2)
              have HR3 := Lib.hid (read3 h1 h2 h3)
              obtain ⟨a1, ha1⟩ : ∃ a, a = atI x1 := ⟨_, rfl⟩
              obtain ⟨a2, ha2⟩ : ∃ a, a = atI x2 := ⟨_, rfl⟩
              obtain ⟨a3, ha3⟩ : ∃ a, a = atI x3 := ⟨_, rfl⟩
              have HN1 : Hid (∀ wx, Calls Tryz.prog 32 #[.string t, .int .i64 ((wd.length : Int) + (used : Int))] wx fun e w' => e = .returned (.tuple #[.int .i64 v1, .int .i64 a1]) ∧ wx = w') := Lib.hid fun wx => by
                have h := rnumber_any t (some (wd.length + used)) wx HS.out fun k hk => by have := l0 k hk; have := HTL.out; omega
                rw [← HT.out, h1, show atI (some (wd.length + used)) = (wd.length : Int) + (used : Int) from by simp [atI]] at h
                rw [ha1]
                exact h
              have HN2 : Hid (∀ wx, Calls Tryz.prog 32 #[.string t, .int .i64 a1] wx fun e w' => e = .returned (.tuple #[.int .i64 v2, .int .i64 a2]) ∧ wx = w') := Lib.hid fun wx => by
                have h := rnumber_any t x1 wx HS.out fun k hk => by have := l1 k hk; have := HTL.out; omega
                rw [← HT.out, h2] at h
                rw [ha1, ha2]
                exact h
              have HN3 : Hid (∀ wx, Calls Tryz.prog 32 #[.string t, .int .i64 a2] wx fun e w' => e = .returned (.tuple #[.int .i64 v3, .int .i64 a3]) ∧ wx = w') := Lib.hid fun wx => by
                have h := rnumber_any t x2 wx HS.out fun k hk => by have := l2 k hk; have := HTL.out; omega
                rw [← HT.out, h3] at h
                rw [ha2, ha3]
                exact h
              have y0 : W3.cell? ⟨b, 0, none⟩ = some (.int .i64 op) := HX.out.cell rfl
              have y1 : W3.cell? ⟨b, 1, none⟩ = some (.slice none 0 0) := HX.out.cell rfl
              have y2 : W3.cell? ⟨b, 2, none⟩ = some (.int .i64 0) := HX.out.cell rfl
              have y3 : W3.cell? ⟨b, 3, none⟩ = some (.int .i64 0) := HX.out.cell rfl
              have y4 : W3.cell? ⟨b, 4, none⟩ = some (.int .i64 0) := HX.out.cell rfl
              have y5 : W3.cell? ⟨b, 5, none⟩ = some (.bool false) := HX.out.cell rfl
              have yf := HX.out.fr
              have yl := HX.out.lt
              have HL2 := Lib.hid l2
              have HL3 := Lib.hid l3
              have HA2 := Lib.hid ha2
              have HA3 := Lib.hid ha3
              have HVV := Lib.hid hv3
              clear hF2 hu0 h1 h2 h3 l0 l1 l2 l3 ha1 ha2 ha3 hv3
              go_wp2_with fail
              refine (HN1.out _).mono ?_
              rintro e w' ⟨rfl, rfl⟩
              go_wp2_with fail
              refine (HN2.out _).mono ?_
              rintro e w' ⟨rfl, rfl⟩
              go_upto_region 21 with fail
              clear y0 y1 y2 y3 y4 y5 yf yl
              have hX : Rwo (((W3.setCell ⟨b, 1, none⟩ (.slice A9 rs.length c9)).setCell ⟨b, 2, none⟩ (.int .i64 v1)).setCell ⟨b, 3, none⟩ (.int .i64 v2)) b #[.int .i64 op, .slice A9 rs.length c9, .int .i64 v1, .int .i64 v2, .int .i64 0, .bool false] 24 := (((HX.out.set 1 (.slice A9 rs.length c9)).set 2 (.int .i64 v1)).set 3 (.int .i64 v2))
              have hZ : Rwo (((W3.setCell ⟨b, 1, none⟩ (.slice A9 rs.length c9)).setCell ⟨b, 2, none⟩ (.int .i64 v1)).setCell ⟨b, 3, none⟩ (.int .i64 v2)) w.heap.size #[.int .i64 0, .slice none 0 0, .int .i64 0, .int .i64 0, .int .i64 0, .bool false] 24 := (((HZ.out.other hb0).other hb0).other hb0)
              have hB : Below w.heap.size w (((W3.setCell ⟨b, 1, none⟩ (.slice A9 rs.length c9)).setCell ⟨b, 2, none⟩ (.int .i64 v1)).setCell ⟨b, 3, none⟩ (.int .i64 v2)) := (((HB.out.setCell (p := ⟨b, 1, none⟩) hbw (.slice A9 rs.length c9)).setCell (p := ⟨b, 2, none⟩) hbw (.int .i64 v1)).setCell (p := ⟨b, 3, none⟩) hbw (.int .i64 v2))
              have hR : Rd (((W3.setCell ⟨b, 1, none⟩ (.slice A9 rs.length c9)).setCell ⟨b, 2, none⟩ (.int .i64 v1)).setCell ⟨b, 3, none⟩ (.int .i64 v2)) K3 (.slice A9 rs.length c9) rs := (So.setC (So.setC (So.setC HRA.out hnb) hnb) hnb)
              generalize ((W3.setCell ⟨b, 1, none⟩ (.slice A9 rs.length c9)).setCell ⟨b, 2, none⟩ (.int .i64 v1)).setCell ⟨b, 3, none⟩ (.int .i64 v2) = W4 at hX hZ hB hR ⊢
              replace HX := Lib.hid hX
              replace HZ := Lib.hid hZ
              replace HB := Lib.hid hB
              replace HRA := Lib.hid hR
              clear hX hZ hB hR
              have y0 : W4.cell? ⟨b, 0, none⟩ = some (.int .i64 op) := HX.out.cell rfl
              have yl := HX.out.lt
              by_cases h0 : op = 0
              · have e0 : (op != (0 : Int)) = false := by simpa using h0
                have e0b : (op == (0 : Int)) = true := by simpa using h0
                have hk : kQ op = 2 := if_pos h0
                rw [hk] at HF2
                clear h0 hk
                cases x2 with
                | none =>
                  have ea : a2 = -1 := HA2.out
                  subst ea
                  have HF : Hid (parseQ numZ T = (Qr.zero, 90)) := Lib.hid (by rw [HF2.out, HR2.out]; rfl)
                  have z0 : W4.cell? ⟨w.heap.size, 0, none⟩ = some (.int .i64 0) := HZ.out.cell rfl
                  have z1 : W4.cell? ⟨w.heap.size, 1, none⟩ = some (.slice none 0 0) := HZ.out.cell rfl
                  have z2 : W4.cell? ⟨w.heap.size, 2, none⟩ = some (.int .i64 0) := HZ.out.cell rfl
                  have z3 : W4.cell? ⟨w.heap.size, 3, none⟩ = some (.int .i64 0) := HZ.out.cell rfl
                  have z4 : W4.cell? ⟨w.heap.size, 4, none⟩ = some (.int .i64 0) := HZ.out.cell rfl
                  have z5 : W4.cell? ⟨w.heap.size, 5, none⟩ = some (.bool false) := HZ.out.cell rfl
                  have zf := HZ.out.fr
                  have zl := HZ.out.lt
                  go_wp2
                  have hZ9 := HZ.out.set6 (.int .i64 0) (.slice none 0 0) (.int .i64 0) (.int .i64 0) (.int .i64 0) (.bool false)
                  have hB9 := below_set6 HB.out (Nat.le_refl w.heap.size) (.int .i64 0) (.slice none 0 0) (.int .i64 0) (.int .i64 0) (.int .i64 0) (.bool false)
                  generalize hW9 : (World.setCell _ _ _ : World) = W9 at hZ9 hB9 ⊢
                  clear hW9 z0 z1 z2 z3 z4 z5 zf
                  have x0 : W9.cell? ⟨w.heap.size, 0, none⟩ = some (.int .i64 0) := hZ9.cell rfl
                  have x1 : W9.cell? ⟨w.heap.size, 1, none⟩ = some (.slice none 0 0) := hZ9.cell rfl
                  have x2 : W9.cell? ⟨w.heap.size, 2, none⟩ = some (.int .i64 0) := hZ9.cell rfl
                  have x3 : W9.cell? ⟨w.heap.size, 3, none⟩ = some (.int .i64 0) := hZ9.cell rfl
                  have x4 : W9.cell? ⟨w.heap.size, 4, none⟩ = some (.int .i64 0) := hZ9.cell rfl
                  have x5 : W9.cell? ⟨w.heap.size, 5, none⟩ = some (.bool false) := hZ9.cell rfl
                  have HB9 := Lib.hid hB9
                  clear hZ9 hB9
                  refine bodyPost_ret (v := .tuple #[qv Qr.zero none 0, .int .i64 90]) (by simp [results, Tryz.results8, go_sem, Qr.zero, x0, x1, x2, x3, x4, x5]) rfl ?_
                  rw [HF.out]
                  exact pard_bad HB9.out
                | some k =>
                  have ea : a2 = (k : Int) := HA2.out
                  subst ea
                  have HKL := Lib.hid (by have := HL2.out k rfl; have h2 := HTL.out; omega : k ≤ t.size)
                  have HRD : Hid (readX numZ 2 (T.drop (wd.length + used)) = some ([v1, v2], T.drop k)) := Lib.hid HR2.out
                  have HV3 : Hid ((0 : Int) ≤ 9223372036854775807) := Lib.hid (by decide)
                  have ek : decide ((k : Int) < 0) = false := by simp
                  go_upto_region 25 with fail
                  clear y0 yl
                  have hkl : k ≤ t.size := by have := HKL.out; omega
                  have j0 : 0 ≤ (k : Int) := by omega
                  have j1 : (k : Int) ≤ (t.size : Int) := by omega
                  obtain ⟨r, hr⟩ : ∃ r, r = T.drop k := ⟨_, rfl⟩
                  obtain ⟨q, hq⟩ : ∃ q, q = mkQ op rs [v1, v2] r := ⟨_, rfl⟩
                  have HFT0 : Hid (parseQ numZ T = if (r = notesL ∨ r = []) ∧ rightQ q = true then (q, 0) else (Qr.zero, 90)) := Lib.hid (by rw [HF2.out, HRD.out, hq, hr]; rfl)
                  have hen : ((t.extract k t.size).toList == [32, 110, 111, 116, 101, 115]) = (r == notesL) := by rw [Lib.toList_data, ex_list, ← HT.out, hr]; rfl
                  have hee : decide ((k : Int) < (t.size : Int)) = !(r == []) := by
                    have hlr : r.length = t.size - k := by rw [hr, List.length_drop, HTL.out]
                    by_cases h9 : k < t.size
                    · have h8 : ¬ r = [] := fun e => by rw [e] at hlr; simp at hlr; omega
                      rw [decide_eq_true (by omega), beq_eq_false_iff_ne.2 h8]; rfl
                    · have h8 : r = [] := List.eq_nil_of_length_eq_zero (by omega)
                      rw [decide_eq_false (by omega), h8]; rfl
                  have HQR : Hid (q.rs = rs) := Lib.hid (by rw [hq]; rfl)
                  have HST : Hid (q.st ≤ 9223372036854775807) := Lib.hid (by rw [hq]; exact HV3.out)
                  have HQE := Lib.hid hq
                  have HQC : Hid (∀ nt, q.nt = nt → qc q A9 c9 = #[.int .i64 op, .slice A9 rs.length c9, .int .i64 v1, .int .i64 v2, .int .i64 0, .bool nt]) := Lib.hid fun nt hnt => by rw [← hnt, hq]; rfl
                  have HNQ : Hid (q.nt = (r == notesL)) := Lib.hid (by rw [hq]; rfl)
                  have y0 : W4.cell? ⟨b, 0, none⟩ = some (.int .i64 op) := HX.out.cell rfl
                  have y1 : W4.cell? ⟨b, 1, none⟩ = some (.slice A9 rs.length c9) := HX.out.cell rfl
                  have y2 : W4.cell? ⟨b, 2, none⟩ = some (.int .i64 v1) := HX.out.cell rfl
                  have y3 : W4.cell? ⟨b, 3, none⟩ = some (.int .i64 v2) := HX.out.cell rfl
                  have y4 : W4.cell? ⟨b, 4, none⟩ = some (.int .i64 0) := HX.out.cell rfl
                  have y5 : W4.cell? ⟨b, 5, none⟩ = some (.bool false) := HX.out.cell rfl
                  have yf := HX.out.fr
                  have yl := HX.out.lt
                  clear hq hr hkl
                  cases h1 : (r == notesL) with
                  | true =>
                    rw [h1] at hen
                    have HNT : Hid (q.nt = true) := Lib.hid (by rw [HNQ.out, h1])
                    have HFT : Hid (parseQ numZ T = if rightQ q = true then (q, 0) else (Qr.zero, 90)) := Lib.hid (by
                      rw [HFT0.out]
                      by_cases h9 : rightQ q = true
                      · rw [if_pos ⟨.inl (beq_iff_eq.1 h1), h9⟩, if_pos h9]
                      · rw [if_neg (fun h => h9 h.2), if_neg h9])
                    clear hee h1
                    go_upto_region 26 with fail
                    clear hen y0 y1 y2 y3 y4 y5 yf yl
                    have hX : Rwo (W4.setCell ⟨b, 5, none⟩ (.bool true)) b (qc q A9 c9) 24 := by rw [HQC.out true HNT.out]; exact HX.out.set 5 (.bool true)
                    have hZ : Rwo (W4.setCell ⟨b, 5, none⟩ (.bool true)) w.heap.size #[.int .i64 0, .slice none 0 0, .int .i64 0, .int .i64 0, .int .i64 0, .bool false] 24 := (HZ.out.other hb0)
                    have hB : Below w.heap.size w (W4.setCell ⟨b, 5, none⟩ (.bool true)) := (HB.out.setCell (p := ⟨b, 5, none⟩) hbw (.bool true))
                    have hR : Rd (W4.setCell ⟨b, 5, none⟩ (.bool true)) K3 (.slice A9 rs.length c9) rs := (So.setC HRA.out hnb)
                    generalize W4.setCell ⟨b, 5, none⟩ (.bool true) = W8 at hX hZ hB hR ⊢
                    replace HX := Lib.hid hX
                    replace HZ := Lib.hid hZ
                    replace HB := Lib.hid hB
                    replace HRA := Lib.hid hR
                    clear hX hZ hB hR
                    have HRQ : Hid (Rr W8 W8.heap.size A9 c9 q.rs) := Lib.hid (by rw [HQR.out]; exact (So.sr encR_len HRA.out).1)
                    have HC6 := Lib.hid (rRightQ_any (q := q) HRQ.out (Nat.le_refl _) (by rw [HQR.out]; exact HSR.out) HST.out)
                    generalize hrq : rightQ q = rq at HC6
                    have HF3 : Hid (parseQ numZ T = if rq = true then (q, 0) else (Qr.zero, 90)) := Lib.hid (by rw [← hrq]; exact HFT.out)
                    have y0 : W8.cell? ⟨b, 0, none⟩ = some (.int .i64 q.op) := HX.out.cell rfl
                    have y1 : W8.cell? ⟨b, 1, none⟩ = some (.slice A9 q.rs.length c9) := HX.out.cell rfl
                    have y2 : W8.cell? ⟨b, 2, none⟩ = some (.int .i64 q.fr) := HX.out.cell rfl
                    have y3 : W8.cell? ⟨b, 3, none⟩ = some (.int .i64 q.to_) := HX.out.cell rfl
                    have y4 : W8.cell? ⟨b, 4, none⟩ = some (.int .i64 q.st) := HX.out.cell rfl
                    have y5 : W8.cell? ⟨b, 5, none⟩ = some (.bool q.nt) := HX.out.cell rfl
                    have yl := HX.out.lt
                    clear hrq
                    rw [HNT.out] at y5
                    replace HC6 := Lib.hid (show Calls Tryz.prog 12 #[.agg #[.int .i64 q.op, .slice A9 q.rs.length c9, .int .i64 q.fr, .int .i64 q.to_, .int .i64 q.st, .bool true]] W8 (fun e w' => e = .returned (.bool rq) ∧ Below W8.heap.size W8 w') from by rw [← HNT.out]; exact HC6.out)
                    go_wp2_with fail
                    refine HC6.out.mono ?_
                    rintro e V9 ⟨rfl, b9⟩
                    have HRA9 : Hid (Rd V9 K3 (.slice A9 q.rs.length c9) q.rs) := Lib.hid (by rw [HQR.out]; exact So.below HRA.out b9)
                    replace HB := Lib.hid (HB.out.trans (b9.mono HB.out.size))
                    replace HZ := Lib.hid (HZ.out.below b9)
                    replace HX := Lib.hid (HX.out.below b9)
                    clear b9 y0 y1 y2 y3 y4 y5 yl HC6
                    cases rq with
                    | false =>
                      have HF : Hid (parseQ numZ T = (Qr.zero, 90)) := Lib.hid (by rw [HF3.out]; rfl)
                      have z0 : V9.cell? ⟨w.heap.size, 0, none⟩ = some (.int .i64 0) := HZ.out.cell rfl
                      have z1 : V9.cell? ⟨w.heap.size, 1, none⟩ = some (.slice none 0 0) := HZ.out.cell rfl
                      have z2 : V9.cell? ⟨w.heap.size, 2, none⟩ = some (.int .i64 0) := HZ.out.cell rfl
                      have z3 : V9.cell? ⟨w.heap.size, 3, none⟩ = some (.int .i64 0) := HZ.out.cell rfl
                      have z4 : V9.cell? ⟨w.heap.size, 4, none⟩ = some (.int .i64 0) := HZ.out.cell rfl
                      have z5 : V9.cell? ⟨w.heap.size, 5, none⟩ = some (.bool false) := HZ.out.cell rfl
                      have zf := HZ.out.fr
                      have zl := HZ.out.lt
                      go_wp2
                      have hZ9 := HZ.out.set6 (.int .i64 0) (.slice none 0 0) (.int .i64 0) (.int .i64 0) (.int .i64 0) (.bool false)
                      have hB9 := below_set6 HB.out (Nat.le_refl w.heap.size) (.int .i64 0) (.slice none 0 0) (.int .i64 0) (.int .i64 0) (.int .i64 0) (.bool false)
                      generalize hW9 : (World.setCell _ _ _ : World) = W9 at hZ9 hB9 ⊢
                      clear hW9 z0 z1 z2 z3 z4 z5 zf
                      have x0 : W9.cell? ⟨w.heap.size, 0, none⟩ = some (.int .i64 0) := hZ9.cell rfl
                      have x1 : W9.cell? ⟨w.heap.size, 1, none⟩ = some (.slice none 0 0) := hZ9.cell rfl
                      have x2 : W9.cell? ⟨w.heap.size, 2, none⟩ = some (.int .i64 0) := hZ9.cell rfl
                      have x3 : W9.cell? ⟨w.heap.size, 3, none⟩ = some (.int .i64 0) := hZ9.cell rfl
                      have x4 : W9.cell? ⟨w.heap.size, 4, none⟩ = some (.int .i64 0) := hZ9.cell rfl
                      have x5 : W9.cell? ⟨w.heap.size, 5, none⟩ = some (.bool false) := hZ9.cell rfl
                      have HB9 := Lib.hid hB9
                      clear hZ9 hB9
                      refine bodyPost_ret (v := .tuple #[qv Qr.zero none 0, .int .i64 90]) (by simp [results, Tryz.results8, go_sem, Qr.zero, x0, x1, x2, x3, x4, x5]) rfl ?_
                      rw [HF.out]
                      exact pard_bad HB9.out
                    | true =>
                      have HF : Hid (parseQ numZ T = (q, 0)) := Lib.hid (by rw [HF3.out]; rfl)
                      have y0 : V9.cell? ⟨b, 0, none⟩ = some (.int .i64 q.op) := HX.out.cell rfl
                      have y1 : V9.cell? ⟨b, 1, none⟩ = some (.slice A9 q.rs.length c9) := HX.out.cell rfl
                      have y2 : V9.cell? ⟨b, 2, none⟩ = some (.int .i64 q.fr) := HX.out.cell rfl
                      have y3 : V9.cell? ⟨b, 3, none⟩ = some (.int .i64 q.to_) := HX.out.cell rfl
                      have y4 : V9.cell? ⟨b, 4, none⟩ = some (.int .i64 q.st) := HX.out.cell rfl
                      have y5 : V9.cell? ⟨b, 5, none⟩ = some (.bool q.nt) := HX.out.cell rfl
                      have yl := HX.out.lt
                      have z0 : V9.cell? ⟨w.heap.size, 0, none⟩ = some (.int .i64 0) := HZ.out.cell rfl
                      have z1 : V9.cell? ⟨w.heap.size, 1, none⟩ = some (.slice none 0 0) := HZ.out.cell rfl
                      have z2 : V9.cell? ⟨w.heap.size, 2, none⟩ = some (.int .i64 0) := HZ.out.cell rfl
                      have z3 : V9.cell? ⟨w.heap.size, 3, none⟩ = some (.int .i64 0) := HZ.out.cell rfl
                      have z4 : V9.cell? ⟨w.heap.size, 4, none⟩ = some (.int .i64 0) := HZ.out.cell rfl
                      have z5 : V9.cell? ⟨w.heap.size, 5, none⟩ = some (.bool false) := HZ.out.cell rfl
                      have zf := HZ.out.fr
                      have zl := HZ.out.lt
                      go_wp2
                      have hZ9 := HZ.out.set6 (.int .i64 q.op) (.slice A9 q.rs.length c9) (.int .i64 q.fr) (.int .i64 q.to_) (.int .i64 q.st) (.bool q.nt)
                      have hB9 := below_set6 HB.out (Nat.le_refl w.heap.size) (.int .i64 q.op) (.slice A9 q.rs.length c9) (.int .i64 q.fr) (.int .i64 q.to_) (.int .i64 q.st) (.bool q.nt)
                      have hR9 := So.set6 (g := w.heap.size) HRA9.out (fun h => by have := (So.ltB HRA9.out _ h).1; omega) (.int .i64 q.op) (.slice A9 q.rs.length c9) (.int .i64 q.fr) (.int .i64 q.to_) (.int .i64 q.st) (.bool q.nt)
                      generalize hW9 : (World.setCell _ _ _ : World) = W10 at hZ9 hB9 hR9 ⊢
                      clear hW9 z0 z1 z2 z3 z4 z5 zf y0 y1 y2 y3 y4 y5
                      have x0 : W10.cell? ⟨w.heap.size, 0, none⟩ = some (.int .i64 q.op) := hZ9.cell rfl
                      have x1 : W10.cell? ⟨w.heap.size, 1, none⟩ = some (.slice A9 q.rs.length c9) := hZ9.cell rfl
                      have x2 : W10.cell? ⟨w.heap.size, 2, none⟩ = some (.int .i64 q.fr) := hZ9.cell rfl
                      have x3 : W10.cell? ⟨w.heap.size, 3, none⟩ = some (.int .i64 q.to_) := hZ9.cell rfl
                      have x4 : W10.cell? ⟨w.heap.size, 4, none⟩ = some (.int .i64 q.st) := hZ9.cell rfl
                      have x5 : W10.cell? ⟨w.heap.size, 5, none⟩ = some (.bool q.nt) := hZ9.cell rfl
                      have HB9 := Lib.hid hB9
                      have HR9 := Lib.hid hR9
                      clear hZ9 hB9 hR9
                      refine bodyPost_ret (v := .tuple #[qv q A9 c9, .int .i64 0]) (by simp [results, Tryz.results8, go_sem, x0, x1, x2, x3, x4, x5]) rfl ?_
                      rw [HF.out]
                      exact ⟨A9, c9, rfl, HR9.out.more (Nat.le_of_lt hw3), HB9.out⟩
                  | false =>
                    rw [h1] at hen
                    have HNT : Hid (q.nt = false) := Lib.hid (by rw [HNQ.out, h1])
                    have hn1 : ¬ r = notesL := beq_eq_false_iff_ne.1 h1
                    cases h2 : (r == []) with
                    | true =>
                      have HFT : Hid (parseQ numZ T = if rightQ q = true then (q, 0) else (Qr.zero, 90)) := Lib.hid (by
                        rw [HFT0.out]
                        by_cases h9 : rightQ q = true
                        · rw [if_pos ⟨.inr (beq_iff_eq.1 h2), h9⟩, if_pos h9]
                        · rw [if_neg (fun h => h9 h.2), if_neg h9])
                      rw [h2] at hee
                      replace hee : decide ((k : Int) < (t.size : Int)) = false := hee
                      have heen : decide (k < t.size) = false := by simpa using hee
                      clear h1 h2 hn1
                      go_upto_region 26 with fail
                      clear hen y0 y1 y2 y3 y4 y5 yf yl
                      have hX : Rwo (W4.setCell ⟨b, 5, none⟩ (.bool false)) b (qc q A9 c9) 24 := by rw [HQC.out false HNT.out]; exact HX.out.set 5 (.bool false)
                      have hZ : Rwo (W4.setCell ⟨b, 5, none⟩ (.bool false)) w.heap.size #[.int .i64 0, .slice none 0 0, .int .i64 0, .int .i64 0, .int .i64 0, .bool false] 24 := (HZ.out.other hb0)
                      have hB : Below w.heap.size w (W4.setCell ⟨b, 5, none⟩ (.bool false)) := (HB.out.setCell (p := ⟨b, 5, none⟩) hbw (.bool false))
                      have hR : Rd (W4.setCell ⟨b, 5, none⟩ (.bool false)) K3 (.slice A9 rs.length c9) rs := (So.setC HRA.out hnb)
                      generalize W4.setCell ⟨b, 5, none⟩ (.bool false) = W8 at hX hZ hB hR ⊢
                      replace HX := Lib.hid hX
                      replace HZ := Lib.hid hZ
                      replace HB := Lib.hid hB
                      replace HRA := Lib.hid hR
                      clear hX hZ hB hR
                      have HRQ : Hid (Rr W8 W8.heap.size A9 c9 q.rs) := Lib.hid (by rw [HQR.out]; exact (So.sr encR_len HRA.out).1)
                      have HC6 := Lib.hid (rRightQ_any (q := q) HRQ.out (Nat.le_refl _) (by rw [HQR.out]; exact HSR.out) HST.out)
                      generalize hrq : rightQ q = rq at HC6
                      have HF3 : Hid (parseQ numZ T = if rq = true then (q, 0) else (Qr.zero, 90)) := Lib.hid (by rw [← hrq]; exact HFT.out)
                      have y0 : W8.cell? ⟨b, 0, none⟩ = some (.int .i64 q.op) := HX.out.cell rfl
                      have y1 : W8.cell? ⟨b, 1, none⟩ = some (.slice A9 q.rs.length c9) := HX.out.cell rfl
                      have y2 : W8.cell? ⟨b, 2, none⟩ = some (.int .i64 q.fr) := HX.out.cell rfl
                      have y3 : W8.cell? ⟨b, 3, none⟩ = some (.int .i64 q.to_) := HX.out.cell rfl
                      have y4 : W8.cell? ⟨b, 4, none⟩ = some (.int .i64 q.st) := HX.out.cell rfl
                      have y5 : W8.cell? ⟨b, 5, none⟩ = some (.bool q.nt) := HX.out.cell rfl
                      have yl := HX.out.lt
                      clear hrq
                      rw [HNT.out] at y5
                      replace HC6 := Lib.hid (show Calls Tryz.prog 12 #[.agg #[.int .i64 q.op, .slice A9 q.rs.length c9, .int .i64 q.fr, .int .i64 q.to_, .int .i64 q.st, .bool false]] W8 (fun e w' => e = .returned (.bool rq) ∧ Below W8.heap.size W8 w') from by rw [← HNT.out]; exact HC6.out)
                      go_wp2_with fail
                      refine HC6.out.mono ?_
                      rintro e V9 ⟨rfl, b9⟩
                      have HRA9 : Hid (Rd V9 K3 (.slice A9 q.rs.length c9) q.rs) := Lib.hid (by rw [HQR.out]; exact So.below HRA.out b9)
                      replace HB := Lib.hid (HB.out.trans (b9.mono HB.out.size))
                      replace HZ := Lib.hid (HZ.out.below b9)
                      replace HX := Lib.hid (HX.out.below b9)
                      clear b9 y0 y1 y2 y3 y4 y5 yl HC6
                      cases rq with
                      | false =>
                        have HF : Hid (parseQ numZ T = (Qr.zero, 90)) := Lib.hid (by rw [HF3.out]; rfl)
                        have z0 : V9.cell? ⟨w.heap.size, 0, none⟩ = some (.int .i64 0) := HZ.out.cell rfl
                        have z1 : V9.cell? ⟨w.heap.size, 1, none⟩ = some (.slice none 0 0) := HZ.out.cell rfl
                        have z2 : V9.cell? ⟨w.heap.size, 2, none⟩ = some (.int .i64 0) := HZ.out.cell rfl
                        have z3 : V9.cell? ⟨w.heap.size, 3, none⟩ = some (.int .i64 0) := HZ.out.cell rfl
                        have z4 : V9.cell? ⟨w.heap.size, 4, none⟩ = some (.int .i64 0) := HZ.out.cell rfl
                        have z5 : V9.cell? ⟨w.heap.size, 5, none⟩ = some (.bool false) := HZ.out.cell rfl
                        have zf := HZ.out.fr
                        have zl := HZ.out.lt
                        go_wp2
                        have hZ9 := HZ.out.set6 (.int .i64 0) (.slice none 0 0) (.int .i64 0) (.int .i64 0) (.int .i64 0) (.bool false)
                        have hB9 := below_set6 HB.out (Nat.le_refl w.heap.size) (.int .i64 0) (.slice none 0 0) (.int .i64 0) (.int .i64 0) (.int .i64 0) (.bool false)
                        generalize hW9 : (World.setCell _ _ _ : World) = W9 at hZ9 hB9 ⊢
                        clear hW9 z0 z1 z2 z3 z4 z5 zf
                        have x0 : W9.cell? ⟨w.heap.size, 0, none⟩ = some (.int .i64 0) := hZ9.cell rfl
                        have x1 : W9.cell? ⟨w.heap.size, 1, none⟩ = some (.slice none 0 0) := hZ9.cell rfl
                        have x2 : W9.cell? ⟨w.heap.size, 2, none⟩ = some (.int .i64 0) := hZ9.cell rfl
                        have x3 : W9.cell? ⟨w.heap.size, 3, none⟩ = some (.int .i64 0) := hZ9.cell rfl
                        have x4 : W9.cell? ⟨w.heap.size, 4, none⟩ = some (.int .i64 0) := hZ9.cell rfl
                        have x5 : W9.cell? ⟨w.heap.size, 5, none⟩ = some (.bool false) := hZ9.cell rfl
                        have HB9 := Lib.hid hB9
                        clear hZ9 hB9
                        refine bodyPost_ret (v := .tuple #[qv Qr.zero none 0, .int .i64 90]) (by simp [results, Tryz.results8, go_sem, Qr.zero, x0, x1, x2, x3, x4, x5]) rfl ?_
                        rw [HF.out]
                        exact pard_bad HB9.out
                      | true =>
                        have HF : Hid (parseQ numZ T = (q, 0)) := Lib.hid (by rw [HF3.out]; rfl)
                        have y0 : V9.cell? ⟨b, 0, none⟩ = some (.int .i64 q.op) := HX.out.cell rfl
                        have y1 : V9.cell? ⟨b, 1, none⟩ = some (.slice A9 q.rs.length c9) := HX.out.cell rfl
                        have y2 : V9.cell? ⟨b, 2, none⟩ = some (.int .i64 q.fr) := HX.out.cell rfl
                        have y3 : V9.cell? ⟨b, 3, none⟩ = some (.int .i64 q.to_) := HX.out.cell rfl
                        have y4 : V9.cell? ⟨b, 4, none⟩ = some (.int .i64 q.st) := HX.out.cell rfl
                        have y5 : V9.cell? ⟨b, 5, none⟩ = some (.bool q.nt) := HX.out.cell rfl
                        have yl := HX.out.lt
                        have z0 : V9.cell? ⟨w.heap.size, 0, none⟩ = some (.int .i64 0) := HZ.out.cell rfl
                        have z1 : V9.cell? ⟨w.heap.size, 1, none⟩ = some (.slice none 0 0) := HZ.out.cell rfl
                        have z2 : V9.cell? ⟨w.heap.size, 2, none⟩ = some (.int .i64 0) := HZ.out.cell rfl
                        have z3 : V9.cell? ⟨w.heap.size, 3, none⟩ = some (.int .i64 0) := HZ.out.cell rfl
                        have z4 : V9.cell? ⟨w.heap.size, 4, none⟩ = some (.int .i64 0) := HZ.out.cell rfl
                        have z5 : V9.cell? ⟨w.heap.size, 5, none⟩ = some (.bool false) := HZ.out.cell rfl
                        have zf := HZ.out.fr
                        have zl := HZ.out.lt
                        go_wp2
                        have hZ9 := HZ.out.set6 (.int .i64 q.op) (.slice A9 q.rs.length c9) (.int .i64 q.fr) (.int .i64 q.to_) (.int .i64 q.st) (.bool q.nt)
                        have hB9 := below_set6 HB.out (Nat.le_refl w.heap.size) (.int .i64 q.op) (.slice A9 q.rs.length c9) (.int .i64 q.fr) (.int .i64 q.to_) (.int .i64 q.st) (.bool q.nt)
                        have hR9 := So.set6 (g := w.heap.size) HRA9.out (fun h => by have := (So.ltB HRA9.out _ h).1; omega) (.int .i64 q.op) (.slice A9 q.rs.length c9) (.int .i64 q.fr) (.int .i64 q.to_) (.int .i64 q.st) (.bool q.nt)
                        generalize hW9 : (World.setCell _ _ _ : World) = W10 at hZ9 hB9 hR9 ⊢
                        clear hW9 z0 z1 z2 z3 z4 z5 zf y0 y1 y2 y3 y4 y5
                        have x0 : W10.cell? ⟨w.heap.size, 0, none⟩ = some (.int .i64 q.op) := hZ9.cell rfl
                        have x1 : W10.cell? ⟨w.heap.size, 1, none⟩ = some (.slice A9 q.rs.length c9) := hZ9.cell rfl
                        have x2 : W10.cell? ⟨w.heap.size, 2, none⟩ = some (.int .i64 q.fr) := hZ9.cell rfl
                        have x3 : W10.cell? ⟨w.heap.size, 3, none⟩ = some (.int .i64 q.to_) := hZ9.cell rfl
                        have x4 : W10.cell? ⟨w.heap.size, 4, none⟩ = some (.int .i64 q.st) := hZ9.cell rfl
                        have x5 : W10.cell? ⟨w.heap.size, 5, none⟩ = some (.bool q.nt) := hZ9.cell rfl
                        have HB9 := Lib.hid hB9
                        have HR9 := Lib.hid hR9
                        clear hZ9 hB9 hR9
                        refine bodyPost_ret (v := .tuple #[qv q A9 c9, .int .i64 0]) (by simp [results, Tryz.results8, go_sem, x0, x1, x2, x3, x4, x5]) rfl ?_
                        rw [HF.out]
                        exact ⟨A9, c9, rfl, HR9.out.more (Nat.le_of_lt hw3), HB9.out⟩
                    | false =>
                      have hn2 : ¬ r = [] := beq_eq_false_iff_ne.1 h2
                      have HF : Hid (parseQ numZ T = (Qr.zero, 90)) := Lib.hid (by
                        rw [HFT0.out, if_neg (fun h => h.1.elim hn1 hn2)])
                      rw [h2] at hee
                      replace hee : decide ((k : Int) < (t.size : Int)) = true := hee
                      have heen : decide (k < t.size) = true := by simpa using hee
                      clear h1 h2 hn1 hn2
                      go_upto_region 26 with fail
                      clear hen y0 y1 y2 y3 y4 y5 yf yl
                      have hX : Rwo (W4.setCell ⟨b, 5, none⟩ (.bool false)) b (qc q A9 c9) 24 := by rw [HQC.out false HNT.out]; exact HX.out.set 5 (.bool false)
                      have hZ : Rwo (W4.setCell ⟨b, 5, none⟩ (.bool false)) w.heap.size #[.int .i64 0, .slice none 0 0, .int .i64 0, .int .i64 0, .int .i64 0, .bool false] 24 := (HZ.out.other hb0)
                      have hB : Below w.heap.size w (W4.setCell ⟨b, 5, none⟩ (.bool false)) := (HB.out.setCell (p := ⟨b, 5, none⟩) hbw (.bool false))
                      have hR : Rd (W4.setCell ⟨b, 5, none⟩ (.bool false)) K3 (.slice A9 rs.length c9) rs := (So.setC HRA.out hnb)
                      generalize W4.setCell ⟨b, 5, none⟩ (.bool false) = W8 at hX hZ hB hR ⊢
                      replace HX := Lib.hid hX
                      replace HZ := Lib.hid hZ
                      replace HB := Lib.hid hB
                      replace HRA := Lib.hid hR
                      clear hX hZ hB hR
                      have y5 : W8.cell? ⟨b, 5, none⟩ = some (.bool q.nt) := HX.out.cell rfl
                      rw [HNT.out] at y5
                      have yl := HX.out.lt
                      have z0 : W8.cell? ⟨w.heap.size, 0, none⟩ = some (.int .i64 0) := HZ.out.cell rfl
                      have z1 : W8.cell? ⟨w.heap.size, 1, none⟩ = some (.slice none 0 0) := HZ.out.cell rfl
                      have z2 : W8.cell? ⟨w.heap.size, 2, none⟩ = some (.int .i64 0) := HZ.out.cell rfl
                      have z3 : W8.cell? ⟨w.heap.size, 3, none⟩ = some (.int .i64 0) := HZ.out.cell rfl
                      have z4 : W8.cell? ⟨w.heap.size, 4, none⟩ = some (.int .i64 0) := HZ.out.cell rfl
                      have z5 : W8.cell? ⟨w.heap.size, 5, none⟩ = some (.bool false) := HZ.out.cell rfl
                      have zf := HZ.out.fr
                      have zl := HZ.out.lt
                      go_wp2
                      have hZ9 := HZ.out.set6 (.int .i64 0) (.slice none 0 0) (.int .i64 0) (.int .i64 0) (.int .i64 0) (.bool false)
                      have hB9 := below_set6 HB.out (Nat.le_refl w.heap.size) (.int .i64 0) (.slice none 0 0) (.int .i64 0) (.int .i64 0) (.int .i64 0) (.bool false)
                      generalize hW9 : (World.setCell _ _ _ : World) = W9 at hZ9 hB9 ⊢
                      clear hW9 z0 z1 z2 z3 z4 z5 zf
                      have x0 : W9.cell? ⟨w.heap.size, 0, none⟩ = some (.int .i64 0) := hZ9.cell rfl
                      have x1 : W9.cell? ⟨w.heap.size, 1, none⟩ = some (.slice none 0 0) := hZ9.cell rfl
                      have x2 : W9.cell? ⟨w.heap.size, 2, none⟩ = some (.int .i64 0) := hZ9.cell rfl
                      have x3 : W9.cell? ⟨w.heap.size, 3, none⟩ = some (.int .i64 0) := hZ9.cell rfl
                      have x4 : W9.cell? ⟨w.heap.size, 4, none⟩ = some (.int .i64 0) := hZ9.cell rfl
                      have x5 : W9.cell? ⟨w.heap.size, 5, none⟩ = some (.bool false) := hZ9.cell rfl
                      have HB9 := Lib.hid hB9
                      clear hZ9 hB9
                      refine bodyPost_ret (v := .tuple #[qv Qr.zero none 0, .int .i64 90]) (by simp [results, Tryz.results8, go_sem, Qr.zero, x0, x1, x2, x3, x4, x5]) rfl ?_
                      rw [HF.out]
                      exact pard_bad HB9.out
              · have e0 : (op != (0 : Int)) = true := by simpa using h0
                have e0b : (op == (0 : Int)) = false := by simpa using h0
                have hk : kQ op = 3 := if_neg h0
                rw [hk] at HF2
                clear h0 hk y0 yl
                have y0 : W4.cell? ⟨b, 0, none⟩ = some (.int .i64 op) := HX.out.cell rfl
                have y1 : W4.cell? ⟨b, 1, none⟩ = some (.slice A9 rs.length c9) := HX.out.cell rfl
                have y2 : W4.cell? ⟨b, 2, none⟩ = some (.int .i64 v1) := HX.out.cell rfl
                have y3 : W4.cell? ⟨b, 3, none⟩ = some (.int .i64 v2) := HX.out.cell rfl
                have y4 : W4.cell? ⟨b, 4, none⟩ = some (.int .i64 0) := HX.out.cell rfl
                have y5 : W4.cell? ⟨b, 5, none⟩ = some (.bool false) := HX.out.cell rfl
                have yf := HX.out.fr
                have yl := HX.out.lt
                go_wp2_with fail
                refine (HN3.out _).mono ?_
                rintro e w' ⟨rfl, rfl⟩
                go_upto_region 23 with fail
                clear y0 y1 y2 y3 y4 y5 yf yl
                have hX : Rwo (W4.setCell ⟨b, 4, none⟩ (.int .i64 v3)) b #[.int .i64 op, .slice A9 rs.length c9, .int .i64 v1, .int .i64 v2, .int .i64 v3, .bool false] 24 := (HX.out.set 4 (.int .i64 v3))
                have hZ : Rwo (W4.setCell ⟨b, 4, none⟩ (.int .i64 v3)) w.heap.size #[.int .i64 0, .slice none 0 0, .int .i64 0, .int .i64 0, .int .i64 0, .bool false] 24 := (HZ.out.other hb0)
                have hB : Below w.heap.size w (W4.setCell ⟨b, 4, none⟩ (.int .i64 v3)) := (HB.out.setCell (p := ⟨b, 4, none⟩) hbw (.int .i64 v3))
                have hR : Rd (W4.setCell ⟨b, 4, none⟩ (.int .i64 v3)) K3 (.slice A9 rs.length c9) rs := (So.setC HRA.out hnb)
                generalize W4.setCell ⟨b, 4, none⟩ (.int .i64 v3) = W5 at hX hZ hB hR ⊢
                replace HX := Lib.hid hX
                replace HZ := Lib.hid hZ
                replace HB := Lib.hid hB
                replace HRA := Lib.hid hR
                clear hX hZ hB hR
                have yl := HX.out.lt
                cases x3 with
                | none =>
                  have ea : a3 = -1 := HA3.out
                  subst ea
                  have HF : Hid (parseQ numZ T = (Qr.zero, 90)) := Lib.hid (by rw [HF2.out, HR3.out]; rfl)
                  have z0 : W5.cell? ⟨w.heap.size, 0, none⟩ = some (.int .i64 0) := HZ.out.cell rfl
                  have z1 : W5.cell? ⟨w.heap.size, 1, none⟩ = some (.slice none 0 0) := HZ.out.cell rfl
                  have z2 : W5.cell? ⟨w.heap.size, 2, none⟩ = some (.int .i64 0) := HZ.out.cell rfl
                  have z3 : W5.cell? ⟨w.heap.size, 3, none⟩ = some (.int .i64 0) := HZ.out.cell rfl
                  have z4 : W5.cell? ⟨w.heap.size, 4, none⟩ = some (.int .i64 0) := HZ.out.cell rfl
                  have z5 : W5.cell? ⟨w.heap.size, 5, none⟩ = some (.bool false) := HZ.out.cell rfl
                  have zf := HZ.out.fr
                  have zl := HZ.out.lt
                  go_wp2
                  have hZ9 := HZ.out.set6 (.int .i64 0) (.slice none 0 0) (.int .i64 0) (.int .i64 0) (.int .i64 0) (.bool false)
                  have hB9 := below_set6 HB.out (Nat.le_refl w.heap.size) (.int .i64 0) (.slice none 0 0) (.int .i64 0) (.int .i64 0) (.int .i64 0) (.bool false)
                  generalize hW9 : (World.setCell _ _ _ : World) = W9 at hZ9 hB9 ⊢
                  clear hW9 z0 z1 z2 z3 z4 z5 zf
                  have x0 : W9.cell? ⟨w.heap.size, 0, none⟩ = some (.int .i64 0) := hZ9.cell rfl
                  have x1 : W9.cell? ⟨w.heap.size, 1, none⟩ = some (.slice none 0 0) := hZ9.cell rfl
                  have x2 : W9.cell? ⟨w.heap.size, 2, none⟩ = some (.int .i64 0) := hZ9.cell rfl
                  have x3 : W9.cell? ⟨w.heap.size, 3, none⟩ = some (.int .i64 0) := hZ9.cell rfl
                  have x4 : W9.cell? ⟨w.heap.size, 4, none⟩ = some (.int .i64 0) := hZ9.cell rfl
                  have x5 : W9.cell? ⟨w.heap.size, 5, none⟩ = some (.bool false) := hZ9.cell rfl
                  have HB9 := Lib.hid hB9
                  clear hZ9 hB9
                  refine bodyPost_ret (v := .tuple #[qv Qr.zero none 0, .int .i64 90]) (by simp [results, Tryz.results8, go_sem, Qr.zero, x0, x1, x2, x3, x4, x5]) rfl ?_
                  rw [HF.out]
                  exact pard_bad HB9.out
                | some k =>
                  have ea : a3 = (k : Int) := HA3.out
                  subst ea
                  have HKL := Lib.hid (by have := HL3.out k rfl; have h2 := HTL.out; omega : k ≤ t.size)
                  have HRD : Hid (readX numZ 3 (T.drop (wd.length + used)) = some ([v1, v2, v3], T.drop k)) := Lib.hid HR3.out
                  have HV3 : Hid (v3 ≤ 9223372036854775807) := HVV
                  have ek : decide ((k : Int) < 0) = false := by simp
                  go_upto_region 25 with fail
                  clear yl
                  have hkl : k ≤ t.size := by have := HKL.out; omega
                  have j0 : 0 ≤ (k : Int) := by omega
                  have j1 : (k : Int) ≤ (t.size : Int) := by omega
                  obtain ⟨r, hr⟩ : ∃ r, r = T.drop k := ⟨_, rfl⟩
                  obtain ⟨q, hq⟩ : ∃ q, q = mkQ op rs [v1, v2, v3] r := ⟨_, rfl⟩
                  have HFT0 : Hid (parseQ numZ T = if (r = notesL ∨ r = []) ∧ rightQ q = true then (q, 0) else (Qr.zero, 90)) := Lib.hid (by rw [HF2.out, HRD.out, hq, hr]; rfl)
                  have hen : ((t.extract k t.size).toList == [32, 110, 111, 116, 101, 115]) = (r == notesL) := by rw [Lib.toList_data, ex_list, ← HT.out, hr]; rfl
                  have hee : decide ((k : Int) < (t.size : Int)) = !(r == []) := by
                    have hlr : r.length = t.size - k := by rw [hr, List.length_drop, HTL.out]
                    by_cases h9 : k < t.size
                    · have h8 : ¬ r = [] := fun e => by rw [e] at hlr; simp at hlr; omega
                      rw [decide_eq_true (by omega), beq_eq_false_iff_ne.2 h8]; rfl
                    · have h8 : r = [] := List.eq_nil_of_length_eq_zero (by omega)
                      rw [decide_eq_false (by omega), h8]; rfl
                  have HQR : Hid (q.rs = rs) := Lib.hid (by rw [hq]; rfl)
                  have HST : Hid (q.st ≤ 9223372036854775807) := Lib.hid (by rw [hq]; exact HV3.out)
                  have HQE := Lib.hid hq
                  have HQC : Hid (∀ nt, q.nt = nt → qc q A9 c9 = #[.int .i64 op, .slice A9 rs.length c9, .int .i64 v1, .int .i64 v2, .int .i64 v3, .bool nt]) := Lib.hid fun nt hnt => by rw [← hnt, hq]; rfl
                  have HNQ : Hid (q.nt = (r == notesL)) := Lib.hid (by rw [hq]; rfl)
                  have y0 : W5.cell? ⟨b, 0, none⟩ = some (.int .i64 op) := HX.out.cell rfl
                  have y1 : W5.cell? ⟨b, 1, none⟩ = some (.slice A9 rs.length c9) := HX.out.cell rfl
                  have y2 : W5.cell? ⟨b, 2, none⟩ = some (.int .i64 v1) := HX.out.cell rfl
                  have y3 : W5.cell? ⟨b, 3, none⟩ = some (.int .i64 v2) := HX.out.cell rfl
                  have y4 : W5.cell? ⟨b, 4, none⟩ = some (.int .i64 v3) := HX.out.cell rfl
                  have y5 : W5.cell? ⟨b, 5, none⟩ = some (.bool false) := HX.out.cell rfl
                  have yf := HX.out.fr
                  have yl := HX.out.lt
                  clear hq hr hkl
                  cases h1 : (r == notesL) with
                  | true =>
                    rw [h1] at hen
                    have HNT : Hid (q.nt = true) := Lib.hid (by rw [HNQ.out, h1])
                    have HFT : Hid (parseQ numZ T = if rightQ q = true then (q, 0) else (Qr.zero, 90)) := Lib.hid (by
                      rw [HFT0.out]
                      by_cases h9 : rightQ q = true
                      · rw [if_pos ⟨.inl (beq_iff_eq.1 h1), h9⟩, if_pos h9]
                      · rw [if_neg (fun h => h9 h.2), if_neg h9])
                    clear hee h1
                    go_upto_region 26 with fail
                    clear hen y0 y1 y2 y3 y4 y5 yf yl
                    have hX : Rwo (W5.setCell ⟨b, 5, none⟩ (.bool true)) b (qc q A9 c9) 24 := by rw [HQC.out true HNT.out]; exact HX.out.set 5 (.bool true)
                    have hZ : Rwo (W5.setCell ⟨b, 5, none⟩ (.bool true)) w.heap.size #[.int .i64 0, .slice none 0 0, .int .i64 0, .int .i64 0, .int .i64 0, .bool false] 24 := (HZ.out.other hb0)
                    have hB : Below w.heap.size w (W5.setCell ⟨b, 5, none⟩ (.bool true)) := (HB.out.setCell (p := ⟨b, 5, none⟩) hbw (.bool true))
                    have hR : Rd (W5.setCell ⟨b, 5, none⟩ (.bool true)) K3 (.slice A9 rs.length c9) rs := (So.setC HRA.out hnb)
                    generalize W5.setCell ⟨b, 5, none⟩ (.bool true) = W8 at hX hZ hB hR ⊢
                    replace HX := Lib.hid hX
                    replace HZ := Lib.hid hZ
                    replace HB := Lib.hid hB
                    replace HRA := Lib.hid hR
                    clear hX hZ hB hR
                    have HRQ : Hid (Rr W8 W8.heap.size A9 c9 q.rs) := Lib.hid (by rw [HQR.out]; exact (So.sr encR_len HRA.out).1)
                    have HC6 := Lib.hid (rRightQ_any (q := q) HRQ.out (Nat.le_refl _) (by rw [HQR.out]; exact HSR.out) HST.out)
                    generalize hrq : rightQ q = rq at HC6
                    have HF3 : Hid (parseQ numZ T = if rq = true then (q, 0) else (Qr.zero, 90)) := Lib.hid (by rw [← hrq]; exact HFT.out)
                    have y0 : W8.cell? ⟨b, 0, none⟩ = some (.int .i64 q.op) := HX.out.cell rfl
                    have y1 : W8.cell? ⟨b, 1, none⟩ = some (.slice A9 q.rs.length c9) := HX.out.cell rfl
                    have y2 : W8.cell? ⟨b, 2, none⟩ = some (.int .i64 q.fr) := HX.out.cell rfl
                    have y3 : W8.cell? ⟨b, 3, none⟩ = some (.int .i64 q.to_) := HX.out.cell rfl
                    have y4 : W8.cell? ⟨b, 4, none⟩ = some (.int .i64 q.st) := HX.out.cell rfl
                    have y5 : W8.cell? ⟨b, 5, none⟩ = some (.bool q.nt) := HX.out.cell rfl
                    have yl := HX.out.lt
                    clear hrq
                    rw [HNT.out] at y5
                    replace HC6 := Lib.hid (show Calls Tryz.prog 12 #[.agg #[.int .i64 q.op, .slice A9 q.rs.length c9, .int .i64 q.fr, .int .i64 q.to_, .int .i64 q.st, .bool true]] W8 (fun e w' => e = .returned (.bool rq) ∧ Below W8.heap.size W8 w') from by rw [← HNT.out]; exact HC6.out)
                    go_wp2_with fail
                    refine HC6.out.mono ?_
                    rintro e V9 ⟨rfl, b9⟩
                    have HRA9 : Hid (Rd V9 K3 (.slice A9 q.rs.length c9) q.rs) := Lib.hid (by rw [HQR.out]; exact So.below HRA.out b9)
                    replace HB := Lib.hid (HB.out.trans (b9.mono HB.out.size))
                    replace HZ := Lib.hid (HZ.out.below b9)
                    replace HX := Lib.hid (HX.out.below b9)
                    clear b9 y0 y1 y2 y3 y4 y5 yl HC6
                    cases rq with
                    | false =>
                      have HF : Hid (parseQ numZ T = (Qr.zero, 90)) := Lib.hid (by rw [HF3.out]; rfl)
                      have z0 : V9.cell? ⟨w.heap.size, 0, none⟩ = some (.int .i64 0) := HZ.out.cell rfl
                      have z1 : V9.cell? ⟨w.heap.size, 1, none⟩ = some (.slice none 0 0) := HZ.out.cell rfl
                      have z2 : V9.cell? ⟨w.heap.size, 2, none⟩ = some (.int .i64 0) := HZ.out.cell rfl
                      have z3 : V9.cell? ⟨w.heap.size, 3, none⟩ = some (.int .i64 0) := HZ.out.cell rfl
                      have z4 : V9.cell? ⟨w.heap.size, 4, none⟩ = some (.int .i64 0) := HZ.out.cell rfl
                      have z5 : V9.cell? ⟨w.heap.size, 5, none⟩ = some (.bool false) := HZ.out.cell rfl
                      have zf := HZ.out.fr
                      have zl := HZ.out.lt
                      go_wp2
                      have hZ9 := HZ.out.set6 (.int .i64 0) (.slice none 0 0) (.int .i64 0) (.int .i64 0) (.int .i64 0) (.bool false)
                      have hB9 := below_set6 HB.out (Nat.le_refl w.heap.size) (.int .i64 0) (.slice none 0 0) (.int .i64 0) (.int .i64 0) (.int .i64 0) (.bool false)
                      generalize hW9 : (World.setCell _ _ _ : World) = W9 at hZ9 hB9 ⊢
                      clear hW9 z0 z1 z2 z3 z4 z5 zf
                      have x0 : W9.cell? ⟨w.heap.size, 0, none⟩ = some (.int .i64 0) := hZ9.cell rfl
                      have x1 : W9.cell? ⟨w.heap.size, 1, none⟩ = some (.slice none 0 0) := hZ9.cell rfl
                      have x2 : W9.cell? ⟨w.heap.size, 2, none⟩ = some (.int .i64 0) := hZ9.cell rfl
                      have x3 : W9.cell? ⟨w.heap.size, 3, none⟩ = some (.int .i64 0) := hZ9.cell rfl
                      have x4 : W9.cell? ⟨w.heap.size, 4, none⟩ = some (.int .i64 0) := hZ9.cell rfl
                      have x5 : W9.cell? ⟨w.heap.size, 5, none⟩ = some (.bool false) := hZ9.cell rfl
                      have HB9 := Lib.hid hB9
                      clear hZ9 hB9
                      refine bodyPost_ret (v := .tuple #[qv Qr.zero none 0, .int .i64 90]) (by simp [results, Tryz.results8, go_sem, Qr.zero, x0, x1, x2, x3, x4, x5]) rfl ?_
                      rw [HF.out]
                      exact pard_bad HB9.out
                    | true =>
                      have HF : Hid (parseQ numZ T = (q, 0)) := Lib.hid (by rw [HF3.out]; rfl)
                      have y0 : V9.cell? ⟨b, 0, none⟩ = some (.int .i64 q.op) := HX.out.cell rfl
                      have y1 : V9.cell? ⟨b, 1, none⟩ = some (.slice A9 q.rs.length c9) := HX.out.cell rfl
                      have y2 : V9.cell? ⟨b, 2, none⟩ = some (.int .i64 q.fr) := HX.out.cell rfl
                      have y3 : V9.cell? ⟨b, 3, none⟩ = some (.int .i64 q.to_) := HX.out.cell rfl
                      have y4 : V9.cell? ⟨b, 4, none⟩ = some (.int .i64 q.st) := HX.out.cell rfl
                      have y5 : V9.cell? ⟨b, 5, none⟩ = some (.bool q.nt) := HX.out.cell rfl
                      have yl := HX.out.lt
                      have z0 : V9.cell? ⟨w.heap.size, 0, none⟩ = some (.int .i64 0) := HZ.out.cell rfl
                      have z1 : V9.cell? ⟨w.heap.size, 1, none⟩ = some (.slice none 0 0) := HZ.out.cell rfl
                      have z2 : V9.cell? ⟨w.heap.size, 2, none⟩ = some (.int .i64 0) := HZ.out.cell rfl
                      have z3 : V9.cell? ⟨w.heap.size, 3, none⟩ = some (.int .i64 0) := HZ.out.cell rfl
                      have z4 : V9.cell? ⟨w.heap.size, 4, none⟩ = some (.int .i64 0) := HZ.out.cell rfl
                      have z5 : V9.cell? ⟨w.heap.size, 5, none⟩ = some (.bool false) := HZ.out.cell rfl
                      have zf := HZ.out.fr
                      have zl := HZ.out.lt
                      go_wp2
                      have hZ9 := HZ.out.set6 (.int .i64 q.op) (.slice A9 q.rs.length c9) (.int .i64 q.fr) (.int .i64 q.to_) (.int .i64 q.st) (.bool q.nt)
                      have hB9 := below_set6 HB.out (Nat.le_refl w.heap.size) (.int .i64 q.op) (.slice A9 q.rs.length c9) (.int .i64 q.fr) (.int .i64 q.to_) (.int .i64 q.st) (.bool q.nt)
                      have hR9 := So.set6 (g := w.heap.size) HRA9.out (fun h => by have := (So.ltB HRA9.out _ h).1; omega) (.int .i64 q.op) (.slice A9 q.rs.length c9) (.int .i64 q.fr) (.int .i64 q.to_) (.int .i64 q.st) (.bool q.nt)
                      generalize hW9 : (World.setCell _ _ _ : World) = W10 at hZ9 hB9 hR9 ⊢
                      clear hW9 z0 z1 z2 z3 z4 z5 zf y0 y1 y2 y3 y4 y5
                      have x0 : W10.cell? ⟨w.heap.size, 0, none⟩ = some (.int .i64 q.op) := hZ9.cell rfl
                      have x1 : W10.cell? ⟨w.heap.size, 1, none⟩ = some (.slice A9 q.rs.length c9) := hZ9.cell rfl
                      have x2 : W10.cell? ⟨w.heap.size, 2, none⟩ = some (.int .i64 q.fr) := hZ9.cell rfl
                      have x3 : W10.cell? ⟨w.heap.size, 3, none⟩ = some (.int .i64 q.to_) := hZ9.cell rfl
                      have x4 : W10.cell? ⟨w.heap.size, 4, none⟩ = some (.int .i64 q.st) := hZ9.cell rfl
                      have x5 : W10.cell? ⟨w.heap.size, 5, none⟩ = some (.bool q.nt) := hZ9.cell rfl
                      have HB9 := Lib.hid hB9
                      have HR9 := Lib.hid hR9
                      clear hZ9 hB9 hR9
                      refine bodyPost_ret (v := .tuple #[qv q A9 c9, .int .i64 0]) (by simp [results, Tryz.results8, go_sem, x0, x1, x2, x3, x4, x5]) rfl ?_
                      rw [HF.out]
                      exact ⟨A9, c9, rfl, HR9.out.more (Nat.le_of_lt hw3), HB9.out⟩
                  | false =>
                    rw [h1] at hen
                    have HNT : Hid (q.nt = false) := Lib.hid (by rw [HNQ.out, h1])
                    have hn1 : ¬ r = notesL := beq_eq_false_iff_ne.1 h1
                    cases h2 : (r == []) with
                    | true =>
                      have HFT : Hid (parseQ numZ T = if rightQ q = true then (q, 0) else (Qr.zero, 90)) := Lib.hid (by
                        rw [HFT0.out]
                        by_cases h9 : rightQ q = true
                        · rw [if_pos ⟨.inr (beq_iff_eq.1 h2), h9⟩, if_pos h9]
                        · rw [if_neg (fun h => h9 h.2), if_neg h9])
                      rw [h2] at hee
                      replace hee : decide ((k : Int) < (t.size : Int)) = false := hee
                      have heen : decide (k < t.size) = false := by simpa using hee
                      clear h1 h2 hn1
                      go_upto_region 26 with fail
                      clear hen y0 y1 y2 y3 y4 y5 yf yl
                      have hX : Rwo (W5.setCell ⟨b, 5, none⟩ (.bool false)) b (qc q A9 c9) 24 := by rw [HQC.out false HNT.out]; exact HX.out.set 5 (.bool false)
                      have hZ : Rwo (W5.setCell ⟨b, 5, none⟩ (.bool false)) w.heap.size #[.int .i64 0, .slice none 0 0, .int .i64 0, .int .i64 0, .int .i64 0, .bool false] 24 := (HZ.out.other hb0)
                      have hB : Below w.heap.size w (W5.setCell ⟨b, 5, none⟩ (.bool false)) := (HB.out.setCell (p := ⟨b, 5, none⟩) hbw (.bool false))
                      have hR : Rd (W5.setCell ⟨b, 5, none⟩ (.bool false)) K3 (.slice A9 rs.length c9) rs := (So.setC HRA.out hnb)
                      generalize W5.setCell ⟨b, 5, none⟩ (.bool false) = W8 at hX hZ hB hR ⊢
                      replace HX := Lib.hid hX
                      replace HZ := Lib.hid hZ
                      replace HB := Lib.hid hB
                      replace HRA := Lib.hid hR
                      clear hX hZ hB hR
                      have HRQ : Hid (Rr W8 W8.heap.size A9 c9 q.rs) := Lib.hid (by rw [HQR.out]; exact (So.sr encR_len HRA.out).1)
                      have HC6 := Lib.hid (rRightQ_any (q := q) HRQ.out (Nat.le_refl _) (by rw [HQR.out]; exact HSR.out) HST.out)
                      generalize hrq : rightQ q = rq at HC6
                      have HF3 : Hid (parseQ numZ T = if rq = true then (q, 0) else (Qr.zero, 90)) := Lib.hid (by rw [← hrq]; exact HFT.out)
                      have y0 : W8.cell? ⟨b, 0, none⟩ = some (.int .i64 q.op) := HX.out.cell rfl
                      have y1 : W8.cell? ⟨b, 1, none⟩ = some (.slice A9 q.rs.length c9) := HX.out.cell rfl
                      have y2 : W8.cell? ⟨b, 2, none⟩ = some (.int .i64 q.fr) := HX.out.cell rfl
                      have y3 : W8.cell? ⟨b, 3, none⟩ = some (.int .i64 q.to_) := HX.out.cell rfl
                      have y4 : W8.cell? ⟨b, 4, none⟩ = some (.int .i64 q.st) := HX.out.cell rfl
                      have y5 : W8.cell? ⟨b, 5, none⟩ = some (.bool q.nt) := HX.out.cell rfl
                      have yl := HX.out.lt
                      clear hrq
                      rw [HNT.out] at y5
                      replace HC6 := Lib.hid (show Calls Tryz.prog 12 #[.agg #[.int .i64 q.op, .slice A9 q.rs.length c9, .int .i64 q.fr, .int .i64 q.to_, .int .i64 q.st, .bool false]] W8 (fun e w' => e = .returned (.bool rq) ∧ Below W8.heap.size W8 w') from by rw [← HNT.out]; exact HC6.out)
                      go_wp2_with fail
                      refine HC6.out.mono ?_
                      rintro e V9 ⟨rfl, b9⟩
                      have HRA9 : Hid (Rd V9 K3 (.slice A9 q.rs.length c9) q.rs) := Lib.hid (by rw [HQR.out]; exact So.below HRA.out b9)
                      replace HB := Lib.hid (HB.out.trans (b9.mono HB.out.size))
                      replace HZ := Lib.hid (HZ.out.below b9)
                      replace HX := Lib.hid (HX.out.below b9)
                      clear b9 y0 y1 y2 y3 y4 y5 yl HC6
                      cases rq with
                      | false =>
                        have HF : Hid (parseQ numZ T = (Qr.zero, 90)) := Lib.hid (by rw [HF3.out]; rfl)
                        have z0 : V9.cell? ⟨w.heap.size, 0, none⟩ = some (.int .i64 0) := HZ.out.cell rfl
                        have z1 : V9.cell? ⟨w.heap.size, 1, none⟩ = some (.slice none 0 0) := HZ.out.cell rfl
                        have z2 : V9.cell? ⟨w.heap.size, 2, none⟩ = some (.int .i64 0) := HZ.out.cell rfl
                        have z3 : V9.cell? ⟨w.heap.size, 3, none⟩ = some (.int .i64 0) := HZ.out.cell rfl
                        have z4 : V9.cell? ⟨w.heap.size, 4, none⟩ = some (.int .i64 0) := HZ.out.cell rfl
                        have z5 : V9.cell? ⟨w.heap.size, 5, none⟩ = some (.bool false) := HZ.out.cell rfl
                        have zf := HZ.out.fr
                        have zl := HZ.out.lt
                        go_wp2
                        have hZ9 := HZ.out.set6 (.int .i64 0) (.slice none 0 0) (.int .i64 0) (.int .i64 0) (.int .i64 0) (.bool false)
                        have hB9 := below_set6 HB.out (Nat.le_refl w.heap.size) (.int .i64 0) (.slice none 0 0) (.int .i64 0) (.int .i64 0) (.int .i64 0) (.bool false)
                        generalize hW9 : (World.setCell _ _ _ : World) = W9 at hZ9 hB9 ⊢
                        clear hW9 z0 z1 z2 z3 z4 z5 zf
                        have x0 : W9.cell? ⟨w.heap.size, 0, none⟩ = some (.int .i64 0) := hZ9.cell rfl
                        have x1 : W9.cell? ⟨w.heap.size, 1, none⟩ = some (.slice none 0 0) := hZ9.cell rfl
                        have x2 : W9.cell? ⟨w.heap.size, 2, none⟩ = some (.int .i64 0) := hZ9.cell rfl
                        have x3 : W9.cell? ⟨w.heap.size, 3, none⟩ = some (.int .i64 0) := hZ9.cell rfl
                        have x4 : W9.cell? ⟨w.heap.size, 4, none⟩ = some (.int .i64 0) := hZ9.cell rfl
                        have x5 : W9.cell? ⟨w.heap.size, 5, none⟩ = some (.bool false) := hZ9.cell rfl
                        have HB9 := Lib.hid hB9
                        clear hZ9 hB9
                        refine bodyPost_ret (v := .tuple #[qv Qr.zero none 0, .int .i64 90]) (by simp [results, Tryz.results8, go_sem, Qr.zero, x0, x1, x2, x3, x4, x5]) rfl ?_
                        rw [HF.out]
                        exact pard_bad HB9.out
                      | true =>
                        have HF : Hid (parseQ numZ T = (q, 0)) := Lib.hid (by rw [HF3.out]; rfl)
                        have y0 : V9.cell? ⟨b, 0, none⟩ = some (.int .i64 q.op) := HX.out.cell rfl
                        have y1 : V9.cell? ⟨b, 1, none⟩ = some (.slice A9 q.rs.length c9) := HX.out.cell rfl
                        have y2 : V9.cell? ⟨b, 2, none⟩ = some (.int .i64 q.fr) := HX.out.cell rfl
                        have y3 : V9.cell? ⟨b, 3, none⟩ = some (.int .i64 q.to_) := HX.out.cell rfl
                        have y4 : V9.cell? ⟨b, 4, none⟩ = some (.int .i64 q.st) := HX.out.cell rfl
                        have y5 : V9.cell? ⟨b, 5, none⟩ = some (.bool q.nt) := HX.out.cell rfl
                        have yl := HX.out.lt
                        have z0 : V9.cell? ⟨w.heap.size, 0, none⟩ = some (.int .i64 0) := HZ.out.cell rfl
                        have z1 : V9.cell? ⟨w.heap.size, 1, none⟩ = some (.slice none 0 0) := HZ.out.cell rfl
                        have z2 : V9.cell? ⟨w.heap.size, 2, none⟩ = some (.int .i64 0) := HZ.out.cell rfl
                        have z3 : V9.cell? ⟨w.heap.size, 3, none⟩ = some (.int .i64 0) := HZ.out.cell rfl
                        have z4 : V9.cell? ⟨w.heap.size, 4, none⟩ = some (.int .i64 0) := HZ.out.cell rfl
                        have z5 : V9.cell? ⟨w.heap.size, 5, none⟩ = some (.bool false) := HZ.out.cell rfl
                        have zf := HZ.out.fr
                        have zl := HZ.out.lt
                        go_wp2
                        have hZ9 := HZ.out.set6 (.int .i64 q.op) (.slice A9 q.rs.length c9) (.int .i64 q.fr) (.int .i64 q.to_) (.int .i64 q.st) (.bool q.nt)
                        have hB9 := below_set6 HB.out (Nat.le_refl w.heap.size) (.int .i64 q.op) (.slice A9 q.rs.length c9) (.int .i64 q.fr) (.int .i64 q.to_) (.int .i64 q.st) (.bool q.nt)
                        have hR9 := So.set6 (g := w.heap.size) HRA9.out (fun h => by have := (So.ltB HRA9.out _ h).1; omega) (.int .i64 q.op) (.slice A9 q.rs.length c9) (.int .i64 q.fr) (.int .i64 q.to_) (.int .i64 q.st) (.bool q.nt)
                        generalize hW9 : (World.setCell _ _ _ : World) = W10 at hZ9 hB9 hR9 ⊢
                        clear hW9 z0 z1 z2 z3 z4 z5 zf y0 y1 y2 y3 y4 y5
                        have x0 : W10.cell? ⟨w.heap.size, 0, none⟩ = some (.int .i64 q.op) := hZ9.cell rfl
                        have x1 : W10.cell? ⟨w.heap.size, 1, none⟩ = some (.slice A9 q.rs.length c9) := hZ9.cell rfl
                        have x2 : W10.cell? ⟨w.heap.size, 2, none⟩ = some (.int .i64 q.fr) := hZ9.cell rfl
                        have x3 : W10.cell? ⟨w.heap.size, 3, none⟩ = some (.int .i64 q.to_) := hZ9.cell rfl
                        have x4 : W10.cell? ⟨w.heap.size, 4, none⟩ = some (.int .i64 q.st) := hZ9.cell rfl
                        have x5 : W10.cell? ⟨w.heap.size, 5, none⟩ = some (.bool q.nt) := hZ9.cell rfl
                        have HB9 := Lib.hid hB9
                        have HR9 := Lib.hid hR9
                        clear hZ9 hB9 hR9
                        refine bodyPost_ret (v := .tuple #[qv q A9 c9, .int .i64 0]) (by simp [results, Tryz.results8, go_sem, x0, x1, x2, x3, x4, x5]) rfl ?_
                        rw [HF.out]
                        exact ⟨A9, c9, rfl, HR9.out.more (Nat.le_of_lt hw3), HB9.out⟩
                    | false =>
                      have hn2 : ¬ r = [] := beq_eq_false_iff_ne.1 h2
                      have HF : Hid (parseQ numZ T = (Qr.zero, 90)) := Lib.hid (by
                        rw [HFT0.out, if_neg (fun h => h.1.elim hn1 hn2)])
                      rw [h2] at hee
                      replace hee : decide ((k : Int) < (t.size : Int)) = true := hee
                      have heen : decide (k < t.size) = true := by simpa using hee
                      clear h1 h2 hn1 hn2
                      go_upto_region 26 with fail
                      clear hen y0 y1 y2 y3 y4 y5 yf yl
                      have hX : Rwo (W5.setCell ⟨b, 5, none⟩ (.bool false)) b (qc q A9 c9) 24 := by rw [HQC.out false HNT.out]; exact HX.out.set 5 (.bool false)
                      have hZ : Rwo (W5.setCell ⟨b, 5, none⟩ (.bool false)) w.heap.size #[.int .i64 0, .slice none 0 0, .int .i64 0, .int .i64 0, .int .i64 0, .bool false] 24 := (HZ.out.other hb0)
                      have hB : Below w.heap.size w (W5.setCell ⟨b, 5, none⟩ (.bool false)) := (HB.out.setCell (p := ⟨b, 5, none⟩) hbw (.bool false))
                      have hR : Rd (W5.setCell ⟨b, 5, none⟩ (.bool false)) K3 (.slice A9 rs.length c9) rs := (So.setC HRA.out hnb)
                      generalize W5.setCell ⟨b, 5, none⟩ (.bool false) = W8 at hX hZ hB hR ⊢
                      replace HX := Lib.hid hX
                      replace HZ := Lib.hid hZ
                      replace HB := Lib.hid hB
                      replace HRA := Lib.hid hR
                      clear hX hZ hB hR
                      have y5 : W8.cell? ⟨b, 5, none⟩ = some (.bool q.nt) := HX.out.cell rfl
                      rw [HNT.out] at y5
                      have yl := HX.out.lt
                      have z0 : W8.cell? ⟨w.heap.size, 0, none⟩ = some (.int .i64 0) := HZ.out.cell rfl
                      have z1 : W8.cell? ⟨w.heap.size, 1, none⟩ = some (.slice none 0 0) := HZ.out.cell rfl
                      have z2 : W8.cell? ⟨w.heap.size, 2, none⟩ = some (.int .i64 0) := HZ.out.cell rfl
                      have z3 : W8.cell? ⟨w.heap.size, 3, none⟩ = some (.int .i64 0) := HZ.out.cell rfl
                      have z4 : W8.cell? ⟨w.heap.size, 4, none⟩ = some (.int .i64 0) := HZ.out.cell rfl
                      have z5 : W8.cell? ⟨w.heap.size, 5, none⟩ = some (.bool false) := HZ.out.cell rfl
                      have zf := HZ.out.fr
                      have zl := HZ.out.lt
                      go_wp2
                      have hZ9 := HZ.out.set6 (.int .i64 0) (.slice none 0 0) (.int .i64 0) (.int .i64 0) (.int .i64 0) (.bool false)
                      have hB9 := below_set6 HB.out (Nat.le_refl w.heap.size) (.int .i64 0) (.slice none 0 0) (.int .i64 0) (.int .i64 0) (.int .i64 0) (.bool false)
                      generalize hW9 : (World.setCell _ _ _ : World) = W9 at hZ9 hB9 ⊢
                      clear hW9 z0 z1 z2 z3 z4 z5 zf
                      have x0 : W9.cell? ⟨w.heap.size, 0, none⟩ = some (.int .i64 0) := hZ9.cell rfl
                      have x1 : W9.cell? ⟨w.heap.size, 1, none⟩ = some (.slice none 0 0) := hZ9.cell rfl
                      have x2 : W9.cell? ⟨w.heap.size, 2, none⟩ = some (.int .i64 0) := hZ9.cell rfl
                      have x3 : W9.cell? ⟨w.heap.size, 3, none⟩ = some (.int .i64 0) := hZ9.cell rfl
                      have x4 : W9.cell? ⟨w.heap.size, 4, none⟩ = some (.int .i64 0) := hZ9.cell rfl
                      have x5 : W9.cell? ⟨w.heap.size, 5, none⟩ = some (.bool false) := hZ9.cell rfl
                      have HB9 := Lib.hid hB9
                      clear hZ9 hB9
                      refine bodyPost_ret (v := .tuple #[qv Qr.zero none 0, .int .i64 90]) (by simp [results, Tryz.results8, go_sem, Qr.zero, x0, x1, x2, x3, x4, x5]) rfl ?_
                      rw [HF.out]
                      exact pard_bad HB9.out
        · have hne : wd.length = t.size := by have := HMEM.out.2 hm; have h2 := HTL.out; omega
          have qm : ((wd.length : Int) == (t.size : Int)) = true := by simp; omega
          have qmn : (wd.length == t.size) = true := by simp; omega
          have HF : Hid (parseQ numZ T = (Qr.zero, 90)) := Lib.hid (by
            rw [HF1.out]
            cases opA wd with
            | none => rfl
            | some op =>
              unfold tailQ
              simp only
              rw [if_neg hm])
          have yl := HX.out.lt
          clear hm hne
          have z0 : W0.cell? ⟨w.heap.size, 0, none⟩ = some (.int .i64 0) := HZ.out.cell rfl
          have z1 : W0.cell? ⟨w.heap.size, 1, none⟩ = some (.slice none 0 0) := HZ.out.cell rfl
          have z2 : W0.cell? ⟨w.heap.size, 2, none⟩ = some (.int .i64 0) := HZ.out.cell rfl
          have z3 : W0.cell? ⟨w.heap.size, 3, none⟩ = some (.int .i64 0) := HZ.out.cell rfl
          have z4 : W0.cell? ⟨w.heap.size, 4, none⟩ = some (.int .i64 0) := HZ.out.cell rfl
          have z5 : W0.cell? ⟨w.heap.size, 5, none⟩ = some (.bool false) := HZ.out.cell rfl
          have zf := HZ.out.fr
          have zl := HZ.out.lt
          go_wp2
          have hZ9 := HZ.out.set6 (.int .i64 0) (.slice none 0 0) (.int .i64 0) (.int .i64 0) (.int .i64 0) (.bool false)
          have hB9 := below_set6 HB.out (Nat.le_refl w.heap.size) (.int .i64 0) (.slice none 0 0) (.int .i64 0) (.int .i64 0) (.int .i64 0) (.bool false)
          generalize hW9 : (World.setCell _ _ _ : World) = W9 at hZ9 hB9 ⊢
          clear hW9 z0 z1 z2 z3 z4 z5 zf
          have x0 : W9.cell? ⟨w.heap.size, 0, none⟩ = some (.int .i64 0) := hZ9.cell rfl
          have x1 : W9.cell? ⟨w.heap.size, 1, none⟩ = some (.slice none 0 0) := hZ9.cell rfl
          have x2 : W9.cell? ⟨w.heap.size, 2, none⟩ = some (.int .i64 0) := hZ9.cell rfl
          have x3 : W9.cell? ⟨w.heap.size, 3, none⟩ = some (.int .i64 0) := hZ9.cell rfl
          have x4 : W9.cell? ⟨w.heap.size, 4, none⟩ = some (.int .i64 0) := hZ9.cell rfl
          have x5 : W9.cell? ⟨w.heap.size, 5, none⟩ = some (.bool false) := hZ9.cell rfl
          have HB9 := Lib.hid hB9
          clear hZ9 hB9
          refine bodyPost_ret (v := .tuple #[qv Qr.zero none 0, .int .i64 90]) (by simp [results, Tryz.results8, go_sem, Qr.zero, x0, x1, x2, x3, x4, x5]) rfl ?_
          rw [HF.out]
          exact pard_bad HB9.out
end Go.Proofs.YtcmpenmaphmifaaGreatDoor
