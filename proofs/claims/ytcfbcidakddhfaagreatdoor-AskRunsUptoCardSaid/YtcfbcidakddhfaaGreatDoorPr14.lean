/- The document's Sign and Same of rules. -/
import Derived.Test.YtcfbcidakddhfaaGreatDoorPr12
import Derived.Test.YtcfbcidakddhfaaGreatDoorPr13
import Derived.Test.YtcfbcidakddhfaaGreatDoorPr6
import Derived.Test.YtcfbcidakddhfaaGreatDoorPr11
import Derived.Test.YtcfbcidakddhfaaGreatDoorPr8
import Derived.Deep.QuietTactic
import Derived.BigQuiet
namespace Go.Proofs.YtcfbcidakddhfaaGreatDoor
open Go.RowKit

def nchB (c : UInt8) : Bool := letN (c.toNat : Int) || digN (c.toNat : Int)
def letL (t : List UInt8) : Nat := (t.takeWhile nchB).length
def docGo : Nat → List UInt8 → Nat → List Rp → List Rp × Nat
  | 0, _, _, _ => ([], 0)
  | f + 1, t, at_, acc =>
    if opR (t.drop (letL t)) = 0 then ([], 0)
    else if (unqL ((t.drop (letL t)).drop (sgB (opR (t.drop (letL t)))).length)).2 = 0 then ([], 0)
    else if Lib.hasPrefix (t.drop (letL t + (sgB (opR (t.drop (letL t)))).length + (unqL ((t.drop (letL t)).drop (sgB (opR (t.drop (letL t)))).length)).2)) [125] = true then
      if rulesL (acc ++ [mkR (t.take (letL t)) (opR (t.drop (letL t))) (unqL ((t.drop (letL t)).drop (sgB (opR (t.drop (letL t)))).length)).1]) = true then
        (acc ++ [mkR (t.take (letL t)) (opR (t.drop (letL t))) (unqL ((t.drop (letL t)).drop (sgB (opR (t.drop (letL t)))).length)).1], at_ + (letL t + (sgB (opR (t.drop (letL t)))).length + (unqL ((t.drop (letL t)).drop (sgB (opR (t.drop (letL t)))).length)).2) + 1)
      else ([], 0)
    else if Lib.hasPrefix (t.drop (letL t + (sgB (opR (t.drop (letL t)))).length + (unqL ((t.drop (letL t)).drop (sgB (opR (t.drop (letL t)))).length)).2)) [44] = true then
      docGo f (t.drop (letL t + (sgB (opR (t.drop (letL t)))).length + (unqL ((t.drop (letL t)).drop (sgB (opR (t.drop (letL t)))).length)).2 + 1)) (at_ + (letL t + (sgB (opR (t.drop (letL t)))).length + (unqL ((t.drop (letL t)).drop (sgB (opR (t.drop (letL t)))).length)).2) + 1) (acc ++ [mkR (t.take (letL t)) (opR (t.drop (letL t))) (unqL ((t.drop (letL t)).drop (sgB (opR (t.drop (letL t)))).length)).1])
    else ([], 0)
def docB (t : List UInt8) : List Rp × Nat :=
  if Lib.hasPrefix t [123] = true then if Lib.hasPrefix (t.drop 1) [125] = true then ([], 2) else docGo 17 (t.drop 1) 1 [] else ([], 0)

theorem rules_bad {l : List Rp} (h : l.all ruleB = false) : rulesL l = false := by unfold rulesL; rw [h]; simp
theorem all_snoc (l : List Rp) (x : Rp) : (l ++ [x]).all ruleB = (l.all ruleB && ruleB x) := by rw [List.all_append]; simp
theorem docGo_bad : ∀ (f : Nat) (t : List UInt8) (at_ : Nat) (acc : List Rp), acc.all ruleB = false → docGo f t at_ acc = ([], 0)
  | 0, _, _, _, _ => rfl
  | f + 1, t, at_, acc, h => by
    rw [docGo]
    split
    · rfl
    split
    · rfl
    split
    · rw [if_neg]
      rw [rules_bad (by rw [all_snoc, h]; rfl)]
      decide
    split
    · exact docGo_bad f _ _ _ (by rw [all_snoc, h]; rfl)
    · rfl

theorem nch_not {c : UInt8} (h : nchB c = true) : sgL.contains c = false := by
  rw [Bool.eq_false_iff]
  intro hc
  simp [sgL] at hc
  rcases hc with rfl | rfl | rfl | rfl <;> revert h <;> decide
theorem letL_le (t : List UInt8) : letL t ≤ t.length := by
  unfold letL
  have := (List.takeWhile_prefix (l := t) nchB).length_le
  exact this
theorem letL_nch : ∀ (t : List UInt8) (j : Nat) (b : UInt8), j < letL t → t[j]? = some b → nchB b = true
  | [], j, b, h, _ => by simp [letL] at h
  | c :: t, j, b, h, hb => by
    unfold letL at h
    rw [List.takeWhile_cons] at h
    split at h
    · rename_i hc
      cases j with
      | zero => simp at hb; subst hb; exact hc
      | succ j => exact letL_nch t j b (by rw [List.length_cons] at h; unfold letL; omega) (by simpa using hb)
    · simp at h
theorem letL_end : ∀ (t : List UInt8) (b : UInt8), t[letL t]? = some b → nchB b = false
  | [], b, h => by simp at h
  | c :: t, b, h => by
    unfold letL at h
    rw [List.takeWhile_cons] at h
    split at h
    · exact letL_end t b (by simpa [letL] using h)
    · rename_i hc
      simp at h
      subst h
      simpa using hc
theorem letL_noAny (t : List UInt8) : Lib.NoAny t sgL (letL t) := fun j b hj hb => nch_not (letL_nch t j b hj hb)

/-- A sign at the head: its first byte is one of the four. -/
theorem opR_head {r : List UInt8} (h : ¬ opR r = 0) : ∃ b r', r = b :: r' ∧ sgL.contains b = true := by
  cases r with
  | nil => exact absurd (by simp [opR, Lib.hasPrefix]) h
  | cons b r' =>
    refine ⟨b, r', rfl, ?_⟩
    by_cases h1 : b = 61
    · subst h1; rfl
    by_cases h2 : b = 33
    · subst h2; rfl
    by_cases h3 : b = 94
    · subst h3; rfl
    by_cases h4 : b = 42
    · subst h4; rfl
    exfalso
    apply h
    have e1 : ((61 : UInt8) == b) = false := by simpa using fun e => h1 e.symm
    have e2 : ((33 : UInt8) == b) = false := by simpa using fun e => h2 e.symm
    have e3 : ((94 : UInt8) == b) = false := by simpa using fun e => h3 e.symm
    have e4 : ((42 : UInt8) == b) = false := by simpa using fun e => h4 e.symm
    simp [opR, Lib.hasPrefix, List.isPrefixOf, e1, e2, e3, e4]
theorem index_let {t : List UInt8} (h : ¬ opR (t.drop (letL t)) = 0) : Lib.indexAny t sgL = (letL t : Int) := by
  obtain ⟨b, r', hr, hb⟩ := opR_head h
  have hx : t[letL t]? = some b := by
    have := congrArg (·[0]?) hr
    simpa using this
  exact Lib.indexAny_hit (letL_noAny t) hx hb
theorem partR_let {t : List UInt8} (h : ¬ opR (t.drop (letL t)) = 0) : partR t = ruleAt t (letL t) := by
  unfold partR
  rw [index_let h, if_neg (by omega), Int.toNat_natCast]

theorem nameB_nch {s : ByteArray} (h : nameB s = true) (j : Nat) (b : UInt8) (hb : s.data.toList[j]? = some b) : nchB b = true := by
  unfold nameB at h
  rw [Bool.and_eq_true] at h
  have hj := (List.getElem?_eq_some_iff.1 hb).1
  have h2 := List.all_eq_true.1 h.2 j (List.mem_range.2 (by simpa using hj))
  unfold nameC byteAt at h2
  rw [List.getD_eq_getElem?_getD, hb, Option.getD_some] at h2
  unfold nchB
  rw [Bool.or_eq_true] at h2 ⊢
  rcases h2 with h2 | h2
  · exact .inl h2
  · rw [Bool.and_eq_true] at h2
    exact .inr h2.2
/-- Where a sign's byte is found, one stands. -/
theorem index_hit_spec : ∀ (t : List UInt8) (k : Nat), Lib.indexAny t sgL = (k : Int) → ∃ b, t[k]? = some b ∧ sgL.contains b = true
  | [], k, h => by simp [Lib.indexAny] at h
  | c :: t, k, h => by
    have h0 := Lib.indexAny_ge sgL t
    unfold Lib.indexAny at h
    split at h
    · rename_i hc
      obtain rfl : k = 0 := by omega
      exact ⟨c, rfl, hc⟩
    · split at h
      · omega
      · rename_i hne
        simp at hne
        obtain ⟨j, rfl⟩ : ∃ j, k = j + 1 := ⟨k - 1, by omega⟩
        obtain ⟨b, hb, hbc⟩ := index_hit_spec t j (by omega)
        exact ⟨b, by simpa using hb, hbc⟩
theorem unqL_no {b : UInt8} {r : List UInt8} (h : ¬ (b.toNat : Int) = 34) : unqL (b :: r) = ([], 0) := by rw [unqL, if_neg h]
/-- No sign stands behind the letters: the program finds no rule there either. -/
theorem partR_none {t : List UInt8} (h : opR (t.drop (letL t)) = 0) : (partR t).2 = 0 := by
  unfold partR
  split
  · rfl
  rename_i hneg
  have hge := Lib.indexAny_ge sgL t
  have hlt := indexAny_lt sgL t
  have hsp := index_hit_spec t
  generalize Lib.indexAny t sgL = i at *
  obtain ⟨k, rfl⟩ : ∃ k : Nat, i = (k : Int) := ⟨i.toNat, by omega⟩
  rw [Int.toNat_natCast]
  obtain ⟨b, hb, hbc⟩ := hsp k rfl
  have hkl : letL t ≤ k := by
    rcases Nat.lt_or_ge k (letL t) with hl | hl
    · have := nch_not (letL_nch t k b hl hb)
      rw [this] at hbc; cases hbc
    · exact hl
  unfold ruleAt
  by_cases hk : k = letL t
  · rw [hk, h]
    have hr : t.drop (letL t) = b :: t.drop (letL t + 1) := by
      rw [hk] at hb
      have hl := (List.getElem?_eq_some_iff.1 hb).1
      rw [List.drop_eq_getElem_cons hl]
      rw [List.getElem?_eq_getElem hl] at hb
      injection hb with hb
      rw [hb]
    have e0 : (sgB 0).length = 0 := rfl
    have hb34 : ¬ (b.toNat : Int) = 34 := by
      simp [sgL] at hbc
      rcases hbc with rfl | rfl | rfl | rfl <;> decide
    rw [if_pos (.inl (by rw [e0, List.drop_zero, hr, unqL_no hb34]))]
  · obtain ⟨c, hc⟩ : ∃ c, t[letL t]? = some c := ⟨_, List.getElem?_eq_getElem (show letL t < t.length by omega)⟩
    have hcn := letL_end t c hc
    have hnf : nameB (mkR (t.take k) (opR (t.drop k)) (unqL ((t.drop k).drop (sgB (opR (t.drop k))).length)).1).1 = false := by
      rw [Bool.eq_false_iff]
      intro hn
      have := nameB_nch hn (letL t) c (by
        show (t.take k)[letL t]? = some c
        rw [List.getElem?_take, if_pos (by omega)]; exact hc)
      rw [this] at hcn; cases hcn
    have hrf : ruleB (mkR (t.take k) (opR (t.drop k)) (unqL ((t.drop k).drop (sgB (opR (t.drop k))).length)).1) = false := by
      unfold ruleB
      rw [hnf, Bool.false_and, Bool.false_and]
    rw [if_pos (.inr hrf)]

theorem docGo_eq : ∀ (f : Nat) (t : List UInt8) (at_ : Nat) (acc : List Rp), f + acc.length = 17 → acc.all ruleB = true → docGo f t at_ acc = parseGo f t at_ acc
  | 0, _, _, _, _, _ => rfl
  | f + 1, t, at_, acc, hf, ha => by
    rw [docGo, parseGo]
    by_cases ho : opR (t.drop (letL t)) = 0
    · rw [if_pos ho, if_pos (.inl (partR_none ho))]
    rw [if_neg ho, partR_let ho]
    unfold ruleAt
    generalize hu : unqL ((t.drop (letL t)).drop (sgB (opR (t.drop (letL t)))).length) = u
    by_cases hu0 : u.2 = 0
    · rw [if_pos hu0, if_pos (.inl (by rw [if_pos (.inl hu0)]))]
    rw [if_neg hu0]
    generalize hx : mkR (t.take (letL t)) (opR (t.drop (letL t))) u.1 = x
    generalize hn : letL t + (sgB (opR (t.drop (letL t)))).length + u.2 = n
    have hn0 : ¬ n = 0 := by omega
    by_cases hr : ruleB x = false
    · rw [if_pos (c := (if u.2 = 0 ∨ ruleB x = false then (nilR, 0) else (x, n)).2 = 0 ∨ acc.length = 16) (.inl (by rw [if_pos (.inr hr)]))]
      have hbad : (acc ++ [x]).all ruleB = false := by rw [all_snoc, hr, Bool.and_false]
      split
      · rw [if_neg (by rw [rules_bad hbad]; decide)]
      split
      · exact docGo_bad _ _ _ _ hbad
      · rfl
    have hr1 : ruleB x = true := by simpa using hr
    have hgood : (acc ++ [x]).all ruleB = true := by rw [all_snoc, ha, hr1]; rfl
    rw [if_neg (c := u.2 = 0 ∨ ruleB x = false) (by rintro (h | h); exact hu0 h; exact hr h)]
    by_cases h16 : acc.length = 16
    · rw [if_pos (c := (x, n).2 = 0 ∨ acc.length = 16) (.inr h16)]
      have hbig : rulesL (acc ++ [x]) = false := rulesL_many (by rw [List.length_append]; simp; omega)
      obtain rfl : f = 0 := by omega
      split
      · rw [if_neg (by rw [hbig]; decide)]
      split
      · rfl
      · rfl
    rw [if_neg (c := (x, n).2 = 0 ∨ acc.length = 16) (by rintro (h | h); exact hn0 h; exact h16 h)]
    have hok : rulesL (acc ++ [x]) = true := by
      unfold rulesL
      rw [hgood, Bool.and_true, decide_eq_true_eq, List.length_append]
      simp; omega
    rw [if_pos hok]
    split
    · rfl
    split
    · exact docGo_eq f _ _ _ (by rw [List.length_append]; simp; omega) hgood
    · rfl
theorem doc_eq (t : List UInt8) : docB t = parseB t := by
  unfold docB parseB
  by_cases h : Lib.hasPrefix t [123] = true
  · rw [if_pos h]
    cases t with
    | nil => exact absurd h (by decide)
    | cons b r =>
      have hb : 123 = b := by simpa [Lib.hasPrefix, List.isPrefixOf] using h
      subst hb
      have e : Lib.hasPrefix ((123 : UInt8) :: r) [123, 125] = Lib.hasPrefix r [125] := by simp [Lib.hasPrefix, List.isPrefixOf]
      rw [e, List.drop_succ_cons, List.drop_zero]
      split
      · rfl
      · exact docGo_eq 17 r 1 [] rfl rfl
  · rw [if_neg h, if_neg, if_neg h]
    intro h2
    apply h
    have := List.isPrefixOf_iff_prefix.1 h2
    obtain ⟨r, hr⟩ := this
    rw [← hr]
    rfl
end Go.Proofs.YtcfbcidakddhfaaGreatDoor
namespace Go.Proofs.YtcfbcidakddhfaaGreatDoor
open Go.RowKit

def ToldP (w : World) (p : Int × Int) (e : Ending) (w' : World) : Prop := e = .returned (.tuple #[.int .i64 p.1, .int .i64 p.2]) ∧ Below w.heap.size w w'
set_option maxRecDepth 100000 in
set_option maxHeartbeats 3200000 in
theorem told_any (op : Int) (K : Nat) (A : Option Addr) (n cap : Nat) (l : List Smp) (w : World) (hln : l.length = n) (hp : Sr encSm 2 w K A cap l) (hK : K ≤ w.heap.size) (h0 : 0 < l.length) (hl : l.length ≤ 65536) (hok : ∀ x ∈ l, Sok x) :
    Calls Tryz.prog 89 #[.int .i64 op, .slice A n cap] w (ToldP w (toldB op l)) := by
  have HS := Lib.hid (fun W (h : Below w.heap.size w W) => sum_any K A n cap l W hln (hp.below (h.mono hK)) (Nat.le_trans hK h.size) hl hok)
  have HM := Lib.hid (fun W (h : Below w.heap.size w W) => min_any K A n cap l W hln (hp.below (h.mono hK)) (Nat.le_trans hK h.size) h0)
  have HX := Lib.hid (fun W (h : Below w.heap.size w W) => max_any K A n cap l W hln (hp.below (h.mono hK)) (Nat.le_trans hK h.size) h0)
  have HR := Lib.hid (Below.refl w.heap.size w)
  by_cases h1 : op = 1
  · subst h1
    have e : toldB 1 l = rangeB (sumI l) := rfl
    rw [e]
    clear e
    generalize rangeB (sumI l) = p at *
    go_enter Tryz.func89, Tryz.ntmps89
    go_wp2_with (go_at_call 107; refine (HS.out _ HR.out).mono ?_; rintro e w1 ⟨rfl, hb1⟩)
    go_ret2
    exact ⟨rfl, hb1⟩
  by_cases h2 : op = 2
  · subst h2
    have e : toldB 2 l = ((l.length : Int), 0) := rfl
    rw [e]
    subst hln
    clear e HS HM HX h1
    go_enter Tryz.func89, Tryz.ntmps89
    go_wp2
    go_ret2
    exact ⟨rfl, HR.out⟩
  by_cases h3 : op = 3
  · subst h3
    have e : toldB 3 l = ((bestN ltI l).2, 0) := rfl
    rw [e]
    clear e h1 h2
    generalize bestN ltI l = m at *
    obtain ⟨ma, mb⟩ := m
    have hfd : ∀ W, (Instr.field 130 (agS (ma, mb)) 1).run Tryz.prog W = .ok (.int .i64 mb) W := fun _ => by kernel_rfl
    simp only
    go_enter Tryz.func89, Tryz.ntmps89
    go_wp2_with (go_at_call 108; refine (HM.out _ HR.out).mono ?_; rintro e w1 ⟨rfl, hb1⟩)
    go_ret2
    exact ⟨rfl, hb1⟩
  by_cases h4 : op = 4
  · subst h4
    have e : toldB 4 l = ((bestN gtI l).2, 0) := rfl
    rw [e]
    clear e h1 h2 h3
    generalize bestN gtI l = m at *
    obtain ⟨ma, mb⟩ := m
    have hfd : ∀ W, (Instr.field 130 (agS (ma, mb)) 1).run Tryz.prog W = .ok (.int .i64 mb) W := fun _ => by kernel_rfl
    simp only
    go_enter Tryz.func89, Tryz.ntmps89
    go_wp2_with (go_at_call 110; refine (HX.out _ HR.out).mono ?_; rintro e w1 ⟨rfl, hb1⟩)
    go_ret2
    exact ⟨rfl, hb1⟩
  · have e : toldB op l = rangeB (lastI l - firstI l) := by unfold toldB; rw [if_neg h1, if_neg h2, if_neg h3, if_neg h4]
    rw [e]
    have hle := hp.le
    have hmax := hp.max
    unfold maxLen at hmax
    subst hln
    obtain ⟨ad, rfl, _, c0, c1⟩ := s_cells hp h0
    obtain ⟨ad2, e2, _, d0, d1⟩ := s_cells hp (i := l.length - 1) (by omega)
    cases e2
    rw [Nat.zero_mul, el_add_zero] at c0 c1
    have hf : firstI l = l[0].2 := by unfold firstI; rw [List.getD_eq_getElem?_getD, List.getElem?_eq_getElem h0]; rfl
    have hla : lastI l = l[l.length - 1].2 := by unfold lastI; rw [List.getD_eq_getElem?_getD, List.getElem?_eq_getElem (by omega)]; rfl
    have ok0 := hok _ (List.getElem_mem h0)
    have ok1 := hok _ (List.getElem_mem (show l.length - 1 < l.length by omega))
    rw [hf, hla]
    clear hf hla e HS HM HX
    generalize l[0] = x at *
    generalize l[l.length - 1] = y at *
    obtain ⟨x0, x1⟩ := x
    obtain ⟨y0, y1⟩ := y
    simp only at c0 c1 d0 d1
    have HG := Lib.hid (fun W => growth_any x1 y1 ok0.n0 ok0.n1 ok1.n0 ok1.n1 W)
    simp only
    generalize rangeB (y1 - x1) = p at *
    obtain ⟨n, hn⟩ : ∃ n : Nat, n = l.length - 1 := ⟨_, rfl⟩
    rw [← hn] at d0 d1
    have i1 : (l.length : Int) - 1 = (n : Int) := by omega
    have iw : IntKind.i64.wrap (n : Int) = (n : Int) := wrapI _ (by omega) (by omega)
    have i2 : (0 : Int) < l.length := by omega
    have i3 : (n : Int) < l.length := by omega
    have b1 : (op == 1) = false := by simpa using h1
    have b2 : (op == 2) = false := by simpa using h2
    have b3 : (op == 3) = false := by simpa using h3
    have b4 : (op == 4) = false := by simpa using h4
    clear ok0 ok1 hok hp hn h1 h2 h3 h4
    go_enter Tryz.func89, Tryz.ntmps89
    go_wp2_with fail
    go_region_law (first
      | (go_simp; go_at_call 111; refine (HG.out _).mono ?_; rintro e w1 ⟨rfl, rfl⟩))
    all_goals
      go_wp2
      go_ret2
      exact ⟨rfl, (Tn.drew (P := fun _ => False) w).below (Nat.le_refl _) (fun _ _ h => h.elim)⟩
end Go.Proofs.YtcfbcidakddhfaaGreatDoor
namespace Go.Proofs.YtcfbcidakddhfaaGreatDoor
open Go.RowKit

set_option maxRecDepth 100000 in
set_option maxHeartbeats 3200000 in
theorem rRightR_any (K : Nat) (A : Option Addr) (n cap : Nat) (l : List Rp) (w : World) (hln : l.length = n) (hp : Rr w K A cap l) (hK : K ≤ w.heap.size) (hS : SmR l) :
    Calls Tryz.prog 45 #[.slice A n cap] w fun e w' => e = .returned (.bool (rulesL l)) ∧ Below w.heap.size w w' := by
  subst hln
  have hle := hp.le
  have hmax := hp.max
  unfold maxLen at hmax
  go_enter Tryz.func45, Tryz.ntmps45
  go_wp2
  go_loopw [3] (fun i wr => ∃ k : Nat, k ≤ l.length ∧ i = .int .i64 k ∧ Hid (rulesTo l k = true) ∧ Below w.heap.size w wr) (fun i _ => l.length - (intOf i).toNat)
  case atStart => exact ⟨0, Nat.zero_le _, rfl, Lib.hid (rulesTo_zero l), Below.refl _ _⟩
  case round =>
    obtain ⟨k, hk, rfl, HT, hbl⟩ := hrel
    have z := hbl.size
    by_cases hlt : k < l.length
    · obtain ⟨ad, rfl, hadK, h1, h2, h3⟩ := rr_at (hp.below (hbl.mono hK)) hlt
      have hs := hS.at_ k
      have hnext := rulesTo_succ hlt
      have hno : ruleB (l.getD k nilR) = false → rulesL l = false := fun h => by unfold rulesL; rw [all_getR hlt _ h]; simp
      generalize l.getD k nilR = x at *
      obtain ⟨xn, xo, xv⟩ := x
      simp only at h1 h2 h3 hs
      have ms1 : xn.size ≤ maxLen := by unfold maxLen; omega
      have ms2 : xv.size ≤ maxLen := by unfold maxLen; omega
      by_cases hn : nameB xn = true
      · by_cases o1 : xo < 1
        · have HF : Hid (rulesL l = false) := Lib.hid (hno (by
            have : opB xo = false := by simp [opB]; omega
            simp [ruleB, this]))
          clear hnext hno
          go_wp2_with (first
          | (go_at_call 61; refine (rIsName_any _ _ ms1).mono ?_; rintro e w' ⟨rfl, rfl⟩)
          | (go_at_call 62; refine (rIsValue_any _ _ ms2).mono ?_; rintro e w' ⟨rfl, rfl⟩))
          go_ret
          exact ⟨ret_bool HF.out.symm, hbl⟩
        by_cases o4 : 4 < xo
        · have HF : Hid (rulesL l = false) := Lib.hid (hno (by
            have : opB xo = false := by simp [opB]; omega
            simp [ruleB, this]))
          clear hnext hno
          go_wp2_with (first
          | (go_at_call 61; refine (rIsName_any _ _ ms1).mono ?_; rintro e w' ⟨rfl, rfl⟩)
          | (go_at_call 62; refine (rIsValue_any _ _ ms2).mono ?_; rintro e w' ⟨rfl, rfl⟩))
          go_ret
          exact ⟨ret_bool HF.out.symm, hbl⟩
        have ho : opB xo = true := by simp [opB]; omega
        by_cases he : (xv.toList == []) = true
        · have HN : Hid (rulesTo l (k + 1) = true) := Lib.hid (by rw [hnext, HT.out]; simp only [ruleB, hn, ho, emB, he]; rfl)
          clear ho
          clear hnext hno
          go_wp2_with (first
          | (go_at_call 61; refine (rIsName_any _ _ ms1).mono ?_; rintro e w' ⟨rfl, rfl⟩)
          | (go_at_call 62; refine (rIsValue_any _ _ ms2).mono ?_; rintro e w' ⟨rfl, rfl⟩))
          go_roundw
          case rel => exact ⟨k + 1, by omega, by go_num, HN, hbl⟩
          case measure => simp [intOf]; omega
        have he : (xv.toList == []) = false := by simpa using he
        by_cases hv : valB xv = true
        · have HN : Hid (rulesTo l (k + 1) = true) := Lib.hid (by rw [hnext, HT.out]; simp only [ruleB, hn, ho, emB, he, hv]; rfl)
          clear ho
          clear hnext hno
          go_wp2_with (first
          | (go_at_call 61; refine (rIsName_any _ _ ms1).mono ?_; rintro e w' ⟨rfl, rfl⟩)
          | (go_at_call 62; refine (rIsValue_any _ _ ms2).mono ?_; rintro e w' ⟨rfl, rfl⟩))
          go_roundw
          case rel => exact ⟨k + 1, by omega, by go_num, HN, hbl⟩
          case measure => simp [intOf]; omega
        · have hv : valB xv = false := by simpa using hv
          have HF : Hid (rulesL l = false) := Lib.hid (hno (by simp only [ruleB, hn, ho, emB, he, hv]; rfl))
          clear ho
          clear hnext hno
          go_wp2_with (first
          | (go_at_call 61; refine (rIsName_any _ _ ms1).mono ?_; rintro e w' ⟨rfl, rfl⟩)
          | (go_at_call 62; refine (rIsValue_any _ _ ms2).mono ?_; rintro e w' ⟨rfl, rfl⟩))
          go_ret
          exact ⟨ret_bool HF.out.symm, hbl⟩
      · have hn : nameB xn = false := by simpa using hn
        have HF : Hid (rulesL l = false) := Lib.hid (hno (by simp only [ruleB, hn]; rfl))
        clear hnext hno
        go_wp2_with (go_at_call 61; refine (rIsName_any _ _ ms1).mono ?_; rintro e w' ⟨rfl, rfl⟩)
        go_ret
        exact ⟨ret_bool HF.out.symm, hbl⟩
    · have hks : k = l.length := by omega
      have HF : Hid (rulesL l = decide ((l.length : Int) ≤ 16)) := Lib.hid (by unfold rulesL; rw [← rulesTo_all, ← hks, HT.out]; simp; omega)
      clear hks
      go_wp2_with fail
      go_ret
      exact ⟨ret_bool HF.out.symm, hbl⟩
end Go.Proofs.YtcfbcidakddhfaaGreatDoor
namespace Go.Proofs.YtcfbcidakddhfaaGreatDoor
open Go.RowKit

end Go.Proofs.YtcfbcidakddhfaaGreatDoor
