/- A query in memory; the program's Right, the words, the numbers' places; the law's To and From. -/
import Derived.Test.YtcfbcidakddhfaaGreatDoorPr28
import Derived.Test.YtcfbcidakddhfaaGreatDoorPr11
import Derived.Test.YtcfbcidakddhfaaGreatDoorPr12
import Derived.Test.YtcfbcidakddhfaaGreatDoorPr13
import Derived.Test.YtcfbcidakddhfaaGreatDoorPr14
import Derived.Test.YtcfbcidakddhfaaGreatDoorPr5
import Derived.Test.YtcfbcidakddhfaaGreatDoorPr7
namespace Go.Proofs.YtcfbcidakddhfaaGreatDoor

abbrev Rowq := List Pp × List Smp
def inQ (q : Qr) (p : Pt) : Bool := decide (q.fr ≤ p.t) && decide (p.t < q.to_)
def smpsQ (q : Qr) (l : List Pt) : List Smp := (l.filter fun p => inQ q p && (p.k == 1)).map fun p => (p.t, p.n)
def notesQ (q : Qr) (l : List Pt) : List Pt := l.filter fun p => inQ q p && ((p.k == 2) && q.nt)
def cellsQ (q : Qr) (l : List Smp) : Int × List Smp := if q.op = 0 then (0, l) else windowsB q.op l q.fr q.to_ q.st
def setAt (l : List Pt) : List Pp := match l with | [] => [] | p :: _ => p.set
def firstN (l : List Pt) : Nat := (l.takeWhile fun x => cmpL x.set (setAt l) == 0).length
def tellQ (q : Qr) (g : List Pt) : Int × List Rowq × List Pt :=
  if allB (setAt g) q.rs = false then (0, [], [])
  else if (cellsQ q (smpsQ q g)).1 ≠ 0 then ((cellsQ q (smpsQ q g)).1, [], [])
  else (0, (if (cellsQ q (smpsQ q g)).2 = [] then [] else [(setAt g, (cellsQ q (smpsQ q g)).2)]), notesQ q g)
def runGo (q : Qr) : Nat → List Pt → List Rowq → List Pt → Int × List Rowq × List Pt
  | 0, _, rows, notes => (0, rows, notes)
  | f + 1, l, rows, notes =>
    if l = [] then (0, rows, notes)
    else if (tellQ q (l.take (firstN l))).1 ≠ 0 then ((tellQ q (l.take (firstN l))).1, [], [])
    else runGo q f (l.drop (firstN l)) (rows ++ (tellQ q (l.take (firstN l))).2.1) (notes ++ (tellQ q (l.take (firstN l))).2.2)
def runQ (q : Qr) (l : List Pt) : Int × List Rowq × List Pt :=
  if rightQ q = false ∨ 65536 < l.length then (1, [], []) else runGo q l.length l [] []

theorem firstN_le (l : List Pt) : firstN l ≤ l.length := by
  unfold firstN
  have := congrArg List.length (List.takeWhile_append_dropWhile (p := fun x : Pt => cmpL x.set (setAt l) == 0) (l := l))
  rw [List.length_append] at this
  omega
theorem firstN_pos {l : List Pt} (h : l ≠ []) : 1 ≤ firstN l := by
  cases l with
  | nil => exact absurd rfl h
  | cons p r =>
    unfold firstN
    rw [List.takeWhile_cons, if_pos (by simp [setAt, cmpL_self])]
    simp
theorem firstN_take (l : List Pt) : l.take (firstN l) = l.takeWhile fun x => cmpL x.set (setAt l) == 0 := by
  unfold firstN
  conv => lhs; arg 2; rw [← List.takeWhile_append_dropWhile (p := fun x : Pt => cmpL x.set (setAt l) == 0) (l := l)]
  rw [List.take_left]
theorem firstN_in {l : List Pt} {j : Nat} (h : j < firstN l) (hj : j < l.length) : l[j].set = setAt l := by
  have hm : l[j] ∈ l.takeWhile fun x => cmpL x.set (setAt l) == 0 := by
    rw [← firstN_take, List.mem_take_iff_getElem]
    exact ⟨j, by omega, rfl⟩
  have key : ∀ (p : Pt → Bool) (l : List Pt) (x : Pt), x ∈ l.takeWhile p → p x = true := by
    intro p l
    induction l with
    | nil => intro x h; cases h
    | cons y r ih =>
      intro x h
      rw [List.takeWhile_cons] at h
      split at h
      · rcases List.mem_cons.1 h with rfl | h
        · assumption
        · exact ih x h
      · cases h
  have := key _ _ _ hm
  exact cmpL_zero (by simpa using this)
theorem firstN_end {l : List Pt} (h : firstN l < l.length) : cmpL l[firstN l].set (setAt l) ≠ 0 := by
  have key : ∀ (p : Pt → Bool) (l : List Pt) (h : (l.takeWhile p).length < l.length), p (l[(l.takeWhile p).length]) = false := by
    intro p l
    induction l with
    | nil => intro h; simp at h
    | cons x r ih =>
      intro h
      by_cases hx : p x = true
      · simp only [List.takeWhile_cons, hx, if_true, List.length_cons] at h ⊢
        simpa using ih (by omega)
      · simp only [List.takeWhile_cons, hx, Bool.false_eq_true, if_false, List.length_nil] at h ⊢
        simpa using hx
  have := key _ l h
  intro e
  unfold firstN at e
  rw [e] at this
  exact absurd this (by simp)
theorem firstN_of {l : List Pt} {n : Nat} (hn : n ≤ l.length) (h1 : ∀ j (hj : j < l.length), j < n → cmpL l[j].set (setAt l) = 0) (h2 : ∀ (hj : n < l.length), cmpL l[n].set (setAt l) ≠ 0) : firstN l = n := by
  have hle := firstN_le l
  rcases Nat.lt_trichotomy (firstN l) n with h | h | h
  · have := firstN_end (l := l) (by omega)
    exact absurd (h1 _ (by omega) h) this
  · exact h
  · have := firstN_in h (by omega)
    exact absurd (by rw [this]; exact cmpL_self _) (h2 (by omega))
/-- Fuel beyond the length changes nothing. -/
theorem runGo_fuel (q : Qr) : ∀ (f g : Nat) (l : List Pt) (rows : List Rowq) (notes : List Pt), l.length ≤ f → l.length ≤ g → runGo q f l rows notes = runGo q g l rows notes
  | 0, 0, _, _, _, _, _ => rfl
  | 0, g + 1, l, rows, notes, h, _ => by
    obtain rfl := List.eq_nil_of_length_eq_zero (show l.length = 0 by omega)
    simp [runGo]
  | f + 1, 0, l, rows, notes, _, h => by
    obtain rfl := List.eq_nil_of_length_eq_zero (show l.length = 0 by omega)
    simp [runGo]
  | f + 1, g + 1, l, rows, notes, hf, hg => by
    unfold runGo
    by_cases h0 : l = []
    · rw [if_pos h0, if_pos h0]
    · rw [if_neg h0, if_neg h0]
      split
      · rfl
      · have h1 := firstN_pos h0
        have h2 := firstN_le l
        exact runGo_fuel q f g _ _ _ (by rw [List.length_drop]; omega) (by rw [List.length_drop]; omega)
/-- The document's way: place by place. -/
def headB (l : List Pt) (i : Nat) : Bool := decide (0 < i) && (cmpL (l.getD (i - 1) default).set (l.getD i default).set == 0)
def qdocGo (q : Qr) (l : List Pt) : Nat → Nat → List Rowq → List Pt → Int × List Rowq × List Pt
  | 0, _, rows, notes => (0, rows, notes)
  | f + 1, i, rows, notes =>
    if headB l i = true ∨ allB (l.getD i default).set q.rs = false then qdocGo q l f (i + 1) rows notes
    else if (tellQ q ((l.drop i).take (firstN (l.drop i)))).1 ≠ 0 then ((tellQ q ((l.drop i).take (firstN (l.drop i)))).1, [], [])
    else qdocGo q l f (i + 1) (rows ++ (tellQ q ((l.drop i).take (firstN (l.drop i)))).2.1) (notes ++ (tellQ q ((l.drop i).take (firstN (l.drop i)))).2.2)
theorem qdocGo_succ (q : Qr) (l : List Pt) (f i : Nat) (rows : List Rowq) (notes : List Pt) : qdocGo q l (f + 1) i rows notes =
    if headB l i = true ∨ allB (l.getD i default).set q.rs = false then qdocGo q l f (i + 1) rows notes
    else if (tellQ q ((l.drop i).take (firstN (l.drop i)))).1 ≠ 0 then ((tellQ q ((l.drop i).take (firstN (l.drop i)))).1, [], [])
    else qdocGo q l f (i + 1) (rows ++ (tellQ q ((l.drop i).take (firstN (l.drop i)))).2.1) (notes ++ (tellQ q ((l.drop i).take (firstN (l.drop i)))).2.2) := rfl
theorem runGo_succ (q : Qr) (f : Nat) (l : List Pt) (rows : List Rowq) (notes : List Pt) : runGo q (f + 1) l rows notes =
    if l = [] then (0, rows, notes)
    else if (tellQ q (l.take (firstN l))).1 ≠ 0 then ((tellQ q (l.take (firstN l))).1, [], [])
    else runGo q f (l.drop (firstN l)) (rows ++ (tellQ q (l.take (firstN l))).2.1) (notes ++ (tellQ q (l.take (firstN l))).2.2) := rfl
theorem setAt_drop {l : List Pt} {i : Nat} (h : i < l.length) : setAt (l.drop i) = (l.getD i default).set := by
  rw [List.drop_eq_getElem_cons h, List.getD_eq_getElem?_getD, List.getElem?_eq_getElem h]
  rfl
theorem qdoc_skip (q : Qr) {l : List Pt} {i : Nat} (h : i < l.length) : ∀ (m : Nat) (j f : Nat) (rows : List Rowq) (notes : List Pt), j + m = i + firstN (l.drop i) → i < j → qdocGo q l (f + m) j rows notes = qdocGo q l f (i + firstN (l.drop i)) rows notes
  | 0, j, f, rows, notes, hj, _ => by rw [← hj]; rfl
  | m + 1, j, f, rows, notes, hj, hij => by
    have hle := firstN_le (l.drop i)
    rw [List.length_drop] at hle
    have hj0 : j < l.length := by omega
    have e1 := firstN_in (l := l.drop i) (j := j - i) (by omega) (by rw [List.length_drop]; omega)
    have e2 := firstN_in (l := l.drop i) (j := j - 1 - i) (by omega) (by rw [List.length_drop]; omega)
    rw [List.getElem_drop] at e1 e2
    have g1 : (l.getD j default).set = setAt (l.drop i) := by
      rw [List.getD_eq_getElem?_getD, List.getElem?_eq_getElem hj0, Option.getD_some, ← e1]
      congr 2
      omega
    have g2 : (l.getD (j - 1) default).set = setAt (l.drop i) := by
      rw [List.getD_eq_getElem?_getD, List.getElem?_eq_getElem (show j - 1 < l.length by omega), Option.getD_some, ← e2]
      congr 2
      omega
    have hh : headB l j = true := by
      unfold headB
      rw [g1, g2, cmpL_self]
      simp
      omega
    rw [show f + (m + 1) = (f + m) + 1 by omega]
    rw [qdocGo_succ, if_pos (.inl hh)]
    exact qdoc_skip q h m (j + 1) f rows notes (by omega) (by omega)
theorem qdoc_run (q : Qr) (l : List Pt) : ∀ (f i : Nat) (rows : List Rowq) (notes : List Pt), i + f = l.length → headB l i = false ∨ f = 0 → qdocGo q l f i rows notes = runGo q f (l.drop i) rows notes := by
  intro f
  induction f using Nat.strongRecOn with
  | _ f ih =>
    intro i rows notes hi hh
    cases f with
    | zero => rfl
    | succ f =>
      have hil : i < l.length := by omega
      have hne : l.drop i ≠ [] := by
        intro e
        have := congrArg List.length e
        rw [List.length_drop] at this
        simp at this
        omega
      have hb : headB l i = false := by
        rcases hh with h | h
        · exact h
        · omega
      have hp := firstN_pos hne
      have hle := firstN_le (l.drop i)
      rw [List.length_drop] at hle
      obtain ⟨m, hm⟩ : ∃ m, firstN (l.drop i) = m + 1 := ⟨firstN (l.drop i) - 1, by omega⟩
      obtain ⟨g, hg⟩ : ∃ g, f = g + m := ⟨f - m, by omega⟩
      have hsk : ∀ rows notes, qdocGo q l f (i + 1) rows notes = runGo q f ((l.drop i).drop (firstN (l.drop i))) rows notes := fun rows notes => by
        rw [hg, qdoc_skip q hil m (i + 1) g rows notes (by omega) (by omega)]
        have hnext : headB l (i + firstN (l.drop i)) = false ∨ g = 0 := by
          by_cases hg0 : g = 0
          · exact .inr hg0
          · left
            have he := firstN_end (l := l.drop i) (by rw [List.length_drop]; omega)
            rw [List.getElem_drop] at he
            have e2 := firstN_in (l := l.drop i) (j := m) (by omega) (by rw [List.length_drop]; omega)
            rw [List.getElem_drop] at e2
            have g1 : l.getD (i + firstN (l.drop i)) default = l[i + firstN (l.drop i)]'(by omega) := by
              rw [List.getD_eq_getElem?_getD, List.getElem?_eq_getElem (by omega), Option.getD_some]
            have g2 : (l.getD (i + firstN (l.drop i) - 1) default).set = setAt (l.drop i) := by
              rw [List.getD_eq_getElem?_getD, List.getElem?_eq_getElem (show i + firstN (l.drop i) - 1 < l.length by omega), Option.getD_some, ← e2]
              congr 2
              omega
            unfold headB
            rw [g1, g2]
            have : cmpL (setAt (l.drop i)) (l[i + firstN (l.drop i)]'(by omega)).set ≠ 0 := fun e => he (by rw [cmpL_anti, e]; rfl)
            rw [beq_eq_false_iff_ne.2 this, Bool.and_false]
        rw [ih g (by omega) (i + firstN (l.drop i)) rows notes (by omega) hnext, List.drop_drop]
        exact runGo_fuel q _ _ _ _ _ (by rw [List.length_drop]; omega) (by rw [List.length_drop]; omega)
      have hset : setAt ((l.drop i).take (firstN (l.drop i))) = (l.getD i default).set := by
        rw [← setAt_drop hil, hm, List.drop_eq_getElem_cons hil, List.take_succ_cons]
        rfl
      rw [qdocGo_succ, runGo_succ, if_neg hne, hb]
      by_cases ha : allB (l.getD i default).set q.rs = false
      · rw [if_pos (.inr ha), hsk]
        have ht : tellQ q ((l.drop i).take (firstN (l.drop i))) = (0, [], []) := by
          unfold tellQ
          rw [hset, if_pos ha]
        rw [ht]
        simp
      · rw [if_neg (fun h => by rcases h with h | h; (· cases h); exact ha h)]
        split
        · rfl
        · exact hsk _ _
theorem smpsQ_next (q : Qr) {l : List Pt} {i : Nat} (h : i < l.length) : smpsQ q (l.take (i + 1)) = smpsQ q (l.take i) ++ (if (inQ q l[i] && (l[i].k == 1)) = true then [(l[i].t, l[i].n)] else []) := by
  unfold smpsQ
  rw [List.take_succ_eq_append_getElem h, List.filter_append, List.map_append]
  congr 1
  by_cases hc : (inQ q l[i] && (l[i].k == 1)) = true
  · rw [if_pos hc, List.filter_cons, if_pos hc]; rfl
  · rw [if_neg hc, List.filter_cons, if_neg hc]; rfl
theorem notesQ_next (q : Qr) {l : List Pt} {i : Nat} (h : i < l.length) : notesQ q (l.take (i + 1)) = notesQ q (l.take i) ++ (if (inQ q l[i] && ((l[i].k == 2) && q.nt)) = true then [l[i]] else []) := by
  unfold notesQ
  rw [List.take_succ_eq_append_getElem h, List.filter_append]
  congr 1
  by_cases hc : (inQ q l[i] && ((l[i].k == 2) && q.nt)) = true
  · rw [if_pos hc, List.filter_cons, if_pos hc]; rfl
  · rw [if_neg hc, List.filter_cons, if_neg hc]; rfl
theorem smpsQ_len (q : Qr) (l : List Pt) : (smpsQ q l).length ≤ l.length := by
  unfold smpsQ
  rw [List.length_map]
  exact List.length_filter_le _ _
theorem notesQ_len (q : Qr) (l : List Pt) : (notesQ q l).length ≤ l.length := List.length_filter_le _ _
theorem smpsQ_ok (q : Qr) {l : List Pt} (h : ∀ p ∈ l, Pok p) : ∀ x ∈ smpsQ q l, Sok x := by
  intro x hx
  unfold smpsQ at hx
  obtain ⟨p, hp, rfl⟩ := List.mem_map.1 hx
  have := h p (List.mem_filter.1 hp).1
  exact ⟨this.t1, this.t2, this.n1, this.n2⟩
end Go.Proofs.YtcfbcidakddhfaaGreatDoor
namespace Go.Proofs.YtcfbcidakddhfaaGreatDoor
open Go.RowKit

/-- A query as a value: its rules at A. -/
abbrev qv (q : Qr) (A : Option Addr) (c : Nat) : Value := .agg #[.int .i64 q.op, .slice A q.rs.length c, .int .i64 q.fr, .int .i64 q.to_, .int .i64 q.st, .bool q.nt]
abbrev qc (q : Qr) (A : Option Addr) (c : Nat) : Array Value := #[.int .i64 q.op, .slice A q.rs.length c, .int .i64 q.fr, .int .i64 q.to_, .int .i64 q.st, .bool q.nt]
/-- A query's numbers fit. -/
structure Qok (q : Qr) : Prop where
  o1 : -9223372036854775808 ≤ q.op
  o2 : q.op ≤ 9223372036854775807
  f1 : -9223372036854775808 ≤ q.fr
  f2 : q.fr ≤ 9223372036854775807
  t1 : -9223372036854775808 ≤ q.to_
  t2 : q.to_ ≤ 9223372036854775807
  s1 : -9223372036854775808 ≤ q.st
  s2 : q.st ≤ 9223372036854775807
theorem akIsOp_any (n : Int) (w : World) : Calls Tryz.prog 30 #[.int .i64 n] w fun e w' => e = .returned (.bool (opQ n)) ∧ w = w' := by
  cases h1 : decide (0 ≤ n) <;> cases h2 : decide (n < 6)
  all_goals
    unfold opQ
    rw [h1, h2]
    go_enter Tryz.func30, Tryz.ntmps30
    go_wp2
    go_ret
    exact ⟨rfl, rfl⟩
set_option maxHeartbeats 800000 in
theorem akIsSpan_any (a b : Int) (w : World) : Calls Tryz.prog 32 #[.int .i64 a, .int .i64 b] w fun e w' => e = .returned (.bool (spanB a b)) ∧ w = w' := by
  cases h1 : decide (0 ≤ a) <;> cases h2 : decide (a ≤ b) <;> cases h3 : decide (b ≤ 4611686018427387904)
  all_goals
    unfold spanB
    rw [h1, h2, h3]
    go_enter Tryz.func32, Tryz.ntmps32
    go_wp2
    go_ret
    exact ⟨rfl, rfl⟩
section
variable {q : Qr} {A : Option Addr} {c K : Nat} {w : World}
set_option maxHeartbeats 1600000 in
theorem akIsStep_any (h2 : q.st ≤ 9223372036854775807) : Calls Tryz.prog 33 #[qv q A c] w fun e w' => e = .returned (.bool (stepQ q.op q.fr q.to_ q.st)) ∧ Below w.heap.size w w' := by
  have B0 : Below w.heap.size w (w.alloc (.cells (qc q A c) 36)) := (Below.refl _ _).alloc (Nat.le_refl _) _
  by_cases h0 : q.op = 0
  · have e0 : (q.op == (0 : Int)) = true := by simpa using h0
    have HF : Hid (stepQ q.op q.fr q.to_ q.st = (q.st == 0)) := Lib.hid (by unfold stepQ; rw [if_pos h0])
    clear h0
    go_enter Tryz.func33, Tryz.ntmps33
    go_wp2
    go_ret
    exact ⟨by rw [HF.out]; rfl, B0⟩
  · have e0 : (q.op == (0 : Int)) = false := by simpa using h0
    have HF : Hid (stepQ q.op q.fr q.to_ q.st = (((windowsB q.op [] q.fr q.to_ q.st).1 == 0) && decide (q.st ≤ 4611686018427387904))) := Lib.hid (by unfold stepQ; rw [if_neg h0])
    have HW := Lib.hid (fun W => windows_any q.op 0 none 0 0 [] q.fr q.to_ q.st W rfl (Sr.none_ _ _) (Nat.zero_le _) (fun x hx => by cases hx) h2)
    generalize windowsB q.op [] q.fr q.to_ q.st = P at HF HW
    obtain ⟨r, cs⟩ := P
    clear h0
    have HB0 := Lib.hid B0
    go_enter Tryz.func33, Tryz.ntmps33
    go_wp2_with fail
    refine (HW.out _).mono ?_
    rintro e w1 ⟨A9, c9, rfl, _, b1⟩
    have x4 : w1.cell? ⟨w.heap.size, 4, none⟩ = some (.int .i64 q.st) := kept b1 (by simp [go_sem])
    have hz := b1.size
    have hz2 : w.heap.size < w1.heap.size := by simp at hz; omega
    have HB1 : Hid (Below w.heap.size w w1) := Lib.hid (HB0.out.trans (b1.mono (by simp)))
    clear b1 hz B0
    cases hr : (r == (0 : Int)) with
    | false =>
      rw [hr] at HF
      go_wp2
      go_ret
      exact ⟨by rw [HF.out]; rfl, HB1.out⟩
    | true =>
      rw [hr] at HF
      go_wp2
      go_ret
      exact ⟨by rw [HF.out]; rfl, HB1.out⟩
set_option maxHeartbeats 1600000 in
theorem akRight_any (hr : Rr w K A c q.rs) (hK : K ≤ w.heap.size) (hS : SmR q.rs) (h2 : q.st ≤ 9223372036854775807) :
    Calls Tryz.prog 15 #[qv q A c] w fun e w' => e = .returned (.bool (rightQ q)) ∧ Below w.heap.size w w' := by
  have hcl := hr.le
  have B0 : Below w.heap.size w (w.alloc (.cells (qc q A c) 36)) := (Below.refl _ _).alloc (Nat.le_refl _) _
  have HO := Lib.hid (fun W => akIsOp_any q.op W)
  have HSp := Lib.hid (fun W => akIsSpan_any q.fr q.to_ W)
  have HSt := Lib.hid (fun W => akIsStep_any (q := q) (A := A) (c := c) (w := W) h2)
  have HR := Lib.hid (rightR_any K A q.rs.length c q.rs (w.alloc (.cells (qc q A c) 36)) rfl (hr.alloc hK _) (by simp; omega) hS)
  have HB0 := Lib.hid B0
  have HF : Hid (rightQ q = (opQ q.op && (rulesL q.rs && (spanB q.fr q.to_ && stepQ q.op q.fr q.to_ q.st)))) := Lib.hid rfl
  clear hr hS
  cases h1 : opQ q.op with
  | false =>
    rw [h1] at HF HO
    go_enter Tryz.func15, Tryz.ntmps15
    go_wp2_with (go_at_call 30; refine (HO.out _).mono ?_; rintro e w' ⟨rfl, rfl⟩)
    go_ret
    exact ⟨by rw [HF.out]; rfl, B0⟩
  | true =>
    rw [h1] at HF HO
    generalize rulesL q.rs = r1 at HF HR
    generalize spanB q.fr q.to_ = r2 at HF HSp
    generalize stepQ q.op q.fr q.to_ q.st = r3 at HF HSt
    go_enter Tryz.func15, Tryz.ntmps15
    go_wp2_with fail
    refine (HO.out _).mono ?_
    rintro e w' ⟨rfl, rfl⟩
    go_wp2_with fail
    refine HR.out.mono ?_
    rintro e w1 ⟨rfl, b1⟩
    have x0 : w1.cell? ⟨w.heap.size, 0, none⟩ = some (.int .i64 q.op) := kept b1 (by simp [go_sem])
    have x1 : w1.cell? ⟨w.heap.size, 1, none⟩ = some (.slice A q.rs.length c) := kept b1 (by simp [go_sem])
    have x2 : w1.cell? ⟨w.heap.size, 2, none⟩ = some (.int .i64 q.fr) := kept b1 (by simp [go_sem])
    have x3 : w1.cell? ⟨w.heap.size, 3, none⟩ = some (.int .i64 q.to_) := kept b1 (by simp [go_sem])
    have x4 : w1.cell? ⟨w.heap.size, 4, none⟩ = some (.int .i64 q.st) := kept b1 (by simp [go_sem])
    have x5 : w1.cell? ⟨w.heap.size, 5, none⟩ = some (.bool q.nt) := kept b1 (by simp [go_sem])
    have hz := b1.size
    have hz2 : w.heap.size < w1.heap.size := by simp at hz; omega
    have B1 : Below w.heap.size w w1 := HB0.out.trans (b1.mono (by simp))
    have HB1 := Lib.hid B1
    clear b1 hz B0 HR HB0
    cases r1 with
    | false =>
      go_wp2
      go_ret
      exact ⟨by rw [HF.out]; rfl, HB1.out⟩
    | true =>
      go_wp2_with fail
      refine (HSp.out _).mono ?_
      rintro e w' ⟨rfl, rfl⟩
      cases r2 with
      | false =>
        go_wp2
        go_ret
        exact ⟨by rw [HF.out]; rfl, HB1.out⟩
      | true =>
        go_wp2_with fail
        refine (HSt.out _).mono ?_
        rintro e w2 ⟨rfl, b2⟩
        have HB2 : Hid (Below w.heap.size w w2) := Lib.hid (HB1.out.trans (b2.mono HB1.out.size))
        clear b2 B1 HB1
        go_wp2
        go_ret
        exact ⟨by rw [HF.out]; rfl, HB2.out⟩
end
/-- The table of words. -/
def Wo (w : World) : Prop := ∀ i : Nat, i < 6 → w.cell? ⟨0, i, none⟩ = some (.string (strB (wordQ (i : Int))))
theorem Wo.below {w w' : World} (h : Wo w) (hb : Below w.heap.size w w') : Wo w' := fun i hi => kept hb (h i hi)
end Go.Proofs.YtcfbcidakddhfaaGreatDoor
