/- The mathematics of views: which may be, what a change does, what being active does. -/
import Derived.Test.YtcgkbpjfbahleaaBase
namespace Go.Proofs.Ytcgkbpjfbahleaa

/-- Each number stands behind the one ahead of it, and is below 8. -/
def riseB : Int → List Int → Bool
  | _, [] => true
  | p, n :: l => decide (p < n) && decide (n < 8) && riseB n l
def memsB (l : List Int) : Bool := riseB (-1) l && decide (0 < l.length)
def hasB (l : List Int) (n : Int) : Bool := decide (n ∈ l)
def rightV (e p : Int) (l : List Int) : Bool := decide (1 ≤ e) && decide (e ≤ 4611686018427387904) && memsB l && hasB l p
/-- A control: the epoch, the primary, the members, the safe nodes. -/
structure Vc where
  e : Int
  p : Int
  ms : List Int
  sf : List Int
def chV (c : Vc) (p : Int) (ms : List Int) : Int × Vc :=
  if rightV 1 p ms = false then (1, c) else if hasB c.sf p = false then (111, c) else if 4611686018427387904 ≤ c.e then (20, c)
  else (0, ⟨c.e + 1, p, ms, c.sf.filter fun n => hasB ms n⟩)
def acV (c : Vc) (n : Int) : Int × Vc :=
  if n < 1 ∨ c.e < n then (1, c) else if n = c.e then (0, ⟨c.e, c.p, c.ms, c.ms⟩) else (0, c)
/-- What holds of each control that was made. -/
structure VcOk (c : Vc) : Prop where
  e1 : 1 ≤ c.e
  e2 : c.e ≤ 4611686018427387904
  ms : memsB c.ms = true
  pm : c.p ∈ c.ms
  ps : c.p ∈ c.sf
  sub : ∀ n ∈ c.sf, n ∈ c.ms
  len : c.sf.length ≤ 8

theorem riseB_snoc (x : Int) : ∀ (p : Int) (l : List Int), riseB p (l ++ [x]) = (riseB p l && (decide (l.getLastD p < x) && decide (x < 8)))
  | p, [] => by simp [riseB]
  | p, n :: l => by
    rw [List.cons_append, riseB, riseB_snoc x n l, riseB, List.getLastD_cons]
    cases decide (p < n) <;> cases decide (n < 8) <;> simp
theorem riseB_take {p : Int} {l : List Int} (h : riseB p l = true) (i : Nat) : riseB p (l.take i) = true := by
  induction l generalizing p i with
  | nil => simp [riseB]
  | cons n l ih =>
    cases i with
    | zero => rfl
    | succ i =>
      rw [riseB, Bool.and_eq_true] at h
      rw [List.take_succ_cons, riseB, h.1, ih h.2 i]; rfl
theorem riseB_all : ∀ {p : Int} {l : List Int}, riseB p l = true → ∀ n ∈ l, p < n ∧ n < 8
  | p, [], _, n, hn => by cases hn
  | p, m :: l, h, n, hn => by
    simp only [riseB, Bool.and_eq_true, decide_eq_true_eq] at h
    rcases List.mem_cons.1 hn with rfl | hn
    · exact h.1
    · have := riseB_all h.2 n hn; omega
theorem riseB_len : ∀ {p : Int} {l : List Int}, -1 ≤ p → riseB p l = true → (l.length : Int) + p ≤ 7 ∨ l = []
  | _, [], _, _ => .inr rfl
  | p, m :: l, hp, h => by
    simp only [riseB, Bool.and_eq_true, decide_eq_true_eq] at h
    left
    rcases riseB_len (l := l) (p := m) (by omega) h.2 with h2 | h2
    · simp only [List.length_cons]; omega
    · subst h2; simp; omega
theorem mems_len {l : List Int} (h : memsB l = true) : 1 ≤ l.length ∧ l.length ≤ 8 := by
  unfold memsB at h
  rw [Bool.and_eq_true, decide_eq_true_eq] at h
  rcases riseB_len (by omega) h.1 with h2 | h2
  · omega
  · rw [h2] at h; simp at h
theorem mems_all {l : List Int} (h : memsB l = true) : ∀ n ∈ l, 0 ≤ n ∧ n < 8 := fun n hn => by
  unfold memsB at h
  rw [Bool.and_eq_true] at h
  have := riseB_all h.1 n hn
  omega
theorem rightV_iff {e p : Int} {l : List Int} : rightV e p l = true ↔ 1 ≤ e ∧ e ≤ 4611686018427387904 ∧ memsB l = true ∧ p ∈ l := by
  simp [rightV, hasB, and_assoc]
theorem ch_ok {c : Vc} (h : VcOk c) (p : Int) (ms : List Int) : VcOk (chV c p ms).2 := by
  unfold chV
  by_cases h1 : rightV 1 p ms = false
  · rw [if_pos h1]; exact h
  rw [if_neg h1]
  by_cases h2 : hasB c.sf p = false
  · rw [if_pos h2]; exact h
  rw [if_neg h2]
  by_cases h3 : 4611686018427387904 ≤ c.e
  · rw [if_pos h3]; exact h
  rw [if_neg h3]
  have r := rightV_iff.1 (by simpa using h1)
  have hp : p ∈ c.sf := by simpa [hasB] using h2
  refine ⟨by have := h.e1; simp only; omega, by simp only; omega, r.2.2.1, r.2.2.2, ?_, fun n hn => ?_, ?_⟩
  · simp only [List.mem_filter]; exact ⟨hp, by simpa [hasB] using r.2.2.2⟩
  · simp only [List.mem_filter] at hn; simpa [hasB] using hn.2
  · exact Nat.le_trans (List.length_filter_le _ _) h.len
theorem ac_ok {c : Vc} (h : VcOk c) (n : Int) : VcOk (acV c n).2 := by
  unfold acV
  split
  · exact h
  · split
    · exact ⟨h.e1, h.e2, h.ms, h.pm, h.pm, fun _ h => h, (mems_len h.ms).2⟩
    · exact h
theorem new_ok {m : Int} {l : List Int} (h : memsB (m :: l) = true) : VcOk ⟨1, m, m :: l, m :: l⟩ :=
  ⟨by simp, by simp, h, List.mem_cons_self, List.mem_cons_self, fun _ h => h, (mems_len h).2⟩
/-- Whoever is safe behind a change was safe. -/
theorem ch_sub {c : Vc} {p : Int} {ms : List Int} : ∀ n ∈ (chV c p ms).2.sf, n ∈ c.sf := by
  unfold chV
  intro n hn
  split at hn
  · exact hn
  split at hn
  · exact hn
  split at hn
  · exact hn
  simp only [List.mem_filter] at hn
  exact hn.1
end Go.Proofs.Ytcgkbpjfbahleaa
