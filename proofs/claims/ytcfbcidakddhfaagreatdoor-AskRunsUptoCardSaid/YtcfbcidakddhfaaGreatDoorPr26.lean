/- Windows asked sample by sample, and window by window: the mathematics. -/
import Derived.Test.YtcfbcidakddhfaaGreatDoorPr25
namespace Go.Proofs.YtcfbcidakddhfaaGreatDoor
open Go.RowKit

/-- Does a sample lie in the k-th window? -/
def inB (a b st k : Int) (s : Smp) : Bool := decide (a ≤ s.1) && decide (s.1 < b) && decide ((s.1 - a) / st = k)
def inK (a b st k : Int) (l : List Smp) : List Smp := l.filter (inB a b st k)
def rGo (op a b st : Int) (l : List Smp) : Nat → Int → List Smp → Int × List Smp
  | 0, _, acc => (0, acc)
  | fuel + 1, k, acc =>
    if inK a b st k l = [] then rGo op a b st l fuel (k + 1) acc
    else if (foldB op (inK a b st k l)).2.2 = 0 then rGo op a b st l fuel (k + 1) (acc ++ [(a + k * st, (foldB op (inK a b st k l)).1)])
    else ((foldB op (inK a b st k l)).2.2, [])
def manyI (a b st : Int) : Int := (b - a - 1) / st + 1
theorem many_is {a b st : Int} (hs : 1 ≤ st) : (b - a) / st + (if (b - a) % st = 0 then 0 else 1) = manyI a b st := by
  unfold manyI
  obtain ⟨d, hd⟩ : ∃ d, d = b - a := ⟨_, rfl⟩
  rw [← hd]
  have h1 := Int.mul_ediv_add_emod d st
  have h2 := Int.emod_nonneg d (show st ≠ 0 by omega)
  have h3 := Int.emod_lt_of_pos d (show 0 < st by omega)
  generalize d / st = q at *
  generalize d % st = r at *
  by_cases hr : r = 0
  · rw [if_pos hr]
    have h4 : (d - 1) / st = q - 1 ∧ (d - 1) % st = st - 1 := (Int.ediv_emod_unique (by omega)).2 ⟨by rw [Int.mul_sub]; omega, by omega, by omega⟩
    omega
  · rw [if_neg hr]
    have h4 : (d - 1) / st = q ∧ (d - 1) % st = r - 1 := (Int.ediv_emod_unique (by omega)).2 ⟨by omega, by omega, by omega⟩
    omega
theorem many_lt {a b st k : Int} (hs : 1 ≤ st) : k < manyI a b st ↔ a + k * st < b := by
  unfold manyI
  have h := Int.le_ediv_iff_mul_le (a := k) (b := b - a - 1) (c := st) (by omega)
  omega
theorem many_ge {a b st : Int} (h : a ≤ b) (hs : 1 ≤ st) : 0 ≤ manyI a b st := by
  have h1 := many_lt (a := a) (b := b) (k := -1) hs
  omega
theorem div_is {x st k : Int} (hs : 1 ≤ st) : x / st = k ↔ k * st ≤ x ∧ x < k * st + st := by
  have h1 := Int.le_ediv_iff_mul_le (a := k) (b := x) (c := st) (by omega)
  have h2 := Int.ediv_lt_iff_lt_mul (a := x) (b := k + 1) (c := st) (by omega)
  rw [Int.add_mul, Int.one_mul] at h2
  omega
theorem take_filter {l : List Smp} {T : Int} (hs : Srt l) : l.take (ah l T) = l.filter fun s => decide (s.1 < T) := by
  induction l with
  | nil => rfl
  | cons y l ih =>
    have h2 := List.pairwise_cons.1 hs
    by_cases hy : y.1 < T
    · have e : ah (y :: l) T = ah l T + 1 := by unfold ah; rw [List.takeWhile_cons, if_pos (by simpa using hy)]; rfl
      rw [e, List.take_succ_cons, ih h2.2, List.filter_cons, if_pos (by simpa using hy)]
    · have e : ah (y :: l) T = 0 := by unfold ah; rw [List.takeWhile_cons, if_neg (by simpa using hy)]; rfl
      rw [e, List.filter_cons, if_neg (by simpa using hy), List.take_zero, eq_comm, List.filter_eq_nil_iff]
      intro x hx
      have := h2.1 x hx
      simp
      omega
theorem drop_filter {l : List Smp} {T : Int} (hs : Srt l) : l.drop (ah l T) = l.filter fun s => decide (T ≤ s.1) := by
  induction l with
  | nil => rfl
  | cons y l ih =>
    have h2 := List.pairwise_cons.1 hs
    by_cases hy : y.1 < T
    · have e : ah (y :: l) T = ah l T + 1 := by unfold ah; rw [List.takeWhile_cons, if_pos (by simpa using hy)]; rfl
      rw [e, List.drop_succ_cons, ih h2.2, List.filter_cons, if_neg (by simp; omega)]
    · have e : ah (y :: l) T = 0 := by unfold ah; rw [List.takeWhile_cons, if_neg (by simpa using hy)]; rfl
      rw [e, List.drop_zero, eq_comm, List.filter_eq_self]
      intro x hx
      rcases List.mem_cons.1 hx with rfl | hx
      · simp; omega
      · have := h2.1 x hx
        simp
        omega
theorem rGo_nil {op a b st : Int} {l : List Smp} : ∀ (fuel : Nat) (k : Int) (acc : List Smp), (∀ j, k ≤ j → inK a b st j l = []) → rGo op a b st l fuel k acc = (0, acc)
  | 0, _, _, _ => rfl
  | fuel + 1, k, acc, h => by
    unfold rGo
    rw [if_pos (h k (Int.le_refl _))]
    exact rGo_nil fuel (k + 1) acc fun j hj => h j (by omega)
theorem go_same {op a b st : Int} {l : List Smp} (hs : 1 ≤ st) (hsrt : Srt l) : ∀ (r f : Nat) (k t : Int) (acc : List Smp), 0 ≤ k → manyI a b st = k + r → (b - t).toNat ≤ f → (r = 0 → t = b) → (0 < r → t = a + k * st) →
    winGo op b st f t (l.filter fun s => decide (t ≤ s.1)) acc = rGo op a b st l r k acc
  | 0, f, k, t, acc, _, _, hf, h0, _ => by
    obtain rfl := h0 rfl
    cases f with
    | zero => rfl
    | succ f => unfold winGo; rw [if_neg (Int.lt_irrefl _)]; rfl
  | r + 1, f, k, t, acc, hk, hm, hf, _, h1 => by
    have ht := h1 (by omega)
    have htb : t < b := by rw [ht]; exact (many_lt hs).1 (by omega)
    obtain ⟨f, rfl⟩ : ∃ g, f = g + 1 := ⟨f - 1, by omega⟩
    obtain ⟨m, hmm⟩ : ∃ m, min st (b - t) = m := ⟨_, rfl⟩
    have hta : a ≤ t := by
      have := Int.mul_nonneg hk (show 0 ≤ st by omega)
      omega
    obtain ⟨ks, hks⟩ : ∃ ks, ks = k * st := ⟨_, rfl⟩
    rw [← hks] at ht
    have hnext : (r = 0 → t + m = b) ∧ (0 < r → t + m = a + (k + 1) * st) := by
      have h2 := many_lt (a := a) (b := b) (k := k + 1) hs
      rw [Int.add_mul, Int.one_mul, ← hks] at h2 ⊢
      constructor
      · intro h; omega
      · intro h; omega
    have hfs : (l.filter fun s => decide (t ≤ s.1)).Pairwise fun x y => x.1 ≤ y.1 := hsrt.sublist List.filter_sublist
    have e1 : (l.filter fun s => decide (t ≤ s.1)).take (ah (l.filter fun s => decide (t ≤ s.1)) (t + m)) = inK a b st k l := by
      rw [take_filter hfs, List.filter_filter]
      unfold inK
      refine List.filter_congr fun x _ => ?_
      unfold inB
      have h3 := div_is (x := x.1 - a) (k := k) hs
      rw [← hks] at h3
      by_cases g1 : t ≤ x.1 <;> by_cases g2 : x.1 < t + m
      all_goals
        rw [Bool.eq_iff_iff]
        simp only [Bool.and_eq_true, decide_eq_true_eq]
        omega
    have e2 : (l.filter fun s => decide (t ≤ s.1)).drop (ah (l.filter fun s => decide (t ≤ s.1)) (t + m)) = l.filter fun s => decide (t + m ≤ s.1) := by
      rw [drop_filter hfs, List.filter_filter]
      refine List.filter_congr fun x _ => ?_
      rw [Bool.eq_iff_iff]
      simp only [Bool.and_eq_true, decide_eq_true_eq]
      omega
    have e3 : (l.filter fun s => decide (t ≤ s.1)).length = ah (l.filter fun s => decide (t ≤ s.1)) (t + m) + (l.filter fun s => decide (t + m ≤ s.1)).length := by
      rw [← e2, List.length_drop]
      have := ah_le (l.filter fun s => decide (t ≤ s.1)) (t + m)
      omega
    have e4 : (inK a b st k l).length = ah (l.filter fun s => decide (t ≤ s.1)) (t + m) := by
      rw [← e1, List.length_take]
      have := ah_le (l.filter fun s => decide (t ≤ s.1)) (t + m)
      omega
    unfold winGo
    rw [if_pos htb, hmm]
    by_cases hnil : (l.filter fun s => decide (t ≤ s.1)) = []
    · rw [if_pos hnil, rGo_nil]
      intro j hj
      unfold inK
      rw [List.filter_eq_nil_iff]
      intro x hx hin
      unfold inB at hin
      simp only [Bool.and_eq_true, decide_eq_true_eq] at hin
      have h3 := (div_is (x := x.1 - a) (k := j) hs).1 hin.2
      have h4 := Int.mul_le_mul_of_nonneg_right hj (show 0 ≤ st by omega)
      have h5 := List.filter_eq_nil_iff.1 hnil x hx
      simp at h5
      omega
    · rw [if_neg hnil, e1, e2]
      unfold rGo
      have ih := fun acc => go_same hs hsrt (op := op) (a := a) r f (k + 1) (t + m) acc (by omega) (by omega) (by omega) hnext.1 hnext.2
      by_cases hq : ah (l.filter fun s => decide (t ≤ s.1)) (t + m) = 0
      · rw [if_pos hq]
        have hin : inK a b st k l = [] := List.eq_nil_of_length_eq_zero (by rw [e4, hq])
        rw [if_pos hin]
        have : (l.filter fun s => decide (t ≤ s.1)) = l.filter fun s => decide (t + m ≤ s.1) := by rw [← e2, hq, List.drop_zero]
        rw [this]
        exact ih acc
      · rw [if_neg hq]
        have hin : ¬ inK a b st k l = [] := by
          intro h
          rw [h] at e4
          exact hq e4.symm
        rw [if_neg hin, ih, ht, hks]
/-- What the document's Windows tells. -/
def rwinB (op : Int) (l : List Smp) (a b st : Int) : Int × List Smp :=
  if (!okB op l.length || !spanB a b || decide (st < 1)) = true then (1, [])
  else if 1024 < manyI a b st then (8, [])
  else rGo op a b st l (manyI a b st).toNat 0 []
theorem long_is {a b st : Int} (h : a ≤ b) (hs : 1 ≤ st) : longB a b st = decide (1024 < manyI a b st) := by
  unfold longB manyI
  rw [decide_eq_decide]
  by_cases h0 : a = b
  · subst h0
    have h1 : (a - a - 1) / st = -1 := by
      have := (div_is (x := a - a - 1) (k := -1) hs).2 (by omega)
      exact this
    have h2 : ¬ 1024 ≤ (a - a - 1).tdiv st := by
      have e : a - a - 1 = -1 := by omega
      rw [e, Int.neg_tdiv, Int.tdiv_eq_ediv_of_nonneg (by decide)]
      have := Int.ediv_nonneg (show (0 : Int) ≤ 1 by decide) (show 0 ≤ st by omega)
      omega
    omega
  · rw [Int.tdiv_eq_ediv_of_nonneg (by omega)]
    omega
theorem windows_same {op : Int} {l : List Smp} {a b st : Int} (hsrt : Srt l) : windowsB op l a b st = rwinB op l a b st := by
  unfold windowsB rwinB
  by_cases h1 : (!okB op l.length || !spanB a b || decide (st < 1)) = true
  · rw [if_pos h1, if_pos h1]
  · rw [if_neg h1, if_neg h1]
    simp only [Bool.or_eq_true, Bool.not_eq_true', decide_eq_true_eq, not_or] at h1
    obtain ⟨⟨_, h4⟩, h5⟩ := h1
    have h4 : spanB a b = true := by simpa using h4
    unfold spanB at h4
    simp at h4
    have hab : a ≤ b := by omega
    rw [long_is hab (by omega)]
    by_cases h2 : 1024 < manyI a b st
    · rw [if_pos (decide_eq_true h2), if_pos h2]
    · rw [if_neg (by rw [decide_eq_false h2]; decide), if_neg h2, drop_filter hsrt]
      have hg := many_ge hab (show 1 ≤ st by omega)
      have hz := many_lt (a := a) (b := b) (k := 0) (show 1 ≤ st by omega)
      exact go_same (by omega) hsrt _ _ 0 a [] (Int.le_refl _) (by omega) (Nat.le_refl _) (fun h => by omega) (fun _ => by omega)
end Go.Proofs.YtcfbcidakddhfaaGreatDoor
