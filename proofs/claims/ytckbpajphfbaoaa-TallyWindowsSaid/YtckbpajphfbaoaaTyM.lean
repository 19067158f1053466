/- What is told of samples: the mathematics. -/
import Derived.Test.YtckbpajphfbaoaaEl2
import Derived.Test.YtckbpajphfbaoaaSlK
import Derived.Test.YtckbpajphfbaoaaTn0
namespace Go.Proofs.Ytckbpajphfbaoaa
open Go.RowKit

abbrev Smp := Int × Int
def encS (x : Smp) : List Value := [.int .i64 x.1, .int .i64 x.2]
abbrev agS (x : Smp) : Value := .agg #[.int .i64 x.1, .int .i64 x.2]
theorem encS_len (x : Smp) : (encS x).length = 2 := rfl
theorem encS_one (x : Smp) : ∀ u ∈ encS x, u.oneCell' = true := by intro u hu; simp [encS] at hu; rcases hu with rfl | rfl <;> rfl
structure Sok (x : Smp) : Prop where
  t0 : -9223372036854775808 ≤ x.1
  t1 : x.1 ≤ 9223372036854775807
  n0 : -9223372036854775808 ≤ x.2
  n1 : x.2 ≤ 9223372036854775807

/-- The sum of the numbers. -/
def sumI : List Smp → Int
  | [] => 0
  | x :: r => x.2 + sumI r
def upI : List Smp → Int
  | [] => 0
  | x :: r => x.2 / 4294967296 + upI r
def loI : List Smp → Int
  | [] => 0
  | x :: r => x.2 % 4294967296 + loI r
theorem sumI_app (a b : List Smp) : sumI (a ++ b) = sumI a + sumI b := by
  induction a with
  | nil => simp [sumI]
  | cons x a ih => simp only [List.cons_append, sumI, ih]; omega
theorem upI_app (a b : List Smp) : upI (a ++ b) = upI a + upI b := by
  induction a with
  | nil => simp [upI]
  | cons x a ih => simp only [List.cons_append, upI, ih]; omega
theorem loI_app (a b : List Smp) : loI (a ++ b) = loI a + loI b := by
  induction a with
  | nil => simp [loI]
  | cons x a ih => simp only [List.cons_append, loI, ih]; omega
theorem up_lo (a : List Smp) : sumI a = upI a * 4294967296 + loI a := by
  induction a with
  | nil => simp [sumI, upI, loI]
  | cons x a ih => simp only [sumI, upI, loI, ih]; omega
theorem up_bound (a : List Smp) (h : ∀ x ∈ a, Sok x) : -2147483648 * (a.length : Int) ≤ upI a ∧ upI a ≤ 2147483648 * (a.length : Int) := by
  induction a with
  | nil => simp [upI]
  | cons x a ih =>
    have h1 := h x (List.mem_cons_self ..)
    have h2 := ih fun y hy => h y (List.mem_cons_of_mem _ hy)
    have := h1.n0; have := h1.n1
    simp only [upI, List.length_cons]
    omega
theorem lo_bound (a : List Smp) : 0 ≤ loI a ∧ loI a ≤ 4294967296 * (a.length : Int) := by
  induction a with
  | nil => simp [loI]
  | cons x a ih => simp only [loI, List.length_cons]; omega
theorem sumI_perm {a b : List Smp} (h : a.Perm b) : sumI a = sumI b := by
  induction h with
  | nil => rfl
  | cons x _ ih => simp [sumI, ih]
  | swap x y l => simp only [sumI]; omega
  | trans _ _ h1 h2 => exact h1.trans h2

/-- The first one of those that no other one is better than. -/
def bestN (lt : Int → Int → Bool) : List Smp → Smp
  | [] => (0, 0)
  | x :: r => r.foldl (fun m y => if lt y.2 m.2 then y else m) x
theorem bestN_next (lt : Int → Int → Bool) {l : List Smp} {t : Nat} (h0 : 0 < t) (ht : t < l.length) : bestN lt (l.take (t + 1)) = if lt l[t].2 (bestN lt (l.take t)).2 then l[t] else bestN lt (l.take t) := by
  rw [List.take_succ_eq_append_getElem ht]
  cases l with
  | nil => simp at ht
  | cons x l =>
    obtain ⟨s, rfl⟩ : ∃ s, t = s + 1 := ⟨t - 1, by omega⟩
    simp only [List.take_succ_cons, List.getElem_cons_succ, List.cons_append, bestN, List.foldl_append, List.foldl_cons, List.foldl_nil]
    rfl
def ltI (a b : Int) : Bool := decide (a < b)
def gtI (a b : Int) : Bool := decide (b < a)
def leastI (l : List Smp) : Int := (bestN ltI l).2
def mostI (l : List Smp) : Int := (bestN gtI l).2
def IsLeast (l : List Smp) (m : Int) : Prop := (∃ x ∈ l, x.2 = m) ∧ ∀ x ∈ l, m ≤ x.2
def IsMost (l : List Smp) (m : Int) : Prop := (∃ x ∈ l, x.2 = m) ∧ ∀ x ∈ l, x.2 ≤ m
theorem IsLeast.uniq {l : List Smp} {m n : Int} (h : IsLeast l m) (k : IsLeast l n) : m = n := by
  obtain ⟨⟨x, hx, rfl⟩, h2⟩ := h
  obtain ⟨⟨y, hy, rfl⟩, k2⟩ := k
  have := h2 y hy; have := k2 x hx
  omega
theorem IsMost.uniq {l : List Smp} {m n : Int} (h : IsMost l m) (k : IsMost l n) : m = n := by
  obtain ⟨⟨x, hx, rfl⟩, h2⟩ := h
  obtain ⟨⟨y, hy, rfl⟩, k2⟩ := k
  have := h2 y hy; have := k2 x hx
  omega
theorem fold_least (r : List Smp) : ∀ x : Smp, IsLeast (x :: r) (r.foldl (fun m y => if ltI y.2 m.2 then y else m) x).2 := by
  induction r with
  | nil => intro x; exact ⟨⟨x, by simp, rfl⟩, by simp⟩
  | cons y r ih =>
    intro x
    simp only [List.foldl_cons]
    by_cases h : ltI y.2 x.2 = true
    · rw [if_pos h]
      have := ih y
      obtain ⟨⟨z, hz, e⟩, h2⟩ := this
      refine ⟨⟨z, by simp at hz ⊢; rcases hz with h | h <;> simp [h], e⟩, fun u hu => ?_⟩
      have hy := h2 y (by simp)
      simp [ltI] at h
      rcases List.mem_cons.1 hu with rfl | hu
      · omega
      · exact h2 u hu
    · rw [if_neg h]
      have := ih x
      obtain ⟨⟨z, hz, e⟩, h2⟩ := this
      refine ⟨⟨z, by simp at hz ⊢; rcases hz with h | h <;> simp [h], e⟩, fun u hu => ?_⟩
      have hy := h2 x (by simp)
      simp [ltI] at h
      rcases List.mem_cons.1 hu with rfl | hu
      · exact hy
      · rcases List.mem_cons.1 hu with rfl | hu
        · omega
        · exact h2 u (List.mem_cons_of_mem _ hu)
theorem fold_most (r : List Smp) : ∀ x : Smp, IsMost (x :: r) (r.foldl (fun m y => if gtI y.2 m.2 then y else m) x).2 := by
  induction r with
  | nil => intro x; exact ⟨⟨x, by simp, rfl⟩, by simp⟩
  | cons y r ih =>
    intro x
    simp only [List.foldl_cons]
    by_cases h : gtI y.2 x.2 = true
    · rw [if_pos h]
      have := ih y
      obtain ⟨⟨z, hz, e⟩, h2⟩ := this
      refine ⟨⟨z, by simp at hz ⊢; rcases hz with h | h <;> simp [h], e⟩, fun u hu => ?_⟩
      have hy := h2 y (by simp)
      simp [gtI] at h
      rcases List.mem_cons.1 hu with rfl | hu
      · omega
      · exact h2 u hu
    · rw [if_neg h]
      have := ih x
      obtain ⟨⟨z, hz, e⟩, h2⟩ := this
      refine ⟨⟨z, by simp at hz ⊢; rcases hz with h | h <;> simp [h], e⟩, fun u hu => ?_⟩
      have hy := h2 x (by simp)
      simp [gtI] at h
      rcases List.mem_cons.1 hu with rfl | hu
      · exact hy
      · rcases List.mem_cons.1 hu with rfl | hu
        · omega
        · exact h2 u (List.mem_cons_of_mem _ hu)
theorem least_is {l : List Smp} (h : l ≠ []) : IsLeast l (leastI l) := by
  cases l with
  | nil => exact absurd rfl h
  | cons x r => exact fold_least r x
theorem most_is {l : List Smp} (h : l ≠ []) : IsMost l (mostI l) := by
  cases l with
  | nil => exact absurd rfl h
  | cons x r => exact fold_most r x
theorem perm_ne {a b : List Smp} (h : a.Perm b) (ha : a ≠ []) : b ≠ [] := by
  rintro rfl
  exact ha h.eq_nil
theorem least_perm {a b : List Smp} (h : a.Perm b) (ha : a ≠ []) : leastI a = leastI b := by
  obtain ⟨⟨x, hx, e⟩, h2⟩ := least_is (perm_ne h ha)
  exact (least_is ha).uniq ⟨⟨x, h.mem_iff.2 hx, e⟩, fun y hy => h2 y (h.mem_iff.1 hy)⟩
theorem most_perm {a b : List Smp} (h : a.Perm b) (ha : a ≠ []) : mostI a = mostI b := by
  obtain ⟨⟨x, hx, e⟩, h2⟩ := most_is (perm_ne h ha)
  exact (most_is ha).uniq ⟨⟨x, h.mem_iff.2 hx, e⟩, fun y hy => h2 y (h.mem_iff.1 hy)⟩
theorem least_app {a b : List Smp} (ha : a ≠ []) (hb : b ≠ []) : leastI (a ++ b) = min (leastI a) (leastI b) := by
  obtain ⟨⟨x, hx, e⟩, h2⟩ := least_is ha
  obtain ⟨⟨y, hy, f⟩, k2⟩ := least_is hb
  refine (least_is (by simp [ha])).uniq ⟨?_, fun z hz => ?_⟩
  · by_cases h : leastI a ≤ leastI b
    · exact ⟨x, by simp [hx], by omega⟩
    · exact ⟨y, by simp [hy], by omega⟩
  · rcases List.mem_append.1 hz with h | h
    · have := h2 z h; omega
    · have := k2 z h; omega
theorem most_app {a b : List Smp} (ha : a ≠ []) (hb : b ≠ []) : mostI (a ++ b) = max (mostI a) (mostI b) := by
  obtain ⟨⟨x, hx, e⟩, h2⟩ := most_is ha
  obtain ⟨⟨y, hy, f⟩, k2⟩ := most_is hb
  refine (most_is (by simp [ha])).uniq ⟨?_, fun z hz => ?_⟩
  · by_cases h : leastI a ≤ leastI b
    · by_cases h : mostI b ≤ mostI a
      · exact ⟨x, by simp [hx], by omega⟩
      · exact ⟨y, by simp [hy], by omega⟩
    · by_cases h : mostI b ≤ mostI a
      · exact ⟨x, by simp [hx], by omega⟩
      · exact ⟨y, by simp [hy], by omega⟩
  · rcases List.mem_append.1 hz with h | h
    · have := h2 z h; omega
    · have := k2 z h; omega

def firstI (l : List Smp) : Int := (l.getD 0 (0, 0)).2
def lastI (l : List Smp) : Int := (l.getD (l.length - 1) (0, 0)).2
/-- A number that may be told, or why not. -/
def rangeB (s : Int) : Int × Int := if -9223372036854775808 ≤ s ∧ s ≤ 9223372036854775807 then (s, 0) else (0, 20)
def toldB (op : Int) (l : List Smp) : Int × Int :=
  if op = 1 then rangeB (sumI l) else if op = 2 then ((l.length : Int), 0) else if op = 3 then (leastI l, 0) else if op = 4 then (mostI l, 0) else rangeB (lastI l - firstI l)
def badB (op : Int) (l : List Smp) : Bool := !(decide (1 ≤ op) && decide (op ≤ 5) && decide ((l.length : Int) ≤ 65536))
def foldB (op : Int) (l : List Smp) : Int × Bool × Int :=
  if badB op l = true then (0, false, 1) else if l = [] then (0, (op == 2), 0) else ((toldB op l).1, ((toldB op l).2 == 0), (toldB op l).2)
theorem shr32 (x : Int) : x.fdiv 4294967296 = x / 4294967296 := Int.fdiv_eq_ediv_of_nonneg _ (by decide)
theorem and32 (x : Int) : bits .and .i64 x 4294967295 = x % 4294967296 := by
  have e : (BitVec.ofInt 64 x &&& BitVec.ofInt 64 4294967295).toNat = ((x % 18446744073709551616).toNat) % 4294967296 := by
    rw [BitVec.toNat_and, BitVec.toNat_ofInt, BitVec.toNat_ofInt]
    have : ((4294967295 : Int) % ((2 ^ 64 : Nat) : Int)).toNat = 2 ^ 32 - 1 := by decide
    rw [this, Nat.and_two_pow_sub_one_eq_mod]
    rfl
  show IntKind.i64.wrap (((BitVec.ofInt 64 x &&& BitVec.ofInt 64 4294967295).toNat : Nat) : Int) = _
  rw [e, IntKind.wrap_i64] <;> omega
end Go.Proofs.Ytckbpajphfbaoaa
