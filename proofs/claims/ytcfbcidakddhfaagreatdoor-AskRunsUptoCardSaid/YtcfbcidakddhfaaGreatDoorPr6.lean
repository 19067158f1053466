/- The law's From. -/
import Derived.Test.YtcfbcidakddhfaaGreatDoorPr4
import Derived.Test.YtcfbcidakddhfaaGreatDoorPr5
import Derived.Test.YtcfbcidakddhfaaGreatDoorPr1
import Derived.Laws.BytesArg
namespace Go.Proofs.YtcfbcidakddhfaaGreatDoor
open Go.RowKit

abbrev Smp := Int × Int
def encSm (x : Smp) : List Value := [.int .i64 x.1, .int .i64 x.2]
abbrev agS (x : Smp) : Value := .agg #[.int .i64 x.1, .int .i64 x.2]
theorem encSm_len (x : Smp) : (encSm x).length = 2 := rfl
theorem encSm_one (x : Smp) : ∀ u ∈ encSm x, u.oneCell' = true := by intro u hu; simp [encSm] at hu; rcases hu with rfl | rfl <;> rfl
structure Sok (x : Smp) : Prop where
  t0 : -9223372036854775808 ≤ x.1
  t1 : x.1 ≤ 9223372036854775807
  n0 : -9223372036854775808 ≤ x.2
  n1 : x.2 ≤ 9223372036854775807

/-- The sum of the numbers. -/
def sumI : List Smp → Int
  | [] => 0
  | x :: r => x.2 + sumI r
def upI : List Smp → Int
  | [] => 0
  | x :: r => x.2 / 4294967296 + upI r
def loI : List Smp → Int
  | [] => 0
  | x :: r => x.2 % 4294967296 + loI r
theorem sumI_app (a b : List Smp) : sumI (a ++ b) = sumI a + sumI b := by
  induction a with
  | nil => simp [sumI]
  | cons x a ih => simp only [List.cons_append, sumI, ih]; omega
theorem upI_app (a b : List Smp) : upI (a ++ b) = upI a + upI b := by
  induction a with
  | nil => simp [upI]
  | cons x a ih => simp only [List.cons_append, upI, ih]; omega
theorem loI_app (a b : List Smp) : loI (a ++ b) = loI a + loI b := by
  induction a with
  | nil => simp [loI]
  | cons x a ih => simp only [List.cons_append, loI, ih]; omega
theorem up_lo (a : List Smp) : sumI a = upI a * 4294967296 + loI a := by
  induction a with
  | nil => simp [sumI, upI, loI]
  | cons x a ih => simp only [sumI, upI, loI, ih]; omega
theorem up_bound (a : List Smp) (h : ∀ x ∈ a, Sok x) : -2147483648 * (a.length : Int) ≤ upI a ∧ upI a ≤ 2147483648 * (a.length : Int) := by
  induction a with
  | nil => simp [upI]
  | cons x a ih =>
    have h1 := h x (List.mem_cons_self ..)
    have h2 := ih fun y hy => h y (List.mem_cons_of_mem _ hy)
    have := h1.n0; have := h1.n1
    simp only [upI, List.length_cons]
    omega
theorem lo_bound (a : List Smp) : 0 ≤ loI a ∧ loI a ≤ 4294967296 * (a.length : Int) := by
  induction a with
  | nil => simp [loI]
  | cons x a ih => simp only [loI, List.length_cons]; omega
theorem sumI_perm {a b : List Smp} (h : a.Perm b) : sumI a = sumI b := by
  induction h with
  | nil => rfl
  | cons x _ ih => simp [sumI, ih]
  | swap x y l => simp only [sumI]; omega
  | trans _ _ h1 h2 => exact h1.trans h2

/-- The first one of those that no other one is better than. -/
def bestN (lt : Int → Int → Bool) : List Smp → Smp
  | [] => (0, 0)
  | x :: r => r.foldl (fun m y => if lt y.2 m.2 then y else m) x
theorem bestN_next (lt : Int → Int → Bool) {l : List Smp} {t : Nat} (h0 : 0 < t) (ht : t < l.length) : bestN lt (l.take (t + 1)) = if lt l[t].2 (bestN lt (l.take t)).2 then l[t] else bestN lt (l.take t) := by
  rw [List.take_succ_eq_append_getElem ht]
  cases l with
  | nil => simp at ht
  | cons x l =>
    obtain ⟨s, rfl⟩ : ∃ s, t = s + 1 := ⟨t - 1, by omega⟩
    simp only [List.take_succ_cons, List.getElem_cons_succ, List.cons_append, bestN, List.foldl_append, List.foldl_cons, List.foldl_nil]
    rfl
def ltI (a b : Int) : Bool := decide (a < b)
def gtI (a b : Int) : Bool := decide (b < a)
def leastI (l : List Smp) : Int := (bestN ltI l).2
def mostI (l : List Smp) : Int := (bestN gtI l).2
def IsLeast (l : List Smp) (m : Int) : Prop := (∃ x ∈ l, x.2 = m) ∧ ∀ x ∈ l, m ≤ x.2
def IsMost (l : List Smp) (m : Int) : Prop := (∃ x ∈ l, x.2 = m) ∧ ∀ x ∈ l, x.2 ≤ m
theorem IsLeast.uniq {l : List Smp} {m n : Int} (h : IsLeast l m) (k : IsLeast l n) : m = n := by
  obtain ⟨⟨x, hx, rfl⟩, h2⟩ := h
  obtain ⟨⟨y, hy, rfl⟩, k2⟩ := k
  have := h2 y hy; have := k2 x hx
  omega
theorem IsMost.uniq {l : List Smp} {m n : Int} (h : IsMost l m) (k : IsMost l n) : m = n := by
  obtain ⟨⟨x, hx, rfl⟩, h2⟩ := h
  obtain ⟨⟨y, hy, rfl⟩, k2⟩ := k
  have := h2 y hy; have := k2 x hx
  omega
theorem fold_least (r : List Smp) : ∀ x : Smp, IsLeast (x :: r) (r.foldl (fun m y => if ltI y.2 m.2 then y else m) x).2 := by
  induction r with
  | nil => intro x; exact ⟨⟨x, by simp, rfl⟩, by simp⟩
  | cons y r ih =>
    intro x
    simp only [List.foldl_cons]
    by_cases h : ltI y.2 x.2 = true
    · rw [if_pos h]
      have := ih y
      obtain ⟨⟨z, hz, e⟩, h2⟩ := this
      refine ⟨⟨z, by simp at hz ⊢; rcases hz with h | h <;> simp [h], e⟩, fun u hu => ?_⟩
      have hy := h2 y (by simp)
      simp [ltI] at h
      rcases List.mem_cons.1 hu with rfl | hu
      · omega
      · exact h2 u hu
    · rw [if_neg h]
      have := ih x
      obtain ⟨⟨z, hz, e⟩, h2⟩ := this
      refine ⟨⟨z, by simp at hz ⊢; rcases hz with h | h <;> simp [h], e⟩, fun u hu => ?_⟩
      have hy := h2 x (by simp)
      simp [ltI] at h
      rcases List.mem_cons.1 hu with rfl | hu
      · exact hy
      · rcases List.mem_cons.1 hu with rfl | hu
        · omega
        · exact h2 u (List.mem_cons_of_mem _ hu)
theorem fold_most (r : List Smp) : ∀ x : Smp, IsMost (x :: r) (r.foldl (fun m y => if gtI y.2 m.2 then y else m) x).2 := by
  induction r with
  | nil => intro x; exact ⟨⟨x, by simp, rfl⟩, by simp⟩
  | cons y r ih =>
    intro x
    simp only [List.foldl_cons]
    by_cases h : gtI y.2 x.2 = true
    · rw [if_pos h]
      have := ih y
      obtain ⟨⟨z, hz, e⟩, h2⟩ := this
      refine ⟨⟨z, by simp at hz ⊢; rcases hz with h | h <;> simp [h], e⟩, fun u hu => ?_⟩
      have hy := h2 y (by simp)
      simp [gtI] at h
      rcases List.mem_cons.1 hu with rfl | hu
      · omega
      · exact h2 u hu
    · rw [if_neg h]
      have := ih x
      obtain ⟨⟨z, hz, e⟩, h2⟩ := this
      refine ⟨⟨z, by simp at hz ⊢; rcases hz with h | h <;> simp [h], e⟩, fun u hu => ?_⟩
      have hy := h2 x (by simp)
      simp [gtI] at h
      rcases List.mem_cons.1 hu with rfl | hu
      · exact hy
      · rcases List.mem_cons.1 hu with rfl | hu
        · omega
        · exact h2 u (List.mem_cons_of_mem _ hu)
theorem least_is {l : List Smp} (h : l ≠ []) : IsLeast l (leastI l) := by
  cases l with
  | nil => exact absurd rfl h
  | cons x r => exact fold_least r x
theorem most_is {l : List Smp} (h : l ≠ []) : IsMost l (mostI l) := by
  cases l with
  | nil => exact absurd rfl h
  | cons x r => exact fold_most r x
theorem perm_ne {a b : List Smp} (h : a.Perm b) (ha : a ≠ []) : b ≠ [] := by
  rintro rfl
  exact ha h.eq_nil
theorem least_perm {a b : List Smp} (h : a.Perm b) (ha : a ≠ []) : leastI a = leastI b := by
  obtain ⟨⟨x, hx, e⟩, h2⟩ := least_is (perm_ne h ha)
  exact (least_is ha).uniq ⟨⟨x, h.mem_iff.2 hx, e⟩, fun y hy => h2 y (h.mem_iff.1 hy)⟩
theorem most_perm {a b : List Smp} (h : a.Perm b) (ha : a ≠ []) : mostI a = mostI b := by
  obtain ⟨⟨x, hx, e⟩, h2⟩ := most_is (perm_ne h ha)
  exact (most_is ha).uniq ⟨⟨x, h.mem_iff.2 hx, e⟩, fun y hy => h2 y (h.mem_iff.1 hy)⟩
theorem least_app {a b : List Smp} (ha : a ≠ []) (hb : b ≠ []) : leastI (a ++ b) = min (leastI a) (leastI b) := by
  obtain ⟨⟨x, hx, e⟩, h2⟩ := least_is ha
  obtain ⟨⟨y, hy, f⟩, k2⟩ := least_is hb
  refine (least_is (by simp [ha])).uniq ⟨?_, fun z hz => ?_⟩
  · by_cases h : leastI a ≤ leastI b
    · exact ⟨x, by simp [hx], by omega⟩
    · exact ⟨y, by simp [hy], by omega⟩
  · rcases List.mem_append.1 hz with h | h
    · have := h2 z h; omega
    · have := k2 z h; omega
theorem most_app {a b : List Smp} (ha : a ≠ []) (hb : b ≠ []) : mostI (a ++ b) = max (mostI a) (mostI b) := by
  obtain ⟨⟨x, hx, e⟩, h2⟩ := most_is ha
  obtain ⟨⟨y, hy, f⟩, k2⟩ := most_is hb
  refine (most_is (by simp [ha])).uniq ⟨?_, fun z hz => ?_⟩
  · by_cases h : leastI a ≤ leastI b
    · by_cases h : mostI b ≤ mostI a
      · exact ⟨x, by simp [hx], by omega⟩
      · exact ⟨y, by simp [hy], by omega⟩
    · by_cases h : mostI b ≤ mostI a
      · exact ⟨x, by simp [hx], by omega⟩
      · exact ⟨y, by simp [hy], by omega⟩
  · rcases List.mem_append.1 hz with h | h
    · have := h2 z h; omega
    · have := k2 z h; omega

def firstI (l : List Smp) : Int := (l.getD 0 (0, 0)).2
def lastI (l : List Smp) : Int := (l.getD (l.length - 1) (0, 0)).2
/-- A number that may be told, or why not. -/
def rangeB (s : Int) : Int × Int := if -9223372036854775808 ≤ s ∧ s ≤ 9223372036854775807 then (s, 0) else (0, 20)
def toldB (op : Int) (l : List Smp) : Int × Int :=
  if op = 1 then rangeB (sumI l) else if op = 2 then ((l.length : Int), 0) else if op = 3 then (leastI l, 0) else if op = 4 then (mostI l, 0) else rangeB (lastI l - firstI l)
def badB (op : Int) (l : List Smp) : Bool := !(decide (1 ≤ op) && decide (op ≤ 5) && decide ((l.length : Int) ≤ 65536))
def foldB (op : Int) (l : List Smp) : Int × Bool × Int :=
  if badB op l = true then (0, false, 1) else if l = [] then (0, (op == 2), 0) else ((toldB op l).1, ((toldB op l).2 == 0), (toldB op l).2)
theorem shr32 (x : Int) : x.fdiv 4294967296 = x / 4294967296 := Int.fdiv_eq_ediv_of_nonneg _ (by decide)
theorem and32 (x : Int) : bits .and .i64 x 4294967295 = x % 4294967296 := by
  have e : (BitVec.ofInt 64 x &&& BitVec.ofInt 64 4294967295).toNat = ((x % 18446744073709551616).toNat) % 4294967296 := by
    rw [BitVec.toNat_and, BitVec.toNat_ofInt, BitVec.toNat_ofInt]
    have : ((4294967295 : Int) % ((2 ^ 64 : Nat) : Int)).toNat = 2 ^ 32 - 1 := by decide
    rw [this, Nat.and_two_pow_sub_one_eq_mod]
    rfl
  show IntKind.i64.wrap (((BitVec.ofInt 64 x &&& BitVec.ofInt 64 4294967295).toNat : Nat) : Int) = _
  rw [e, IntKind.wrap_i64] <;> omega
end Go.Proofs.YtcfbcidakddhfaaGreatDoor
namespace Go.Proofs.YtcfbcidakddhfaaGreatDoor
open Go.RowKit

def nilP : Pp := (⟨#[]⟩, ⟨#[]⟩)
/-- All texts of modest length. -/
def Sm (l : List Pp) : Prop := ∀ x ∈ l, x.1.size ≤ 1048576 ∧ x.2.size ≤ 1048576
theorem Sm.at_ {l : List Pp} (h : Sm l) (k : Nat) : (l.getD k nilP).1.size ≤ 1048576 ∧ (l.getD k nilP).2.size ≤ 1048576 := by
  rcases Nat.lt_or_ge k l.length with hk | hk
  · rw [List.getD_eq_getElem?_getD, List.getElem?_eq_getElem hk]
    exact h _ (List.getElem_mem hk)
  · rw [List.getD_eq_getElem?_getD, List.getElem?_eq_none hk]
    exact ⟨by decide, by decide⟩
theorem lr_at {w : World} {K cap : Nat} {A : Option Addr} {l : List Pp} (h : Lr w K A cap l) {i : Nat} (hi : i < l.length) : ∃ ad : Addr, A = some ad ∧ ad.block < K ∧ w.cell? (ad.add (i * 2)) = some (.string (l.getD i nilP).1) ∧ w.cell? ⟨(ad.add (i * 2)).block, (ad.add (i * 2)).off + 1, none⟩ = some (.string (l.getD i nilP).2) := by
  have := lr_cells h hi
  rw [List.getD_eq_getElem?_getD, List.getElem?_eq_getElem hi]
  exact this
def ltB (a b : ByteArray) : Bool := Op.bytesLess a.toList b.toList
def stepB (first : Bool) (pn xn xv : ByteArray) : Bool := nameB xn && valB xv && (first || ltB pn xn)
def stepC (l : List Pp) (i : Nat) : Bool := stepB (decide (i = 0)) (l.getD (i - 1) nilP).1 (l.getD i nilP).1 (l.getD i nilP).2
def rightTo (l : List Pp) (k : Nat) : Bool := (List.range k).all fun i => stepC l i
theorem rightTo_zero (l : List Pp) : rightTo l 0 = true := rfl
theorem rightTo_succ (l : List Pp) (k : Nat) : rightTo l (k + 1) = (rightTo l k && stepC l k) := by simp [rightTo, List.range_succ]
theorem rightTo_false {l : List Pp} {k n : Nat} (h : stepC l k = false) (hk : k < n) : rightTo l n = false := by
  simp only [rightTo, List.all_eq_false, List.mem_range]
  exact ⟨k, hk, by simp [h]⟩
def rightL (l : List Pp) : Bool := decide (l.length ≤ 16) && rightTo l l.length
theorem rightL_many {l : List Pp} (h : 16 < l.length) : rightL l = false := by
  have : ¬ l.length ≤ 16 := by omega
  simp [rightL, this]
theorem rightL_of {l : List Pp} (h : l.length ≤ 16) : rightL l = rightTo l l.length := by simp [rightL, h]

/-- Do two neighbours have one name? -/
def twC (l : List Pp) (i : Nat) : Bool := (l.getD i nilP).1.toList == (l.getD (i + 1) nilP).1.toList
def twTo (l : List Pp) (k : Nat) : Bool := (List.range k).any fun i => twC l i
theorem twTo_zero (l : List Pp) : twTo l 0 = false := rfl
theorem twTo_succ (l : List Pp) (k : Nat) : twTo l (k + 1) = (twTo l k || twC l k) := by simp [twTo, List.range_succ]
theorem twTo_true {l : List Pp} {k n : Nat} (h : twC l k = true) (hk : k < n) : twTo l n = true := by
  simp only [twTo, List.any_eq_true, List.mem_range]
  exact ⟨k, hk, h⟩
def twL (l : List Pp) : Bool := twTo l (l.length - 1)

def getL (l : List Pp) (n : ByteArray) : ByteArray := match l with
  | [] => ⟨#[]⟩
  | x :: l => if x.1.toList == n.toList then x.2 else getL l n
theorem getL_drop {l : List Pp} {k : Nat} (h : k < l.length) (n : ByteArray) : getL (l.drop k) n = if (l.getD k nilP).1.toList == n.toList then (l.getD k nilP).2 else getL (l.drop (k + 1)) n := by
  rw [List.drop_eq_getElem_cons h, getL, List.getD_eq_getElem?_getD, List.getElem?_eq_getElem h]
  rfl
end Go.Proofs.YtcfbcidakddhfaaGreatDoor
namespace Go.Proofs.YtcfbcidakddhfaaGreatDoor
open Go.RowKit

def stepOr (b : Bool) (p q : Prop) : Prop := match b with | true => p | false => q
/-- What the kernel reckons: the operation n waits for all others. -/
def lastAll (ops : Array Oper) (n : Nat) : Bool := (ops.size == n + 1) && (List.range n).all fun i => reach ops ops.size i n
theorem region_VS {P : Program} {Q : Exit → Act → World → Prop} {ops : Array Oper} {id : Nat} {a0 : Act} {w0 : World} {ι : Type} (holds : ι → Value → World → Prop) (G E : World → Prop) (n : Nat) (xs : List ι) (d : ι)
    (mono : ∀ p v w w', holds p v w → Below w.heap.size w w' → holds p v w')
    (F : (Nat → Value) → Act) (hF : ∀ vs, F vs = putAll vs 0 ops.toList a0) (hm : P.follows .mixedOrders = true) (hf : fitsR ops = true) (hl : lastAll ops n = true)
    (hQ : ∀ c (x y : Act) w, x.defers = y.defers → Q (.panic c) x w → Q (.panic c) y w)
    (h0 : G w0.drew)
    (hstep : AllOps (fun i o => ∀ vs w, G w → AllD (fun j => holds (xs.getD j d) (vs j) w) (depsOf o) →
      ∀ K : Act → World → Prop, stepOr (Nat.beq i n) (∀ v w', E w' → K ((F vs).put o.dst v) w') (∀ v w', Below w.heap.size w w' → G w' → holds (xs.getD i d) v w' → K ((F vs).put o.dst v) w') →
        if Region.wanted o (yielded ops (F vs).tmps) = true then Oper.wp P o (F vs) w K Q else K ((F vs).put o.dst undef) w) 0 ops.toList)
    (hend : ∀ vs w, E w → Q .normal (F vs) w) :
    (Code.region id ops true).wp P Q a0 w0 := by
  simp only [lastAll, Bool.and_eq_true, beq_iff_eq, List.all_eq_true, List.mem_range] at hl
  obtain ⟨hsz, hlast⟩ := hl
  refine region_inv hm hf F hF hQ (fun l vs w => (∀ j, l j = true → ∀ e ∈ depsAt ops j, l e = true) ∧ (l n = true → E w) ∧ (l n = false → G w ∧ ∀ i, l i = true → holds (xs.getD i d) (vs i) w))
    ⟨(fun _ h => by cases h), (fun h => by cases h), fun _ => ⟨h0, (fun _ h => by cases h)⟩⟩ ?_ (fun l vs w hl hJ => hend vs w (hJ.2.1 (hl n (by omega))))
  intro i o ho l vs w ⟨hC, hE, hG⟩ hli hall K hK
  have hi : i < ops.size := (Array.getElem?_eq_some_iff.1 ho).1
  have hd := mem_deps ho hall
  have hC' : ∀ j, updR l i true j = true → ∀ e ∈ depsAt ops j, updR l i true e = true := fun j hj e he => by
    by_cases hei : e = i
    · subst hei; rw [updR_same]
    · rw [updR_ne _ _ hei]
      by_cases hji : j = i
      · subst hji; exact hd e he
      · rw [updR_ne _ _ hji] at hj; exact hC j hj e he
  have hn : l n = false := by
    cases hln : l n with
    | false => rfl
    | true =>
      by_cases e : i = n
      · subst e; rw [hli] at hln; cases hln
      · have := reach_up hC ops.size i n (hC n hln) (hlast i (by omega))
        rw [hli] at this
        cases this
  obtain ⟨hg, hh⟩ := hG hn
  have ho' : ops.toList[i]? = some o := by rw [Array.getElem?_toList]; exact ho
  have go := hstep.get ho'
  rw [Nat.zero_add] at go
  have hdep : AllD (fun j => holds (xs.getD j d) (vs j) w) (depsOf o) := by
    have hdo : depsAt ops i = depsOf o := by simp [depsAt, ho]
    rw [hdo] at hd
    exact AllD.of (fun j hj => hh j hj) (AllL.mk hd)
  refine go vs w hg hdep K ?_
  by_cases e : i = n
  · subst e
    have hb : Nat.beq i i = true := Nat.beq_refl i
    rw [hb]
    exact fun v w' hw => hK v w' ⟨hC', fun _ => hw, fun h => by rw [updR_same] at h; cases h⟩
  · have hb : Nat.beq i n = false := by
      cases h : Nat.beq i n with
      | false => rfl
      | true => exact absurd (Nat.eq_of_beq_eq_true h) e
    rw [hb]
    refine fun v w' hbl hG' hv => hK v w' ⟨hC', fun h => ?_, fun _ => ⟨hG', fun j hj => ?_⟩⟩
    · rw [updR_ne _ _ (Ne.symm e), hn] at h; cases h
    · by_cases ej : j = i
      · subst ej; rw [updR_same]; exact hv
      · rw [updR_ne _ _ ej] at hj ⊢
        exact mono _ _ _ _ (hh j hj) hbl
end Go.Proofs.YtcfbcidakddhfaaGreatDoor
namespace Go.Proofs.YtcfbcidakddhfaaGreatDoor
open Go.RowKit

def strB (l : List UInt8) : ByteArray := ⟨l.toArray⟩
theorem strB_toList (l : List UInt8) : (strB l).data.toList = l := rfl
theorem strB_size (l : List UInt8) : (strB l).size = l.length := by simp [strB, ByteArray.size]

theorem bs_str {w : World} {K cap n : Nat} {A : Option Addr} {l : List UInt8} (h : Bs w K A cap l) (hn : l.length = n) : (convert 179 9 (.slice A n cap)).run Tryz.prog w = .ok (.string (strB l)) w := by
  subst hn
  by_cases hl : l = []
  · subst hl
    rcases A with _ | ad
    · exact run_convert_bytes_nil (P := Tryz.prog) w 179 5 Tryz.underlying179 Tryz.underlying5 0 cap 9 Tryz.underlying9
    · show (convert 179 9 (.slice (some ad) 0 cap)).run Tryz.prog w = _
      rw [run_convert_bytes_string w 179 9 5 _ _ _ Tryz.underlying179 Tryz.underlying5 Tryz.underlying9, run_bytesToString w ad 0 cap [] (by simpa using run_loadCells_list (P := Tryz.prog) w ad [] (fun j v hj => by simp at hj))]
      rfl
  · obtain ⟨ad, rfl, _, hc⟩ := h.at_ (List.length_pos_iff.2 hl)
    have hld : (loadCells ad l.length).run Tryz.prog w = .ok ((l.map fun c => (c.toNat : Int)).map (Value.int .u8)).toArray w := by
      have := run_loadCells_list (P := Tryz.prog) w ad (l.map bv) (fun j v hj => by
        simp only [List.getElem?_map, Option.map_eq_some_iff] at hj
        obtain ⟨c, hc', rfl⟩ := hj
        exact hc j c hc')
      rw [List.length_map] at this
      rw [List.map_map]
      exact this
    rw [run_convert_bytes_string w 179 9 5 _ _ _ Tryz.underlying179 Tryz.underlying5 Tryz.underlying9, run_bytesToString w ad l.length cap _ hld, foldl_push_bytes, List.map_map]
    have e : (l.map ((fun n : Int => UInt8.ofNat n.toNat) ∘ fun c : UInt8 => (c.toNat : Int))) = l := by
      rw [show ((fun n : Int => UInt8.ofNat n.toNat) ∘ fun c : UInt8 => (c.toNat : Int)) = id by funext c; simp, List.map_id]
    rw [e]
    simp [strB, ByteArray.empty, ByteArray.emptyWithCapacity]
    rfl
end Go.Proofs.YtcfbcidakddhfaaGreatDoor
namespace Go.Proofs.YtcfbcidakddhfaaGreatDoor
open Go.RowKit

set_option maxHeartbeats 800000 in
theorem rIsValue_any (s : ByteArray) (w : World) (hs : s.size ≤ maxLen) : Calls Tryz.prog 62 #[.string s] w fun e w' => e = .returned (.bool (valB s)) ∧ w = w' := by
  unfold maxLen at hs
  go_enter Tryz.func62, Tryz.ntmps62
  go_wp2
  go_loop [3] (fun i => ∃ k : Nat, k ≤ s.size ∧ i = .int .i64 k ∧ Hid (valTo s k = true)) (fun i => s.size - (intOf i).toNat)
  case atStart => exact ⟨0, Nat.zero_le _, rfl, Lib.hid (valTo_zero s)⟩
  case round =>
    obtain ⟨k, hk, rfl, HT⟩ := hrel
    by_cases hlt : k < s.size
    · have hb := byteAt_get s k hlt
      have HB := Lib.hid hb
      clear hb
      by_cases hc : valC ((s[k]).toNat : Int) = true
      · have HN : Hid (valTo s (k + 1) = true) := Lib.hid (by rw [valTo_succ, HT.out, ← HB.out, hc]; rfl)
        have HC := Lib.hid hc
        clear hc
        go_wp2
        all_goals first
          | (go_round
             case rel => exact ⟨k + 1, by omega, by go_num, HN⟩
             case measure => simp [intOf]; omega)
          | (exfalso; have hc := HC.out; simp [valC] at *; omega)
      · have hc : valC ((s[k]).toNat : Int) = false := by simpa using hc
        have HF : Hid (valB s = false) := Lib.hid (by unfold valB; rw [valTo_false (k := k) (by rw [← HB.out]; exact hc) hlt]; simp)
        have HC := Lib.hid hc
        clear hc
        go_wp2
        all_goals first
          | (exfalso; have hc := HC.out; simp [valC] at *; omega)
          | (go_ret; exact ⟨ret_bool HF.out.symm, rfl⟩)
    · have hks : k = s.size := by omega
      have HF : Hid (valTo s s.size = true) := Lib.hid (hks ▸ HT.out)
      clear hks
      by_cases h1 : 1 ≤ s.size
      · by_cases h2 : s.size ≤ 64
        · have HG : Hid (valB s = true) := Lib.hid (by rw [valB_of h1 h2, HF.out])
          go_wp2_with fail
          go_ret
          exact ⟨ret_bool (by first | (rw [HG.out]; done) | (rw [HG.out]; apply decide_eq_true; omega) | (rw [HG.out]; apply decide_eq_false; omega)), rfl⟩
        · have HG : Hid (valB s = false) := Lib.hid (valB_no (.inr (by omega)))
          go_wp2_with fail
          go_ret
          exact ⟨ret_bool (by first | (rw [HG.out]; done) | (rw [HG.out]; apply decide_eq_true; omega) | (rw [HG.out]; apply decide_eq_false; omega)), rfl⟩
      · have HG : Hid (valB s = false) := Lib.hid (valB_no (.inl (by omega)))
        go_wp2_with fail
        go_ret
        exact ⟨ret_bool (by first | (rw [HG.out]; done) | (rw [HG.out]; apply decide_eq_true; omega) | (rw [HG.out]; apply decide_eq_false; omega)), rfl⟩
end Go.Proofs.YtcfbcidakddhfaaGreatDoor
namespace Go.Proofs.YtcfbcidakddhfaaGreatDoor
open Go.RowKit

set_option maxHeartbeats 1600000 in
theorem from_any (K : Nat) (A : Option Addr) (n cap : Nat) (l : List Pp) (w : World) (hln : l.length = n) (hp : Lr w K A cap l) (hK : K ≤ w.heap.size) (hl : l.length * 32 ≤ 140737488355328) :
    Calls Tryz.prog 27 #[.slice A n cap] w (NewD w l) := by
  subst hln
  have hle := hp.le
  have hmax := hp.max
  unfold maxLen at hmax
  go_enter Tryz.func27, Tryz.ntmps27
  go_wp2
  go_loopw [3, 8] (fun v i wr => ∃ (k c : Nat) (B : Option Addr), k ≤ l.length ∧ i = .int .i64 k ∧ v = .slice B k c ∧ Ld wr w.heap.size (.slice B k c) (l.take k) ∧ Below w.heap.size w wr) (fun _ i _ => l.length - (intOf i).toNat)
  case atStart => exact ⟨0, 0, none, Nat.zero_le _, rfl, rfl, by simpa using So.empty _ _ _ _ _, Below.refl _ _⟩
  case round =>
    obtain ⟨k, c, B, hk, rfl, rfl, hps, hbl⟩ := hrel
    have z := hbl.size
    by_cases hlt : k < l.length
    · obtain ⟨ad, rfl, hadK, h1, h2⟩ := lr_cells (hp.below (hbl.mono hK)) hlt
      have htk : l.take (k + 1) = l.take k ++ [l[k]] := List.take_succ_eq_append_getElem hlt
      have hln : (l.take k).length = k := by simp; omega
      generalize l[k] = x at *
      obtain ⟨xn, xv⟩ := x
      simp only at h1 h2
      have HT := Lib.hid htk
      have HL := Lib.hid hln
      have hps1 := hps.alloc (.cells #[.string xn, .string xv] 54)
      clear htk hln
      go_wp2_with (at_builtin; refine wpList_pushE Tryz.underlying62 info_rp rfl (by decide) (wr.alloc (.cells #[.string xn, .string xv] 54)) rfl (.tmp 12) (.tmp 18) rfl w.heap.size (.slice B k c) (l.take k) rfl hps1 (xn, xv) _ rfl rfl (encP_one _) _ (wr.heap.size + 1) (by simp) rfl (k + 1) (by rw [HL.out]) (by unfold maxLen; omega) (by omega) (by omega) ?_; intro A2 cap2 w2 hps2 hgrow2 hat2; have B2 : Below w.heap.size w w2 := grown_belowE (hbl.alloc z _) hgrow2 (by simp; omega) (fun _ h => (hps1.lt _ h).1))
      go_roundw
      case rel => exact ⟨k + 1, cap2, A2, by omega, by go_num, rfl, by rw [HT.out]; exact hps2, B2⟩
      case measure => simp [intOf]; omega
    · have hkl : k = l.length := by omega
      subst hkl
      rw [List.take_length] at hps
      go_wp2
      go_ret
      exact ⟨B, c, rfl, hps, hbl⟩
end Go.Proofs.YtcfbcidakddhfaaGreatDoor
