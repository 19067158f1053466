/- Chains: the plain mathematics of Put, Get, Cut. -/
import Derived.Test.YtbeclajbpfglgaaChS
namespace Go.Proofs.Ytbeclajbpfglgaa
open Go.RowKit

def sameAt (u v : Ve) : Bool := decide (u.w = v.w ∧ u.t = v.t ∧ u.m = v.m)
/-- Put: the error, and the chain. -/
def putV (l : List Ve) (v : Ve) : Int × List Ve :=
  if rightV v = false then (1, []) else if l.any (sameAt · v) = true then (7, []) else (0, l.take (posV l v.w v.t v.m) ++ v :: l.drop (posV l v.w v.t v.m))
theorem take_pos {a b c : Int} (l : List Ve) : l.take (posV l a b c) = l.takeWhile fun v => !gtB v a b c := by
  unfold posV
  have h := List.takeWhile_append_dropWhile (p := fun v => !gtB v a b c) (l := l)
  have h2 : (l.takeWhile (fun v => !gtB v a b c) ++ l.dropWhile (fun v => !gtB v a b c)).take (l.takeWhile fun v => !gtB v a b c).length = l.takeWhile fun v => !gtB v a b c := List.take_left' rfl
  rwa [h] at h2
theorem drop_pos {a b c : Int} (l : List Ve) : l.drop (posV l a b c) = l.dropWhile fun v => !gtB v a b c := by
  unfold posV
  have h := List.takeWhile_append_dropWhile (p := fun v => !gtB v a b c) (l := l)
  have h2 : (l.takeWhile (fun v => !gtB v a b c) ++ l.dropWhile (fun v => !gtB v a b c)).drop (l.takeWhile fun v => !gtB v a b c).length = l.dropWhile fun v => !gtB v a b c := List.drop_left' rfl
  rwa [h] at h2
theorem pos_cons {a b c : Int} (x : Ve) (l : List Ve) : posV (x :: l) a b c = if gtB x a b c = true then 0 else posV l a b c + 1 := by
  unfold posV
  rw [List.takeWhile_cons]
  cases h : gtB x a b c <;> simp
/-- In a chain those ahead of the place don't stand behind the stamp; those from it on do. -/
theorem chn_split {a b c : Int} : ∀ {l : List Ve}, Chn l → (∀ x ∈ l.take (posV l a b c), gtB x a b c = false) ∧ ∀ x ∈ l.drop (posV l a b c), gtB x a b c = true
  | [], _ => ⟨fun x h => by simp at h, fun x h => by simp at h⟩
  | y :: l, hs => by
    obtain ⟨g1, g2⟩ := List.pairwise_cons.1 hs
    rw [pos_cons]
    by_cases hy : gtB y a b c = true
    · rw [if_pos hy]
      refine ⟨fun x h => by simp at h, fun x h => ?_⟩
      rcases List.mem_cons.1 (by simpa using h) with rfl | h
      · exact hy
      · cases hg : gtB x a b c with
        | true => rfl
        | false =>
          have := gt_trans (g1 x h) hg
          rw [hy] at this; cases this
    · rw [if_neg hy]
      obtain ⟨i1, i2⟩ := chn_split (a := a) (b := b) (c := c) g2
      refine ⟨fun x h => ?_, fun x h => i2 x (by simpa using h)⟩
      rw [List.take_succ_cons] at h
      rcases List.mem_cons.1 h with rfl | h
      · simpa using hy
      · exact i1 x h
theorem cmp_self (a b c : Int) : cmpS a b c a b c = 0 := by
  have := cmpS_cases a b c a b c
  omega
theorem same_gt {u v : Ve} (h : sameAt u v = true) : gtB u v.w v.t v.m = false := by
  unfold sameAt at h
  unfold gtB
  obtain ⟨h1, h2, h3⟩ := of_decide_eq_true h
  rw [h1, h2, h3, cmp_self]
  rfl
theorem lt_same {u v x : Ve} (h : ltV u x) (hs : sameAt u v = true) : gtB x v.w v.t v.m = true := by
  unfold sameAt at hs
  obtain ⟨h1, h2, h3⟩ := of_decide_eq_true hs
  unfold ltV at h
  unfold gtB
  have g1 := cmpS_cases u.w u.t u.m x.w x.t x.m
  have g2 := cmpS_cases x.w x.t x.m v.w v.t v.m
  rw [decide_eq_true_eq]
  omega
/-- A version with that stamp is the last ahead of the place. -/
theorem any_last {l : List Ve} {v : Ve} (hs : Chn l) {p : Nat} (hp : posV l v.w v.t v.m = p + 1) (hlt : p < l.length) : l.any (sameAt · v) = sameAt l[p] v := by
  cases h : sameAt l[p] v with
  | true => exact List.any_eq_true.2 ⟨l[p], List.getElem_mem hlt, h⟩
  | false =>
    rw [List.any_eq_false]
    intro x hx hsx
    obtain ⟨i, hi, rfl⟩ := List.mem_iff_getElem.1 hx
    obtain ⟨k1, k2⟩ := chn_split (a := v.w) (b := v.t) (c := v.m) hs
    rcases Nat.lt_trichotomy i p with h1 | h1 | h1
    · have h2 := lt_same ((List.pairwise_iff_getElem.1 hs) i p hi hlt h1) hsx
      have h3 := k1 l[p] (by
        rw [hp]
        exact List.mem_iff_getElem.2 ⟨p, by simp; omega, by simp⟩)
      rw [h2] at h3; cases h3
    · subst h1
      rw [h] at hsx; cases hsx
    · have h2 := same_gt hsx
      have h3 := k2 l[i] (by
        rw [hp]
        exact List.mem_iff_getElem.2 ⟨i - (p + 1), by simp; omega, by simp; congr 1; omega⟩)
      rw [h2] at h3; cases h3
theorem any_none {l : List Ve} {v : Ve} (hs : Chn l) (hp : posV l v.w v.t v.m = 0) : l.any (sameAt · v) = false := by
  rw [List.any_eq_false]
  intro x hx hsx
  obtain ⟨k1, k2⟩ := chn_split (a := v.w) (b := v.t) (c := v.m) hs
  have h2 := same_gt hsx
  have h3 := k2 x (by rw [hp]; exact hx)
  rw [h2] at h3; cases h3
/-- What is put is a chain again. -/
theorem gt_lt {u v : Ve} (h : gtB u v.w v.t v.m = true) : ltV v u := by
  unfold gtB at h
  unfold ltV
  have g1 := cmpS_cases u.w u.t u.m v.w v.t v.m
  have g2 := cmpS_cases v.w v.t v.m u.w u.t u.m
  have := of_decide_eq_true h
  omega
theorem le_lt {u v : Ve} (h : gtB u v.w v.t v.m = false) (hs : sameAt u v = false) : ltV u v := by
  unfold gtB at h
  unfold sameAt at hs
  unfold ltV
  have g1 := cmpS_cases u.w u.t u.m v.w v.t v.m
  have h1 := of_decide_eq_false h
  have h2 := of_decide_eq_false hs
  omega
theorem ltV_trans {u v x : Ve} (h : ltV u v) (h2 : ltV v x) : ltV u x := by
  unfold ltV at *
  have g1 := cmpS_cases u.w u.t u.m v.w v.t v.m
  have g2 := cmpS_cases v.w v.t v.m x.w x.t x.m
  have g3 := cmpS_cases u.w u.t u.m x.w x.t x.m
  omega
theorem put_chn {l : List Ve} {v : Ve} (hs : Chn l) (hn : l.any (sameAt · v) = false) : Chn (l.take (posV l v.w v.t v.m) ++ v :: l.drop (posV l v.w v.t v.m)) := by
  obtain ⟨k1, k2⟩ := chn_split (a := v.w) (b := v.t) (c := v.m) hs
  rw [List.any_eq_false] at hn
  have hl : ∀ x ∈ l.take (posV l v.w v.t v.m), ltV x v := fun x hx => le_lt (k1 x hx) (by simpa using hn x (List.mem_of_mem_take hx))
  have hr : ∀ x ∈ l.drop (posV l v.w v.t v.m), ltV v x := fun x hx => gt_lt (k2 x hx)
  unfold Chn at *
  rw [List.pairwise_append, List.pairwise_cons]
  refine ⟨hs.sublist (List.take_sublist _ _), ⟨hr, hs.sublist (List.drop_sublist _ _)⟩, fun x hx y hy => ?_⟩
  rcases List.mem_cons.1 hy with rfl | hy
  · exact hl x hx
  · exact ltV_trans (hl x hx) (hr y hy)
theorem put_mem {l : List Ve} {v x : Ve} (h : x ∈ (putV l v).2) : x = v ∨ x ∈ l := by
  unfold putV at h
  split at h
  · simp at h
  split at h
  · simp at h
  rcases List.mem_append.1 h with h | h
  · exact .inr (List.mem_of_mem_take h)
  · rcases List.mem_cons.1 h with h | h
    · exact .inl h
    · exact .inr (List.mem_of_mem_drop h)
theorem put_len (l : List Ve) (v : Ve) : (putV l v).2.length ≤ l.length + 1 := by
  unfold putV
  split
  · simp
  split
  · simp
  · simp only [List.length_append, List.length_take, List.length_cons, List.length_drop]
    omega
/-- Get: the version, and whether there is one. -/
def nilV : Ve := ⟨0, 0, 0, 0, 0, ⟨#[]⟩⟩
def getV (l : List Ve) (a b c : Int) : Option Ve := match (l.take (posV l a b c)).getLast? with
  | none => none
  | some u => if u.k = 3 then none else some u
/-- Cut: how many go. -/
def cutN (l : List Ve) (a b c : Int) : Nat := match (l.take (posV l a b c)).getLast? with
  | none => 0
  | some u => if u.k = 3 then posV l a b c else posV l a b c - 1
theorem last_pos {l : List Ve} {a b c : Int} {p : Nat} (hp : posV l a b c = p + 1) (hlt : p < l.length) : (l.take (posV l a b c)).getLast? = some l[p] := by
  rw [hp, List.getLast?_eq_getElem?]
  simp
  have : min (p + 1) l.length - 1 = p := by omega
  rw [this, List.getElem?_take_of_lt (by omega), List.getElem?_eq_getElem hlt]
theorem last_none {l : List Ve} {a b c : Int} (hp : posV l a b c = 0) : (l.take (posV l a b c)).getLast? = none := by
  rw [hp]; rfl
end Go.Proofs.Ytbeclajbpfglgaa
