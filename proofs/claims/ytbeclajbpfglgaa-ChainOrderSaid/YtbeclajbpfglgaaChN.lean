/- The last version of a chain that isn't behind a stamp; what Put makes of it. -/
import Derived.Test.YtbeclajbpfglgaaChM
namespace Go.Proofs.Ytbeclajbpfglgaa
open Go.RowKit

def lastV (l : List Ve) (a b c : Int) : Option Ve := (l.take (posV l a b c)).getLast?
theorem getV_last (l : List Ve) (a b c : Int) : getV l a b c = match lastV l a b c with | none => none | some u => if u.k = 3 then none else some u := rfl
theorem ltV_irrefl (u : Ve) : ¬ ltV u u := by
  unfold ltV
  rw [cmp_self]
  omega
theorem ltV_asymm {u v : Ve} (h : ltV u v) (h2 : ltV v u) : False := ltV_irrefl u (ltV_trans h h2)
section
variable {l : List Ve} {a b c : Int} {u v : Ve}
theorem last_to (hs : Chn l) (h : lastV l a b c = some u) : u ∈ l ∧ gtB u a b c = false ∧ ∀ x ∈ l, gtB x a b c = false → x = u ∨ ltV x u := by
  obtain ⟨k1, k2⟩ := chn_split (a := a) (b := b) (c := c) hs
  have hm : u ∈ l.take (posV l a b c) := List.mem_of_getLast? h
  refine ⟨List.mem_of_mem_take hm, k1 u hm, fun x hx hg => ?_⟩
  have hx2 : x ∈ l.take (posV l a b c) ++ l.drop (posV l a b c) := by rw [List.take_append_drop]; exact hx
  rcases List.mem_append.1 hx2 with h1 | h1
  · obtain ⟨ys, hy⟩ := List.getLast?_eq_some_iff.1 h
    have hp : Chn (l.take (posV l a b c)) := hs.sublist (List.take_sublist _ _)
    unfold Chn at hp
    rw [hy, List.pairwise_append] at hp
    rw [hy] at h1
    rcases List.mem_append.1 h1 with h2 | h2
    · exact .inr (hp.2.2 x h2 u (by simp))
    · exact .inl (by simpa using h2)
  · rw [k2 x h1] at hg; cases hg
theorem last_to0 (hs : Chn l) (h : lastV l a b c = none) : ∀ x ∈ l, gtB x a b c = true := by
  obtain ⟨k1, k2⟩ := chn_split (a := a) (b := b) (c := c) hs
  intro x hx
  have hx2 : x ∈ l.take (posV l a b c) ++ l.drop (posV l a b c) := by rw [List.take_append_drop]; exact hx
  rcases List.mem_append.1 hx2 with h1 | h1
  · rw [List.getLast?_eq_none_iff.1 h] at h1
    simp at h1
  · exact k2 x h1
theorem last_of (hs : Chn l) (h1 : u ∈ l) (h2 : gtB u a b c = false) (h3 : ∀ x ∈ l, gtB x a b c = false → x = u ∨ ltV x u) : lastV l a b c = some u := by
  cases h : lastV l a b c with
  | none =>
    have := last_to0 hs h u h1
    rw [h2] at this; cases this
  | some x =>
    obtain ⟨g1, g2, g3⟩ := last_to hs h
    rcases h3 x g1 g2 with e | e
    · rw [e]
    · rcases g3 u h1 h2 with e2 | e2
      · rw [e2]
      · exact absurd e2 (fun e2 => ltV_asymm e e2)
theorem last_of0 (hs : Chn l) (h : ∀ x ∈ l, gtB x a b c = true) : lastV l a b c = none := by
  cases h2 : lastV l a b c with
  | none => rfl
  | some x =>
    obtain ⟨g1, g2, _⟩ := last_to hs h2
    rw [h x g1] at g2; cases g2
def insV (l : List Ve) (v : Ve) : List Ve := l.take (posV l v.w v.t v.m) ++ v :: l.drop (posV l v.w v.t v.m)
theorem mem_ins {x : Ve} : x ∈ insV l v ↔ x = v ∨ x ∈ l := by
  have e : (x ∈ l) = (x ∈ l.take (posV l v.w v.t v.m) ++ l.drop (posV l v.w v.t v.m)) := by rw [List.take_append_drop]
  rw [e]
  unfold insV
  simp only [List.mem_append, List.mem_cons]
  constructor
  · rintro (h | h | h)
    · exact .inr (.inl h)
    · exact .inl h
    · exact .inr (.inr h)
  · rintro (h | h | h)
    · exact .inr (.inl h)
    · exact .inl h
    · exact .inr (.inr h)
theorem put_ok (h : (putV l v).1 = 0) : putV l v = (0, insV l v) ∧ rightV v = true ∧ l.any (sameAt · v) = false := by
  unfold putV at h ⊢
  split
  · next h1 => rw [if_pos h1] at h; cases h
  · next h1 =>
    rw [if_neg h1] at h
    split
    · next h2 => rw [if_pos h2] at h; cases h
    · next h2 => exact ⟨rfl, by simpa using h1, by simpa using h2⟩
theorem ins_gt (hs : Chn l) (hn : l.any (sameAt · v) = false) (hg : gtB v a b c = true) : lastV (insV l v) a b c = lastV l a b c := by
  have hs' : Chn (insV l v) := put_chn hs hn
  cases h : lastV l a b c with
  | none =>
    have h0 := last_to0 hs h
    refine last_of0 hs' fun x hx => ?_
    rcases mem_ins.1 hx with rfl | hx
    · exact hg
    · exact h0 x hx
  | some u =>
    obtain ⟨g1, g2, g3⟩ := last_to hs h
    refine last_of hs' (mem_ins.2 (.inr g1)) g2 fun x hx hx2 => ?_
    rcases mem_ins.1 hx with rfl | hx
    · rw [hg] at hx2; cases hx2
    · exact g3 x hx hx2
theorem ins_first (hs : Chn l) (hn : l.any (sameAt · v) = false) (hg : gtB v a b c = false) (h : lastV l a b c = none) : lastV (insV l v) a b c = some v := by
  have h0 := last_to0 hs h
  refine last_of (put_chn hs hn) (mem_ins.2 (.inl rfl)) hg fun x hx hx2 => ?_
  rcases mem_ins.1 hx with rfl | hx
  · exact .inl rfl
  · rw [h0 x hx] at hx2; cases hx2
theorem ins_next (hs : Chn l) (hn : l.any (sameAt · v) = false) (hg : gtB v a b c = false) (h : lastV l a b c = some u) (hl : ltV u v) : lastV (insV l v) a b c = some v := by
  obtain ⟨g1, g2, g3⟩ := last_to hs h
  refine last_of (put_chn hs hn) (mem_ins.2 (.inl rfl)) hg fun x hx hx2 => ?_
  rcases mem_ins.1 hx with rfl | hx
  · exact .inl rfl
  · rcases g3 x hx hx2 with rfl | h3
    · exact .inr hl
    · exact .inr (ltV_trans h3 hl)
theorem ins_ahead (hs : Chn l) (hn : l.any (sameAt · v) = false) (h : lastV l a b c = some u) (hl : ¬ ltV u v) : lastV (insV l v) a b c = some u := by
  obtain ⟨g1, g2, g3⟩ := last_to hs h
  refine last_of (put_chn hs hn) (mem_ins.2 (.inr g1)) g2 fun x hx hx2 => ?_
  rcases mem_ins.1 hx with rfl | hx
  · refine .inr ?_
    rw [List.any_eq_false] at hn
    have h1 := hn u g1
    simp only [sameAt, decide_eq_true_eq] at h1
    unfold ltV at hl ⊢
    have k1 := cmpS_cases u.w u.t u.m x.w x.t x.m
    have k2 := cmpS_cases x.w x.t x.m u.w u.t u.m
    omega
  · exact g3 x hx hx2
end
theorem below_gt (v : Ve) (a b c : Int) : belowB a b c v.w v.t v.m = gtB v a b c := by
  unfold belowB gtB
  rw [decide_eq_decide]
  have k1 := cmpS_cases a b c v.w v.t v.m
  have k2 := cmpS_cases v.w v.t v.m a b c
  omega
theorem below_lt (u v : Ve) : belowB u.w u.t u.m v.w v.t v.m = true ↔ ltV u v := by
  unfold belowB ltV
  rw [decide_eq_true_eq]
end Go.Proofs.Ytbeclajbpfglgaa
