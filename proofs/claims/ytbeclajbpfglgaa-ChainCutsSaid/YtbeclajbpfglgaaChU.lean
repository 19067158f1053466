/- A cut chain: what is put behind the cut, what is got from the cut on. -/
import Derived.Test.YtbeclajbpfglgaaChN
namespace Go.Proofs.Ytbeclajbpfglgaa
open Go.RowKit

section
variable {c : List Ve} {x1 x2 x3 y1 y2 y3 : Int} {v : Ve}
theorem pos_mono (h : ∀ u : Ve, gtB u x1 x2 x3 = false → gtB u y1 y2 y3 = false) : ∀ l : List Ve, posV l x1 x2 x3 ≤ posV l y1 y2 y3
  | [] => Nat.le_refl _
  | u :: l => by
    rw [pos_cons, pos_cons]
    have ih := pos_mono h l
    by_cases h1 : gtB u x1 x2 x3 = true
    · rw [if_pos h1]; exact Nat.zero_le _
    · rw [if_neg h1, if_neg (by rw [h u (by simpa using h1)]; simp)]; omega
theorem pos_drop {a b d : Int} : ∀ (N : Nat) (l : List Ve), N ≤ posV l a b d → posV (l.drop N) a b d = posV l a b d - N
  | 0, l, _ => rfl
  | N + 1, [], h => by simp [posV] at h
  | N + 1, u :: l, h => by
    rw [pos_cons] at h ⊢
    by_cases h1 : gtB u a b d = true
    · rw [if_pos h1] at h; omega
    · rw [if_neg h1] at h ⊢
      rw [List.drop_succ_cons, pos_drop N l (by omega)]
      omega
theorem tw_stop {q : Ve → Bool} {v : Ve} (hv : q v = false) (b : List Ve) : ∀ a : List Ve, (a ++ v :: b).takeWhile q = a.takeWhile q
  | [] => by simp [hv]
  | u :: a => by
    rw [List.cons_append, List.takeWhile_cons, List.takeWhile_cons, tw_stop hv b a]
theorem tw_take {q : Ve → Bool} : ∀ (p : Nat) (l : List Ve), ((l.take p).takeWhile q).length = min p (l.takeWhile q).length
  | 0, l => by simp
  | p + 1, [] => by simp
  | p + 1, u :: l => by
    rw [List.take_succ_cons, List.takeWhile_cons, List.takeWhile_cons]
    have ih := tw_take (q := q) p l
    by_cases h : q u = true
    · rw [if_pos h, if_pos h, List.length_cons, List.length_cons, ih]; omega
    · rw [if_neg h, if_neg h]; simp
theorem gt_up (hg : gtB v x1 x2 x3 = true) (u : Ve) (h : gtB u x1 x2 x3 = false) : gtB u v.w v.t v.m = false := by
  unfold gtB at *
  have h1 := of_decide_eq_true hg
  have h2 := of_decide_eq_false h
  have k1 := cmpS_cases v.w v.t v.m x1 x2 x3
  have k2 := cmpS_cases u.w u.t u.m x1 x2 x3
  have k3 := cmpS_cases u.w u.t u.m v.w v.t v.m
  rw [decide_eq_false_iff_not]
  omega
theorem cut_le (c : List Ve) (x1 x2 x3 : Int) : cutN c x1 x2 x3 ≤ posV c x1 x2 x3 := by
  unfold cutN
  split
  · exact Nat.zero_le _
  · split <;> omega
theorem pos_ins (hg : gtB v x1 x2 x3 = true) : posV (insV c v) x1 x2 x3 = posV c x1 x2 x3 := by
  have h := pos_mono (gt_up hg) c
  have e : (insV c v).takeWhile (fun u => !gtB u x1 x2 x3) = (c.take (posV c v.w v.t v.m)).takeWhile (fun u => !gtB u x1 x2 x3) := tw_stop (by simp [hg]) _ _
  show ((insV c v).takeWhile _).length = _
  rw [e, tw_take]
  show min _ (posV c x1 x2 x3) = _
  omega
/-- What is put behind the cut's stamp. -/
theorem cut_put (hs : Chn c) (hg : gtB v x1 x2 x3 = true) : putV (c.drop (cutN c x1 x2 x3)) v = ((putV c v).1, (putV c v).2.drop (cutN c x1 x2 x3)) ∧ ((putV c v).1 = 0 → cutN (putV c v).2 x1 x2 x3 = cutN c x1 x2 x3) := by
  have h1 := cut_le c x1 x2 x3
  have h2 := pos_mono (gt_up hg) c
  obtain ⟨N, hN⟩ : ∃ N, N = cutN c x1 x2 x3 := ⟨_, rfl⟩
  rw [← hN] at h1 ⊢
  have hp := pos_drop (a := v.w) (b := v.t) (d := v.m) N c (by omega)
  have hany : (c.drop N).any (sameAt · v) = c.any (sameAt · v) := by
    rw [Bool.eq_iff_iff, List.any_eq_true, List.any_eq_true]
    constructor
    · rintro ⟨u, hu, he⟩
      exact ⟨u, List.mem_of_mem_drop hu, he⟩
    · rintro ⟨u, hu, he⟩
      have hu2 : u ∈ c.take N ++ c.drop N := by rw [List.take_append_drop]; exact hu
      rcases List.mem_append.1 hu2 with h | h
      · exfalso
        have h3 := (chn_split (a := x1) (b := x2) (c := x3) hs).1 u ((List.take_subset_take_left c (by omega)) h)
        unfold gtB at h3 hg
        unfold sameAt at he
        have e1 := of_decide_eq_true he
        have e2 := of_decide_eq_true hg
        have e3 := of_decide_eq_false h3
        obtain ⟨f1, f2, f3⟩ := e1
        rw [f1, f2, f3] at e3
        exact e3 e2
      · exact ⟨u, h, he⟩
  by_cases hr : rightV v = false
  · have e1 : putV c v = (1, []) := by unfold putV; rw [if_pos hr]
    have e2 : putV (c.drop N) v = (1, []) := by unfold putV; rw [if_pos hr]
    rw [e1, e2]
    exact ⟨by simp, fun h => by cases h⟩
  by_cases ha : c.any (sameAt · v) = true
  · have e1 : putV c v = (7, []) := by unfold putV; rw [if_neg hr, if_pos ha]
    have e2 : putV (c.drop N) v = (7, []) := by unfold putV; rw [if_neg hr, if_pos (by rw [hany]; exact ha)]
    rw [e1, e2]
    exact ⟨by simp, fun h => by cases h⟩
  have e1 : putV c v = (0, insV c v) := by unfold putV; rw [if_neg hr, if_neg ha]; rfl
  have e2 : putV (c.drop N) v = (0, insV (c.drop N) v) := by unfold putV; rw [if_neg hr, if_neg (by rw [hany]; exact ha)]; rfl
  rw [e1, e2]
  refine ⟨?_, fun _ => ?_⟩
  · have hle := pos_le c v.w v.t v.m
    have e : insV (c.drop N) v = (insV c v).drop N := by
      unfold insV
      rw [hp, List.drop_append_of_le_length (by simp; omega), List.drop_take, List.drop_drop, show N + (posV c v.w v.t v.m - N) = posV c v.w v.t v.m by omega]
    rw [e]
  · have hn : c.any (sameAt · v) = false := by simpa using ha
    show cutN (insV c v) x1 x2 x3 = N
    have el := ins_gt (a := x1) (b := x2) (c := x3) hs hn hg
    unfold lastV at el
    rw [hN]
    unfold cutN
    rw [el, pos_ins hg]
theorem cut_get (h : ∀ u : Ve, gtB u x1 x2 x3 = false → gtB u y1 y2 y3 = false) : getV (c.drop (cutN c x1 x2 x3)) y1 y2 y3 = getV c y1 y2 y3 := by
  have h1 := cut_le c x1 x2 x3
  have h2 := pos_mono h c
  obtain ⟨N, hN⟩ : ∃ N, N = cutN c x1 x2 x3 := ⟨_, rfl⟩
  rw [← hN] at h1 ⊢
  have hp := pos_drop (a := y1) (b := y2) (d := y3) N c (by omega)
  have hle := pos_le c y1 y2 y3
  unfold getV
  rw [hp, ← List.drop_take, List.getLast?_drop]
  by_cases hc : (c.take (posV c y1 y2 y3)).length ≤ N
  · rw [if_pos hc]
    have hlen : (c.take (posV c y1 y2 y3)).length = posV c y1 y2 y3 := by simp; omega
    have e : posV c y1 y2 y3 = posV c x1 x2 x3 := by omega
    rw [e]
    have hN2 : N = posV c x1 x2 x3 := by omega
    unfold cutN at hN
    cases hl : (c.take (posV c x1 x2 x3)).getLast? with
    | none => rfl
    | some u =>
      rw [hl] at hN
      simp only at hN ⊢
      have hpos : 0 < posV c x1 x2 x3 := by
        rcases Nat.eq_zero_or_pos (posV c x1 x2 x3) with h0 | h0
        · rw [h0] at hl; simp at hl
        · exact h0
      by_cases hk : u.k = 3
      · rw [if_pos hk]
      · rw [if_neg hk] at hN; omega
  · rw [if_neg hc]
end
end Go.Proofs.Ytbeclajbpfglgaa
