/- A set does not hang on its labels' order; a set's own set is itself; each label of it is found. -/
import Derived.Test.YtpkadghdnlkfiabLbMk
namespace Go.Proofs.Ytpkadghdnlkfiab
open Go.RowKit

theorem make_perm {q l : List Pp} (h : q.Perm l) : makeE q = makeE l ∧ makeL q = makeL l := by
  have ht := sorted_tw ((srt_perm q).trans h) (srt_srt q)
  cases e : twL (srt l) with
  | true =>
    rw [e] at ht
    have a := make_7 ht
    have b := make_7 e
    exact ⟨a.1.trans b.1.symm, a.2.trans b.2.symm⟩
  | false =>
    have hs := sorted_eq ((srt_perm q).trans h) (srt_srt q) e
    have e1 : makeE q = makeE l := by unfold makeE; rw [hs]
    exact ⟨e1, by unfold makeL; rw [e1, hs]⟩
theorem make_ok {l : List Pp} (h : makeE l = 0) : twL (srt l) = false ∧ rightL (srt l) = true ∧ makeL l = srt l := by
  cases e : twL (srt l) with
  | true => rw [(make_7 e).1] at h; exact absurd h (by decide)
  | false =>
    cases e2 : rightL (srt l) with
    | true => exact ⟨rfl, rfl, (make_0 e e2).2⟩
    | false => rw [(make_40 e e2).1] at h; exact absurd h (by decide)
theorem make_idem {l : List Pp} (h : makeE l = 0) : makeE (makeL l) = 0 ∧ makeL (makeL l) = makeL l := by
  obtain ⟨h1, h2, h3⟩ := make_ok h
  have hs : srt (srt l) = srt l := (sorted_eq (l := srt l) (List.Perm.refl _) (srt_srt l) (by rw [← sorted_tw (srt_perm (srt l)) (srt_srt _), sorted_tw ((srt_perm (srt l)).trans (srt_perm l)) (srt_srt _)]; exact h1)).symm
  rw [h3]
  have := make_0 (l := srt l) (by rw [hs]; exact h1) (by rw [hs]; exact h2)
  exact ⟨this.1, by rw [this.2, hs]⟩
theorem getL_mem : ∀ {m : List Pp}, Sst m → ∀ x ∈ m, getL m x.1 = x.2
  | [], _, x, h => by simp at h
  | y :: m, hs, x, h => by
    have hp := List.pairwise_cons.1 hs
    rw [getL]
    rcases List.mem_cons.1 h with rfl | h
    · simp
    · have hlt := hp.1 x h
      have : (y.1.toList == x.1.toList) = false := by
        rw [Lib.toList_data, Lib.toList_data]
        apply beq_eq_false_iff_ne.2
        intro e
        have e' : key y = key x := e
        rw [e'] at hlt
        exact List.lt_irrefl _ hlt
      rw [this]
      exact getL_mem hp.2 x h
theorem make_get {l : List Pp} (h : makeE l = 0) {x : Pp} (hx : x ∈ l) : getL (makeL l) x.1 = x.2 := by
  obtain ⟨h1, _, h3⟩ := make_ok h
  rw [h3]
  exact getL_mem (strict_of (srt_srt l) h1) x ((srt_perm l).symm.subset hx)
theorem make_right {l : List Pp} (h : makeE l = 0) : rightL (makeL l) = true ∧ (makeL l).length = l.length := by
  obtain ⟨_, h2, h3⟩ := make_ok h
  rw [h3]
  exact ⟨h2, srt_length l⟩
end Go.Proofs.Ytpkadghdnlkfiab
