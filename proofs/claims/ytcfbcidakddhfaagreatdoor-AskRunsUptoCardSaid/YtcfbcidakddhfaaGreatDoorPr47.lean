/- What AskSplits' joining statement knows of its values. -/
import Derived.Test.YtcfbcidakddhfaaGreatDoorPr46
namespace Go.Proofs.YtcfbcidakddhfaaGreatDoor
open Go.RowKit Go.BigFrame

theorem winGo_len (op to_ st : Int) : ∀ (f : Nat) (b : Int) (l acc : List Smp), (winGo op to_ st f b l acc).2.length ≤ acc.length + l.length
  | 0, _, _, _ => by simp [winGo]
  | f + 1, b, l, acc => by
    unfold winGo
    split
    · split
      · simp
      · split
        · exact winGo_len op to_ st f _ _ _
        · rename_i h1 h2
          split
          · have h3 := winGo_len op to_ st f (b + min st (to_ - b)) (l.drop (ah l (b + min st (to_ - b)))) (acc ++ [(b, (foldB op (l.take (ah l (b + min st (to_ - b))))).1)])
            have h4 := ah_le l (b + min st (to_ - b))
            rw [List.length_append, List.length_drop, List.length_singleton] at h3
            omega
          · simp
    · simp
theorem cellsQ_le (q : Qr) (l : List Smp) : (cellsQ q l).2.length ≤ l.length := by
  unfold cellsQ
  split
  · simp
  · unfold windowsB
    split
    · simp
    · split
      · simp
      · have h1 := winGo_len q.op q.to_ q.st (q.to_ - q.fr).toNat q.fr (l.drop (ah l q.fr)) []
        rw [List.length_drop, List.length_nil] at h1
        omega
/-- What is told of points is no greater than they are. -/
theorem tellQ_bd (q : Qr) {g : List Pt} {M : Nat} (hg : g.length ≤ M) (hs : ∀ p ∈ g, p.set.length ≤ M) : (∀ r ∈ (tellQ q g).2.1, r.1.length ≤ M ∧ r.2.length ≤ M) ∧ ∀ p ∈ (tellQ q g).2.2, p ∈ g := by
  unfold tellQ
  split
  · exact ⟨fun r h => (by cases h), fun p h => (by cases h)⟩
  · split
    · exact ⟨fun r h => (by cases h), fun p h => (by cases h)⟩
    · refine ⟨fun r h => ?_, fun p h => (List.mem_filter.1 h).1⟩
      dsimp only at h
      split at h
      · cases h
      · obtain rfl := List.mem_singleton.1 h
        refine ⟨?_, Nat.le_trans (cellsQ_le _ _) (Nat.le_trans (smpsQ_len _ _) hg)⟩
        cases g with
        | nil => simp [setAt]
        | cons p r => exact hs p (List.mem_cons_self)
theorem runGo_bd (q : Qr) {M : Nat} : ∀ (f : Nat) (l : List Pt) (R : List Rowq) (N : List Pt) (P : Pt → Prop), l.length ≤ M → (∀ p ∈ l, p.set.length ≤ M) → (∀ p ∈ l, P p) → (∀ r ∈ R, r.1.length ≤ M ∧ r.2.length ≤ M) → (∀ p ∈ N, P p) →
    (∀ r ∈ (runGo q f l R N).2.1, r.1.length ≤ M ∧ r.2.length ≤ M) ∧ (∀ p ∈ (runGo q f l R N).2.2, P p) ∧ (runGo q f l R N).2.1.length ≤ R.length + l.length ∧ (runGo q f l R N).2.2.length ≤ N.length + l.length
  | 0, l, R, N, P, _, _, _, hR, hN => ⟨hR, hN, by simp [runGo], by simp [runGo]⟩
  | f + 1, l, R, N, P, hl, hs, hp, hR, hN => by
    rw [runGo_succ]
    split
    · exact ⟨hR, hN, by simp, by simp⟩
    · rename_i h0
      split
      · exact ⟨fun r h => (by cases h), fun p h => (by cases h), by simp, by simp⟩
      · have h1 := firstN_pos h0
        have h2 := firstN_le l
        have hb := tellQ_bd q (g := l.take (firstN l)) (M := M) (by rw [List.length_take]; omega) (fun p h => hs p (List.mem_of_mem_take h))
        have hln := tellQ_len q (l.take (firstN l))
        rw [List.length_take] at hln
        obtain ⟨g1, g2, g3, g4⟩ := runGo_bd q f (l.drop (firstN l)) (R ++ (tellQ q (l.take (firstN l))).2.1) (N ++ (tellQ q (l.take (firstN l))).2.2) P (by rw [List.length_drop]; omega) (fun p h => hs p (List.mem_of_mem_drop h)) (fun p h => hp p (List.mem_of_mem_drop h))
          (fun r h => by rcases List.mem_append.1 h with h | h; (· exact hR r h); exact hb.1 r h) (fun p h => by rcases List.mem_append.1 h with h | h; (· exact hN p h); exact hp p (List.mem_of_mem_take (hb.2 p h)))
        refine ⟨g1, g2, ?_, ?_⟩
        · rw [List.length_append, List.length_drop] at g3; omega
        · rw [List.length_append, List.length_drop] at g4; omega
/-- What Run tells is no greater than what it is told of. -/
theorem runQ_bd (q : Qr) {l : List Pt} (hl : l.length ≤ 1048576) (h : ∀ p ∈ l, PtOk p) : (∀ r ∈ (runQ q l).2.1, r.1.length ≤ 1048576 ∧ r.2.length ≤ 1048576) ∧ (∀ p ∈ (runQ q l).2.2, PtOk p) ∧ (runQ q l).2.1.length ≤ 1048576 ∧ (runQ q l).2.2.length ≤ 1048576 := by
  unfold runQ
  split
  · exact ⟨fun r h => (by cases h), fun p h => (by cases h), by simp, by simp⟩
  · obtain ⟨g1, g2, g3, g4⟩ := runGo_bd q (M := 1048576) l.length l [] [] PtOk hl (fun p hp => (h p hp).1) h (fun r h => (by cases h)) (fun p h => (by cases h))
    rw [List.length_nil] at g3 g4
    exact ⟨g1, g2, by omega, by omega⟩
theorem runQ_nl (q : Qr) (l : List Pt) : (runQ q l).2.2.length ≤ l.length := by
  unfold runQ
  split
  · simp
  · have h9 : ∀ (f : Nat) (l : List Pt) (R : List Rowq) (N : List Pt), (runGo q f l R N).2.2.length ≤ N.length + l.length := by
      intro f
      induction f with
      | zero => intro l R N; simp [runGo]
      | succ f ih =>
        intro l R N
        rw [runGo_succ]
        split
        · simp
        · split
          · simp
          · have h2 := firstN_le l
            have h3 := tellQ_len q (l.take (firstN l))
            rw [List.length_take] at h3
            have h4 := ih (l.drop (firstN l)) (R ++ (tellQ q (l.take (firstN l))).2.1) (N ++ (tellQ q (l.take (firstN l))).2.2)
            rw [List.length_append, List.length_drop] at h4
            omega
    have := h9 l.length l [] []
    rwa [List.length_nil, Nat.zero_add] at this
inductive Vy where
  | v (x : Value)
  | td
/-- What is known of a value where two answers are held against one another. -/
def HY (RR : List Rowq) (NN : List Pt) (B : Nat) : Vy → Value → World → Prop
  | .v x, u, _ => u = x
  | .td, u, w => ∃ (A1 A2 : Option Addr) (c1 c2 : Nat) (rs : List Rz) (ns : List Pz), u = .agg #[.slice A1 RR.length c1, .slice A2 NN.length c2] ∧ rs.map Prod.fst = RR ∧ ns.map Prod.fst = NN ∧ Rh w B (.slice A1 RR.length c1) rs ∧
    Pw w B 65 92 (.slice A2 NN.length c2) ns
theorem HY.mono {RR : List Rowq} {NN : List Pt} {B : Nat} {y : Vy} {u : Value} {w w' : World} (h : HY RR NN B y u w) (hb : Below w.heap.size w w') : HY RR NN B y u w' := by
  cases y with
  | v x => exact h
  | td => obtain ⟨A1, A2, c1, c2, rs, ns, e, h1, h2, h3, h4⟩ := h; exact ⟨A1, A2, c1, c2, rs, ns, e, h1, h2, h3.below hb, h4.below hb⟩
theorem An0.bd {q : Qr} {lq : List Pt} {w : World} {B c1 c2 : Nat} {A1 A2 : Option Addr} {rs : List Rz} {ns : List Pz} (h : An0 q lq w B A1 A2 c1 c2 rs ns) (hl : lq.length ≤ 1048576) (hk : ∀ p ∈ lq, PtOk p) :
    (∀ r ∈ rs, r.1.1.length ≤ 1048576 ∧ r.1.2.length ≤ 1048576) ∧ (∀ x ∈ ns, x.1.set.length ≤ 1048576) ∧ rs.length ≤ 1048576 ∧ ns.length ≤ 1048576 := by
  obtain ⟨g1, g2, g3, g4⟩ := runQ_bd q hl hk
  rw [← h.r] at g1 g3
  rw [← h.n] at g2 g4
  rw [List.length_map] at g3 g4
  exact ⟨fun r hr => g1 r.1 (List.mem_map.2 ⟨r, hr, rfl⟩), fun x hx => (g2 x.1 (List.mem_map.2 ⟨x, hx, rfl⟩)).1, g3, g4⟩
end Go.Proofs.YtcfbcidakddhfaaGreatDoor
