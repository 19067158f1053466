/- What AskSplits' joining statement knows of its values. -/
import Derived.Test.YtjhjcmjkmkllhaaGreatDoorPq48
namespace Go.Proofs.YtjhjcmjkmkllhaaGreatDoor
open Go.RowKit Go.BigFrame

inductive Vm where
  | v (x : Value)
  | e1
  | r1
  | r2
  | p0
  | p1
  | p2
  | ag
/-- What is known of a value, by what has come up: operations 3 and 6 lay rows, 10 and 13 notes. -/
def HX (ra rb : List Rz) (na nb : List Pz) (B : Nat) (l : Nat → Bool) : Vm → Value → World → Prop
  | .v x, u, _ => u = x
  | .e1, u, w => l 3 = false → So encRz 2 w B 57 u []
  | .r1, u, w => l 3 = true ∧ (l 6 = false → So encRz 2 w B 57 u ra)
  | .r2, u, w => (l 3 = true ∧ l 6 = true) ∧ ∃ A c, u = .slice A (ra.length + rb.length) c ∧ So encRz 2 w B 57 (.slice A (ra.length + rb.length) c) (ra ++ rb)
  | .p0, u, w => l 10 = false → So encPz 8 w B 52 u []
  | .p1, u, w => l 10 = true ∧ (l 13 = false → So encPz 8 w B 52 u na)
  | .p2, u, w => (l 10 = true ∧ l 13 = true) ∧ ∃ A c, u = .slice A (na.length + nb.length) c ∧ So encPz 8 w B 52 (.slice A (na.length + nb.length) c) (na ++ nb)
  | .ag, u, w => (l 3 = true ∧ l 6 = true ∧ l 10 = true ∧ l 13 = true) ∧ ∃ A c A' c', u = .agg #[.slice A (ra.length + rb.length) c, .slice A' (na.length + nb.length) c'] ∧ So encRz 2 w B 57 (.slice A (ra.length + rb.length) c) (ra ++ rb) ∧ So encPz 8 w B 52 (.slice A' (na.length + nb.length) c') (na ++ nb)
section
variable {ra rb : List Rz} {na nb : List Pz} {B : Nat} {l : Nat → Bool} {y : Vm} {u v : Value} {w w' : World} {K : Nat}
theorem HX.upd (h : HX ra rb na nb B l y u w) {i : Nat} (h3 : 3 ≠ i) (h6 : 6 ≠ i) (h10 : 10 ≠ i) (h13 : 13 ≠ i) : HX ra rb na nb B (updR l i true) y u w := by
  have e3 : updR l i true 3 = l 3 := updR_ne _ _ h3
  have e6 : updR l i true 6 = l 6 := updR_ne _ _ h6
  have e10 : updR l i true 10 = l 10 := updR_ne _ _ h10
  have e13 : updR l i true 13 = l 13 := updR_ne _ _ h13
  cases y <;> simp only [HX, e3, e6, e10, e13] at h ⊢ <;> exact h
theorem HX.mono (h : HX ra rb na nb B l y u w) (hb : Below w.heap.size w w') : HX ra rb na nb B l y u w' := by
  cases y with
  | v x => exact h
  | e1 => exact fun h9 => (h h9).below hb
  | r1 => exact ⟨h.1, fun h9 => (h.2 h9).below hb⟩
  | r2 => obtain ⟨h1, A, c, e, r⟩ := h; exact ⟨h1, A, c, e, r.below hb⟩
  | p0 => exact fun h9 => (h h9).below hb
  | p1 => exact ⟨h.1, fun h9 => (h.2 h9).below hb⟩
  | p2 => obtain ⟨h1, A, c, e, r⟩ := h; exact ⟨h1, A, c, e, r.below hb⟩
  | ag => obtain ⟨h1, A, c, A', c', e, r, p⟩ := h; exact ⟨h1, A, c, A', c', e, r.below hb, p.below hb⟩
theorem HX.set (h : HX ra rb na nb B l y u w) {b : Nat} {cs : Array Value} (g : Rwo w b cs 30) (i : Nat) (x : Value) : HX ra rb na nb B l y u (w.setCell ⟨b, i, none⟩ x) := by
  have k1 : ∀ {v : Value} {m : List Rz}, So encRz 2 w B 57 v m → So encRz 2 (w.setCell ⟨b, i, none⟩ x) B 57 v m := fun h => h.keep (grown_set _ _ _ _) (h.nebox g (by decide))
  have k2 : ∀ {v : Value} {m : List Pz}, So encPz 8 w B 52 v m → So encPz 8 (w.setCell ⟨b, i, none⟩ x) B 52 v m := fun h => h.keep (grown_set _ _ _ _) (h.nebox g (by decide))
  cases y with
  | v x => exact h
  | e1 => exact fun h9 => k1 (h h9)
  | r1 => exact ⟨h.1, fun h9 => k1 (h.2 h9)⟩
  | r2 => obtain ⟨h1, A, c, e, r⟩ := h; exact ⟨h1, A, c, e, k1 r⟩
  | p0 => exact fun h9 => k2 (h h9)
  | p1 => exact ⟨h.1, fun h9 => k2 (h.2 h9)⟩
  | p2 => obtain ⟨h1, A, c, e, r⟩ := h; exact ⟨h1, A, c, e, k2 r⟩
  | ag => obtain ⟨h1, A, c, A', c', e, r, p⟩ := h; exact ⟨h1, A, c, A', c', e, k1 r, k2 p⟩
theorem HX.g3 (h : HX ra rb na nb B l y u w) (hl : l 3 = false) {m : List Rz} (hv : So encRz 2 w K 57 v m) (hg : w.grownBy w' v.ownBlock) : HX ra rb na nb B (updR l 3 true) y u w' := by
  have e3 : updR l 3 true 3 = true := updR_same _ _ _
  have e10 : updR l 3 true 10 = l 10 := updR_ne _ _ (by decide)
  have e13 : updR l 3 true 13 = l 13 := updR_ne _ _ (by decide)
  have k2 : ∀ {v2 : Value} {m : List Pz}, So encPz 8 w B 52 v2 m → So encPz 8 w' B 52 v2 m := fun h => h.keepO hv (by decide) hg
  cases y with
  | v x => exact h
  | e1 => exact fun h9 => by rw [e3] at h9; cases h9
  | r1 => exact absurd h.1 (by rw [hl]; decide)
  | r2 => exact absurd h.1.1 (by rw [hl]; decide)
  | p0 => exact fun h9 => k2 (h (by rw [← e10]; exact h9))
  | p1 => exact ⟨by rw [e10]; exact h.1, fun h9 => k2 (h.2 (by rw [← e13]; exact h9))⟩
  | p2 => obtain ⟨h1, A, c, e, r⟩ := h; exact ⟨⟨by rw [e10]; exact h1.1, by rw [e13]; exact h1.2⟩, A, c, e, k2 r⟩
  | ag => exact absurd h.1.1 (by rw [hl]; decide)
theorem HX.g6 (h : HX ra rb na nb B l y u w) (hl : l 6 = false) (h3 : l 3 = true) {m : List Rz} (hv : So encRz 2 w K 57 v m) (hg : w.grownBy w' v.ownBlock) : HX ra rb na nb B (updR l 6 true) y u w' := by
  have e3 : updR l 6 true 3 = l 3 := updR_ne _ _ (by decide)
  have e6 : updR l 6 true 6 = true := updR_same _ _ _
  have e10 : updR l 6 true 10 = l 10 := updR_ne _ _ (by decide)
  have e13 : updR l 6 true 13 = l 13 := updR_ne _ _ (by decide)
  have k2 : ∀ {v2 : Value} {m : List Pz}, So encPz 8 w B 52 v2 m → So encPz 8 w' B 52 v2 m := fun h => h.keepO hv (by decide) hg
  cases y with
  | v x => exact h
  | e1 => exact fun h9 => by rw [e3, h3] at h9; cases h9
  | r1 => exact ⟨by rw [e3]; exact h.1, fun h9 => by rw [e6] at h9; cases h9⟩
  | r2 => exact absurd h.1.2 (by rw [hl]; decide)
  | p0 => exact fun h9 => k2 (h (by rw [← e10]; exact h9))
  | p1 => exact ⟨by rw [e10]; exact h.1, fun h9 => k2 (h.2 (by rw [← e13]; exact h9))⟩
  | p2 => obtain ⟨h1, A, c, e, r⟩ := h; exact ⟨⟨by rw [e10]; exact h1.1, by rw [e13]; exact h1.2⟩, A, c, e, k2 r⟩
  | ag => exact absurd h.1.2.1 (by rw [hl]; decide)
theorem HX.g10 (h : HX ra rb na nb B l y u w) (hl : l 10 = false) {m : List Pz} (hv : So encPz 8 w K 52 v m) (hg : w.grownBy w' v.ownBlock) : HX ra rb na nb B (updR l 10 true) y u w' := by
  have e3 : updR l 10 true 3 = l 3 := updR_ne _ _ (by decide)
  have e6 : updR l 10 true 6 = l 6 := updR_ne _ _ (by decide)
  have e10 : updR l 10 true 10 = true := updR_same _ _ _
  have k1 : ∀ {v2 : Value} {m : List Rz}, So encRz 2 w B 57 v2 m → So encRz 2 w' B 57 v2 m := fun h => h.keepO hv (by decide) hg
  cases y with
  | v x => exact h
  | e1 => exact fun h9 => k1 (h (by rw [← e3]; exact h9))
  | r1 => exact ⟨by rw [e3]; exact h.1, fun h9 => k1 (h.2 (by rw [← e6]; exact h9))⟩
  | r2 => obtain ⟨h1, A, c, e, r⟩ := h; exact ⟨⟨by rw [e3]; exact h1.1, by rw [e6]; exact h1.2⟩, A, c, e, k1 r⟩
  | p0 => exact fun h9 => by rw [e10] at h9; cases h9
  | p1 => exact absurd h.1 (by rw [hl]; decide)
  | p2 => exact absurd h.1.1 (by rw [hl]; decide)
  | ag => exact absurd h.1.2.2.1 (by rw [hl]; decide)
theorem HX.g13 (h : HX ra rb na nb B l y u w) (hl : l 13 = false) (h10 : l 10 = true) {m : List Pz} (hv : So encPz 8 w K 52 v m) (hg : w.grownBy w' v.ownBlock) : HX ra rb na nb B (updR l 13 true) y u w' := by
  have e3 : updR l 13 true 3 = l 3 := updR_ne _ _ (by decide)
  have e6 : updR l 13 true 6 = l 6 := updR_ne _ _ (by decide)
  have e10 : updR l 13 true 10 = l 10 := updR_ne _ _ (by decide)
  have e13 : updR l 13 true 13 = true := updR_same _ _ _
  have k1 : ∀ {v2 : Value} {m : List Rz}, So encRz 2 w B 57 v2 m → So encRz 2 w' B 57 v2 m := fun h => h.keepO hv (by decide) hg
  cases y with
  | v x => exact h
  | e1 => exact fun h9 => k1 (h (by rw [← e3]; exact h9))
  | r1 => exact ⟨by rw [e3]; exact h.1, fun h9 => k1 (h.2 (by rw [← e6]; exact h9))⟩
  | r2 => obtain ⟨h1, A, c, e, r⟩ := h; exact ⟨⟨by rw [e3]; exact h1.1, by rw [e6]; exact h1.2⟩, A, c, e, k1 r⟩
  | p0 => exact fun h9 => by rw [e10, h10] at h9; cases h9
  | p1 => exact ⟨by rw [e10]; exact h.1, fun h9 => by rw [e13] at h9; cases h9⟩
  | p2 => exact absurd h.1.2 (by rw [hl]; decide)
  | ag => exact absurd h.1.2.2.2 (by rw [hl]; decide)
end
/-- Box g holds the joined answer that is the value u. -/
def Bj (ra rb : List Rz) (na nb : List Pz) (B : Nat) (u : Value) (g : Nat) (w : World) : Prop :=
  ∃ A c A' c', u = .agg #[.slice A (ra.length + rb.length) c, .slice A' (na.length + nb.length) c'] ∧ B ≤ g ∧ Rwo w g (ceA A A' (ra.length + rb.length) (na.length + nb.length) c c') 30 ∧
    So encRz 2 w B 57 (.slice A (ra.length + rb.length) c) (ra ++ rb) ∧ So encPz 8 w B 52 (.slice A' (na.length + nb.length) c') (na ++ nb)
theorem Bj.mono {ra rb : List Rz} {na nb : List Pz} {B g : Nat} {u : Value} {w w' : World} (h : Bj ra rb na nb B u g w) (hb : Below w.heap.size w w') : Bj ra rb na nb B u g w' := by
  obtain ⟨A, c, A', c', e, hg, hr, h1, h2⟩ := h
  exact ⟨A, c, A', c', e, hg, hr.below hb, h1.below hb, h2.below hb⟩
theorem winGo_len (op to_ st : Int) : ∀ (f : Nat) (b : Int) (l acc : List Smp), (winGo op to_ st f b l acc).2.length ≤ acc.length + l.length
  | 0, _, _, _ => by simp [winGo]
  | f + 1, b, l, acc => by
    unfold winGo
    split
    · split
      · simp
      · split
        · exact winGo_len op to_ st f _ _ _
        · rename_i h1 h2
          split
          · have h3 := winGo_len op to_ st f (b + min st (to_ - b)) (l.drop (ah l (b + min st (to_ - b)))) (acc ++ [(b, (foldB op (l.take (ah l (b + min st (to_ - b))))).1)])
            have h4 := ah_le l (b + min st (to_ - b))
            rw [List.length_append, List.length_drop, List.length_singleton] at h3
            omega
          · simp
    · simp
theorem cellsQ_le (q : Qr) (l : List Smp) : (cellsQ q l).2.length ≤ l.length := by
  unfold cellsQ
  split
  · simp
  · unfold windowsB
    split
    · simp
    · split
      · simp
      · have h1 := winGo_len q.op q.to_ q.st (q.to_ - q.fr).toNat q.fr (l.drop (ah l q.fr)) []
        rw [List.length_drop, List.length_nil] at h1
        omega
/-- What is told of points is no greater than they are. -/
theorem tellQ_bd (q : Qr) {g : List Pt} {M : Nat} (hg : g.length ≤ M) (hs : ∀ p ∈ g, p.set.length ≤ M) : (∀ r ∈ (tellQ q g).2.1, r.1.length ≤ M ∧ r.2.length ≤ M) ∧ ∀ p ∈ (tellQ q g).2.2, p ∈ g := by
  unfold tellQ
  split
  · exact ⟨fun r h => (by cases h), fun p h => (by cases h)⟩
  · split
    · exact ⟨fun r h => (by cases h), fun p h => (by cases h)⟩
    · refine ⟨fun r h => ?_, fun p h => (List.mem_filter.1 h).1⟩
      dsimp only at h
      split at h
      · cases h
      · obtain rfl := List.mem_singleton.1 h
        refine ⟨?_, Nat.le_trans (cellsQ_le _ _) (Nat.le_trans (smpsQ_len _ _) hg)⟩
        cases g with
        | nil => simp [setAt]
        | cons p r => exact hs p (List.mem_cons_self)
theorem runGo_bd (q : Qr) {M : Nat} : ∀ (f : Nat) (l : List Pt) (R : List Rowq) (N : List Pt) (P : Pt → Prop), l.length ≤ M → (∀ p ∈ l, p.set.length ≤ M) → (∀ p ∈ l, P p) → (∀ r ∈ R, r.1.length ≤ M ∧ r.2.length ≤ M) → (∀ p ∈ N, P p) →
    (∀ r ∈ (runGo q f l R N).2.1, r.1.length ≤ M ∧ r.2.length ≤ M) ∧ (∀ p ∈ (runGo q f l R N).2.2, P p) ∧ (runGo q f l R N).2.1.length ≤ R.length + l.length ∧ (runGo q f l R N).2.2.length ≤ N.length + l.length
  | 0, l, R, N, P, _, _, _, hR, hN => ⟨hR, hN, by simp [runGo], by simp [runGo]⟩
  | f + 1, l, R, N, P, hl, hs, hp, hR, hN => by
    rw [runGo_succ]
    split
    · exact ⟨hR, hN, by simp, by simp⟩
    · rename_i h0
      split
      · exact ⟨fun r h => (by cases h), fun p h => (by cases h), by simp, by simp⟩
      · have h1 := firstN_pos h0
        have h2 := firstN_le l
        have hb := tellQ_bd q (g := l.take (firstN l)) (M := M) (by rw [List.length_take]; omega) (fun p h => hs p (List.mem_of_mem_take h))
        have hln := tellQ_len q (l.take (firstN l))
        rw [List.length_take] at hln
        obtain ⟨g1, g2, g3, g4⟩ := runGo_bd q f (l.drop (firstN l)) (R ++ (tellQ q (l.take (firstN l))).2.1) (N ++ (tellQ q (l.take (firstN l))).2.2) P (by rw [List.length_drop]; omega) (fun p h => hs p (List.mem_of_mem_drop h)) (fun p h => hp p (List.mem_of_mem_drop h))
          (fun r h => by rcases List.mem_append.1 h with h | h; (· exact hR r h); exact hb.1 r h) (fun p h => by rcases List.mem_append.1 h with h | h; (· exact hN p h); exact hp p (List.mem_of_mem_take (hb.2 p h)))
        refine ⟨g1, g2, ?_, ?_⟩
        · rw [List.length_append, List.length_drop] at g3; omega
        · rw [List.length_append, List.length_drop] at g4; omega
/-- What Run tells is no greater than what it is told of. -/
theorem runQ_bd (q : Qr) {l : List Pt} (hl : l.length ≤ 1048576) (h : ∀ p ∈ l, PtOk p) : (∀ r ∈ (runQ q l).2.1, r.1.length ≤ 1048576 ∧ r.2.length ≤ 1048576) ∧ (∀ p ∈ (runQ q l).2.2, PtOk p) ∧ (runQ q l).2.1.length ≤ 1048576 ∧ (runQ q l).2.2.length ≤ 1048576 := by
  unfold runQ
  split
  · exact ⟨fun r h => (by cases h), fun p h => (by cases h), by simp, by simp⟩
  · obtain ⟨g1, g2, g3, g4⟩ := runGo_bd q (M := 1048576) l.length l [] [] PtOk hl (fun p hp => (h p hp).1) h (fun r h => (by cases h)) (fun p h => (by cases h))
    rw [List.length_nil] at g3 g4
    exact ⟨g1, g2, by omega, by omega⟩
theorem runQ_nl (q : Qr) (l : List Pt) : (runQ q l).2.2.length ≤ l.length := by
  unfold runQ
  split
  · simp
  · have h9 : ∀ (f : Nat) (l : List Pt) (R : List Rowq) (N : List Pt), (runGo q f l R N).2.2.length ≤ N.length + l.length := by
      intro f
      induction f with
      | zero => intro l R N; simp [runGo]
      | succ f ih =>
        intro l R N
        rw [runGo_succ]
        split
        · simp
        · split
          · simp
          · have h2 := firstN_le l
            have h3 := tellQ_len q (l.take (firstN l))
            rw [List.length_take] at h3
            have h4 := ih (l.drop (firstN l)) (R ++ (tellQ q (l.take (firstN l))).2.1) (N ++ (tellQ q (l.take (firstN l))).2.2)
            rw [List.length_append, List.length_drop] at h4
            omega
    have := h9 l.length l [] []
    rwa [List.length_nil, Nat.zero_add] at this
inductive Vy where
  | v (x : Value)
  | td
/-- What is known of a value where two answers are held against one another. -/
def HY (RR : List Rowq) (NN : List Pt) (B : Nat) : Vy → Value → World → Prop
  | .v x, u, _ => u = x
  | .td, u, w => ∃ (A1 A2 : Option Addr) (c1 c2 : Nat) (rs : List Rz) (ns : List Pz), u = .agg #[.slice A1 RR.length c1, .slice A2 NN.length c2] ∧ rs.map Prod.fst = RR ∧ ns.map Prod.fst = NN ∧ Rh w B (.slice A1 RR.length c1) rs ∧
    Pw w B 65 93 (.slice A2 NN.length c2) ns
theorem HY.mono {RR : List Rowq} {NN : List Pt} {B : Nat} {y : Vy} {u : Value} {w w' : World} (h : HY RR NN B y u w) (hb : Below w.heap.size w w') : HY RR NN B y u w' := by
  cases y with
  | v x => exact h
  | td => obtain ⟨A1, A2, c1, c2, rs, ns, e, h1, h2, h3, h4⟩ := h; exact ⟨A1, A2, c1, c2, rs, ns, e, h1, h2, h3.below hb, h4.below hb⟩
theorem An0.bd {q : Qr} {lq : List Pt} {w : World} {B c1 c2 : Nat} {A1 A2 : Option Addr} {rs : List Rz} {ns : List Pz} (h : An0 q lq w B A1 A2 c1 c2 rs ns) (hl : lq.length ≤ 1048576) (hk : ∀ p ∈ lq, PtOk p) :
    (∀ r ∈ rs, r.1.1.length ≤ 1048576 ∧ r.1.2.length ≤ 1048576) ∧ (∀ x ∈ ns, x.1.set.length ≤ 1048576) ∧ rs.length ≤ 1048576 ∧ ns.length ≤ 1048576 := by
  obtain ⟨g1, g2, g3, g4⟩ := runQ_bd q hl hk
  rw [← h.r] at g1 g3
  rw [← h.n] at g2 g4
  rw [List.length_map] at g3 g4
  exact ⟨fun r hr => g1 r.1 (List.mem_map.2 ⟨r, hr, rfl⟩), fun x hx => (g2 x.1 (List.mem_map.2 ⟨x, hx, rfl⟩)).1, g3, g4⟩
end Go.Proofs.YtjhjcmjkmkllhaaGreatDoor
