/- The document's disk as such, its segments as a list; one segment turned in place. -/
import Derived.Test.YtpckbbjlihhpdaaRdB
namespace Go.Proofs.Ytpckbbjlihhpdaa
open Go.RowKit

structure RD (w : World) (B : Nat → Prop) (m : Nat) (a : Ad) : Prop where
  ex : ∃ A cap qs, RK w m a.room a.fuse a.down A cap qs ∧ qs.map Rq.x = a.L ∧ ∀ k, fK m A cap qs k → B k
  bt : ∀ k, B k → k < w.heap.size
def Rn (w : World) (B : Nat → Prop) (m : Nat) (r : Int) (a : Ad) (e : Ending) (w' : World) : Prop :=
  e = .returned (.int .i64 r) ∧ ∃ B', RD w' B' m a ∧ Tn B w w' ∧ ∀ k, B' k → B k ∨ w.heap.size ≤ k
/-- What the program's disk says of the same. -/
structure Lim (a : Ad) : Prop where
  le : ((sumA a.L : Nat) : Int) ≤ a.room
  rm : a.room ≤ 67108864
  ln : a.L.length ≤ 1024
  f1 : -1 ≤ a.fuse
  f2 : a.fuse ≤ 9223372036854775807
  ri : a.L.Pairwise fun x y => x.n < y.n
theorem find_cases (L : List As) (n : Int) : (hasA L n = false ∧ findI L n = -1) ∨ ∃ (i : Nat) (x : As), L[i]? = some x ∧ x.n = n ∧ findI L n = (i : Int) ∧ hasA L n = true := by
  by_cases h : fiA L n < L.length
  · right
    have h1 : ∀ (L : List As), fiA L n < L.length → ∃ x, L[fiA L n]? = some x ∧ x.n = n := by
      intro L
      induction L with
      | nil => intro h; simp at h
      | cons y L ih =>
        intro h
        unfold fiA at h ⊢
        by_cases hy : y.n = n
        · rw [List.takeWhile_cons, if_neg (by simp [hy])]
          exact ⟨y, rfl, hy⟩
        · rw [List.takeWhile_cons, if_pos (by simp [hy])] at h ⊢
          simp only [List.length_cons, Nat.add_lt_add_iff_right] at h
          obtain ⟨x, hx, hn⟩ := ih h
          exact ⟨x, by simpa [fiA] using hx, hn⟩
    obtain ⟨x, hx, hn⟩ := h1 L h
    refine ⟨fiA L n, x, hx, hn, if_pos h, ?_⟩
    unfold hasA
    rw [List.any_eq_true]
    exact ⟨x, List.mem_of_getElem? hx, by simpa using hn⟩
  · left
    refine ⟨?_, if_neg h⟩
    have h1 : ∀ (L : List As), hasA L n = true → fiA L n < L.length := by
      intro L
      induction L with
      | nil => intro h; simp [hasA] at h
      | cons y L ih =>
        intro h
        unfold fiA
        by_cases hy : y.n = n
        · rw [List.takeWhile_cons, if_neg (by simp [hy])]
          simp
        · rw [List.takeWhile_cons, if_pos (by simp [hy])]
          have := ih (by simpa [hasA, hy] using h)
          unfold fiA at this
          simpa using this
    cases hh : hasA L n with
    | false => rfl
    | true => exact absurd (h1 L hh) h
theorem sync_id (n : Int) (r : List As) (h : ∀ x ∈ r, n < x.n) : syncA n r = r := by
  induction r with
  | nil => rfl
  | cons x r ih =>
    have h1 := h x (by simp)
    show (if x.n = n then _ else x) :: syncA n r = _
    rw [if_neg (by omega), ih fun y hy => h y (by simp [hy])]
theorem sync_at {n : Int} : ∀ {L : List As} {i : Nat} {x : As}, L.Pairwise (fun x y => x.n < y.n) → L[i]? = some x → x.n = n → syncA n L = L.set i ⟨x.n, x.b, x.b.length, true⟩
  | [], i, x, _, h, _ => by simp at h
  | y :: r, 0, x, hp, h, hn => by
    simp at h
    subst h
    rw [List.pairwise_cons] at hp
    show (if y.n = n then _ else y) :: syncA n r = _
    rw [if_pos hn, sync_id n r fun z hz => hn ▸ hp.1 z hz]
    rfl
  | y :: r, i + 1, x, hp, h, hn => by
    rw [List.pairwise_cons] at hp
    have h1 : r[i]? = some x := by simpa using h
    have h2 := hp.1 x (List.mem_of_getElem? h1)
    show (if y.n = n then _ else y) :: syncA n r = _
    rw [if_neg (by omega), sync_at hp.2 h1 hn]
    rfl
theorem put_at {n : Int} {p : List UInt8} : ∀ {L : List As} {i : Nat} {x : As}, L.Pairwise (fun x y => x.n < y.n) → L[i]? = some x → x.n = n → putA n p L = L.set i ⟨x.n, x.b ++ p, x.l, x.k⟩
  | [], i, x, _, h, _ => by simp at h
  | y :: r, 0, x, hp, h, hn => by
    simp at h
    subst h
    unfold putA
    rw [if_neg (by omega), if_pos hn]
    rfl
  | y :: r, i + 1, x, hp, h, hn => by
    rw [List.pairwise_cons] at hp
    have h1 : r[i]? = some x := by simpa using h
    have h2 := hp.1 x (List.mem_of_getElem? h1)
    unfold putA
    rw [if_neg (by omega), if_neg (by omega), put_at hp.2 h1 hn]
    rfl
theorem put_new {n : Int} {p : List UInt8} : ∀ {L : List As} {k : Nat}, k ≤ L.length → (∀ j (hj : j < L.length), j < k → L[j].n < n) → (∀ h : k < L.length, n < L[k].n) → putA n p L = L.take k ++ ⟨n, p, 0, false⟩ :: L.drop k
  | [], k, hk, _, _ => by
    have : k = 0 := by simpa using hk
    subst this
    rfl
  | y :: r, 0, _, _, h => by
    have := h (by simp)
    simp only [List.getElem_cons_zero] at this
    unfold putA
    rw [if_pos this]
    rfl
  | y :: r, k + 1, hk, hj, h => by
    have h0 := hj 0 (by simp) (by omega)
    simp only [List.getElem_cons_zero] at h0
    unfold putA
    rw [if_neg (by omega), if_neg (by omega), put_new (k := k) (by simpa using hk) (fun j hjl hjk => by have := hj (j + 1) (by simp; omega) (by omega); simpa using this) (fun hl => by have := h (by simp; omega); simpa using this)]
    rfl
theorem drop_id (n : Int) (r : List As) (h : ∀ x ∈ r, n < x.n) : dropA n r = r := by
  unfold dropA
  rw [List.filter_eq_self]
  intro x hx
  have := h x hx
  simp
  omega
theorem drop_at {n : Int} : ∀ {L : List As} {i : Nat} {x : As}, L.Pairwise (fun x y => x.n < y.n) → L[i]? = some x → x.n = n → dropA n L = L.take i ++ L.drop (i + 1)
  | [], i, x, _, h, _ => by simp at h
  | y :: r, 0, x, hp, h, hn => by
    simp at h
    subst h
    rw [List.pairwise_cons] at hp
    unfold dropA
    rw [List.filter_cons, if_neg (by simp [hn])]
    exact drop_id n r fun z hz => hn ▸ hp.1 z hz
  | y :: r, i + 1, x, hp, h, hn => by
    rw [List.pairwise_cons] at hp
    have h1 : r[i]? = some x := by simpa using h
    have h2 := hp.1 x (List.mem_of_getElem? h1)
    have ih := drop_at hp.2 h1 hn
    unfold dropA at ih ⊢
    rw [List.filter_cons, if_pos (by simp; omega), ih]
    rfl
section
variable {P B : Nat → Prop} {w wx w1 w' : World} {m cap i g : Nat} {room fuse : Int} {down : Bool} {A : Option Addr} {qs : List Rq} {q q' : Rq} {a : Ad}
theorem RD.tn (h : RD w B m a) (t : Tn P w w') (hP : ∀ k, B k → ¬ P k) : RD w' B m a := by
  obtain ⟨A, cap, qs, D, e, hb⟩ := h.ex
  exact ⟨⟨A, cap, qs, D.tn t fun k hk => hP k (hb k hk), e, hb⟩, fun k hk => Nat.lt_of_lt_of_le (h.bt k hk) t.size⟩
theorem RD.below (h : RD w B m a) (hb : Below w.heap.size w w') : RD w' B m a := h.tn (Tn.ofNew (P := fun _ => False) hb) fun _ _ h => h
theorem RD.turned {a' : Ad} {A' : Option Addr} {cap' : Nat} {qs' : List Rq} (hB : ∀ k, fK m A cap qs k → B k) (D : RK w' m a'.room a'.fuse a'.down A' cap' qs') (e : qs'.map Rq.x = a'.L) (t : Tn (fK m A cap qs) w w') (hN : ∀ k, fK m A' cap' qs' k → fK m A cap qs k ∨ w.heap.size ≤ k) (r : Int) : Rn w B m r a' (.returned (.int .i64 r)) w' :=
  ⟨rfl, fK m A' cap' qs', ⟨⟨_, _, _, D, e, fun _ h => h⟩, fun _ hk => D.lt hk⟩, t.mono fun k _ hk => hB k hk, fun k hk => (hN k hk).imp (hB k) id⟩
/-- One segment of the row has turned. -/
theorem RK.put (h : RK wx m room fuse down (some ⟨g, 0, none⟩) cap qs) (t : Tn (· = g) wx w') (so : So encQ 4 w' 0 SG (.slice (some ⟨g, 0, none⟩) qs.length cap) (qs.set i q')) (gq : GQ w' q') (sep : ∀ k, fq q' k → k ≠ m ∧ k ≠ g) : RK w' m room fuse down (some ⟨g, 0, none⟩) cap (qs.set i q') := by
  have hgm : m ≠ g := fun e => h.nm (by rw [e]; rfl)
  have hml : m < wx.heap.size := World.block_lt_of_cell? wx _ h.c0
  have hmem : ∀ x ∈ qs.set i q', x ∈ qs ∨ x = q' := fun x hx => List.mem_or_eq_of_mem_set hx
  refine ⟨t.cell h.c0 hgm, ?_, t.cell h.c2 hgm, t.cell h.c3 hgm, fun j => (t.frozen (p := ⟨m, j, none⟩) hml hgm).trans (h.fr j), ?_, ?_, fun x hx => ?_, fun x hx k hk => ?_⟩
  · rw [List.length_set]; exact t.cell h.c1 hgm
  · rw [List.length_set]; exact so
  · rw [List.length_set]; exact h.nm
  · rcases hmem x hx with hx | rfl
    · exact (h.gq x hx).tn t fun k hk e => (h.sep x hx k hk).2 (by rw [e]; rfl)
    · exact gq
  · rcases hmem x hx with hx | rfl
    · have := h.sep x hx k hk
      rw [List.length_set]
      exact this
    · have := sep k hk
      refine ⟨this.1, fun e => this.2 ?_⟩
      injection e with e
      exact e.symm
theorem fK_set {k : Nat} (hk : fK m (some ⟨g, 0, none⟩) cap (qs.set i q') k) : fK m (some ⟨g, 0, none⟩) cap qs k ∨ fq q' k := by
  rcases hk with rfl | hk | ⟨x, hx, hk⟩
  · exact .inl (.inl rfl)
  · rw [List.length_set] at hk
    exact .inl (.inr (.inl hk))
  · rcases List.mem_or_eq_of_mem_set hx with hx | rfl
    · exact .inl (.inr (.inr ⟨x, hx, hk⟩))
    · exact .inr hk
/-- What a store of one segment, or of its other bytes, leaves. -/
def Es (w : World) (m : Nat) (room fuse : Int) (down : Bool) (g cap : Nat) (qs : List Rq) (i : Nat) (x : As) (w' : World) : Prop :=
  ∃ q', q'.x = x ∧ RK w' m room fuse down (some ⟨g, 0, none⟩) cap (qs.set i q') ∧ Tn (· = g) w w' ∧ ∀ k, fK m (some ⟨g, 0, none⟩) cap (qs.set i q') k → fK m (some ⟨g, 0, none⟩) cap qs k ∨ w.heap.size ≤ k
theorem Gd.lts (hw : RK w m room fuse down (some ⟨g, 0, none⟩) cap qs) : m < w.heap.size ∧ g < w.heap.size := ⟨World.block_lt_of_cell? w _ hw.c0, (hw.so.lt g rfl).2⟩
theorem own_block {k : Nat} {ad : Addr} {K n c : Nat} {l : List UInt8} {A9 : Option Addr} (ho : Ob wx K (.slice A9 n c) l) (hl : 0 < l.length) (e : A9 = some ad) (ek : ad.block = k) : K ≤ k ∧ (Value.slice A9 n c).ownBlock = some k := by
  have hn := ho.bs.2
  obtain ⟨g', e', h1, h2⟩ := ho.addr (by omega)
  rw [e'] at e
  cases e
  subst ek
  refine ⟨h1, ?_⟩
  rw [e']
  rfl
def put4 (w : World) (g o : Nat) (q : Rq) : World := (((w.setCell ⟨g, o, none⟩ (.int .i64 q.x.n)).setCell ⟨g, o + 1, none⟩ (.slice q.A q.x.l q.c)).setCell ⟨g, o + 2, none⟩ (.slice q.B (q.x.b.length - q.x.l) q.d)).setCell ⟨g, o + 3, none⟩ (.bool q.x.k)
theorem put4_tn (w : World) (g o : Nat) (q : Rq) : Tn (· = g) w (put4 w g o q) := (((Tn.setCell w g o _).then (Tn.setCell _ g (o + 1) _)).then (Tn.setCell _ g (o + 2) _)).then (Tn.setCell _ g (o + 3) _)
theorem flat_set4 : ∀ (l : List Rq) (i : Nat) (x : Rq), ((((l.flatMap encQ).set (i * 4) (.int .i64 x.x.n)).set (i * 4 + 1) (.slice x.A x.x.l x.c)).set (i * 4 + 2) (.slice x.B (x.x.b.length - x.x.l) x.d)).set (i * 4 + 3) (.bool x.x.k) = (l.set i x).flatMap encQ
  | [], i, x => by simp
  | y :: l, 0, x => by simp [encQ]
  | y :: l, i + 1, x => by
    have ih := flat_set4 l i x
    have e : (i + 1) * 4 = i * 4 + 4 := by omega
    rw [e, List.flatMap_cons, List.set_cons_succ, List.flatMap_cons, ← ih]
    simp [encQ]
theorem so_put4 {K n : Nat} {T : TypeId} (h : So encQ 4 w K T (.slice (some ⟨g, 0, none⟩) n cap) qs) (q' : Rq) : So encQ 4 (put4 w g (i * 4) q') K T (.slice (some ⟨g, 0, none⟩) n cap) (qs.set i q') := by
  have hn := (h.sr encQ_len).2
  subst hn
  have h1 := (World.ownsRow.stored h (i * 4) (.int .i64 q'.x.n)).1
  have h2 := (World.ownsRow.stored h1 (i * 4 + 1) (.slice q'.A q'.x.l q'.c)).1
  have h3 := (World.ownsRow.stored h2 (i * 4 + 2) (.slice q'.B (q'.x.b.length - q'.x.l) q'.d)).1
  have h4 := (World.ownsRow.stored h3 (i * 4 + 3) (.bool q'.x.k)).1
  unfold So
  rw [List.length_set, ← flat_set4]
  exact h4
theorem es_sync {b : List UInt8} {n : Int} {A9 : Option Addr} {c9 : Nat} (hw : RK w m room fuse down (some ⟨g, 0, none⟩) cap qs) (h : Gd w m room fuse down (some ⟨g, 0, none⟩) cap qs wx) (ho : Ob wx w.heap.size (.slice A9 b.length c9) b) :
    Es w m room fuse down g cap qs i ⟨n, b, b.length, true⟩ (put4 wx g (i * 4) ⟨⟨n, b, b.length, true⟩, A9, c9, none, 0⟩) := by
  obtain ⟨hm, hg⟩ := Gd.lts hw
  have t := put4_tn wx g (i * 4) ⟨⟨n, b, b.length, true⟩, A9, c9, none, 0⟩
  have hfq : ∀ k, fq ⟨⟨n, b, b.length, true⟩, A9, c9, none, 0⟩ k → w.heap.size ≤ k := by
    rintro k (⟨hl, ad, e, ek⟩ | ⟨hl, ad, e, _⟩)
    · exact (own_block ho (by simpa using hl) e ek).1
    · cases e
  refine ⟨_, rfl, h.k.put t (so_put4 h.k.so _) ⟨Nat.le_refl _, ?_, ?_⟩ (fun k hk => by have := hfq k hk; omega), (Tn.ofNew h.bel).then t, fun k hk => (fK_set hk).imp id (hfq k)⟩
  · have h1 := t.ob ho fun k hk e => by have := ho.lt k hk; omega
    simpa using h1.bs.1
  · simp only [List.drop_length]
    exact ⟨Nat.zero_le _, Nat.zero_le _, fun _ => rfl, fun h => absurd h (by simp)⟩
end
end Go.Proofs.Ytpckbbjlihhpdaa
