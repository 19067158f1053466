/- A disk's Crash. -/
import Derived.Test.YtkkaehaoahpibaaPk3
import Derived.Test.YtkkaehaoahpibaaPk6
import Derived.Test.YtkkaehaoahpibaaPk0
import Derived.LoopTactic
namespace Go.Proofs.Ytkkaehaoahpibaa
open Go.RowKit

structure RD (w : World) (B : Nat → Prop) (m : Nat) (a : Ad) : Prop where
  ex : ∃ A cap qs, RK w m a.room a.fuse a.down A cap qs ∧ qs.map Rq.x = a.L ∧ ∀ k, fK m A cap qs k → B k
  bt : ∀ k, B k → k < w.heap.size
def Rn (w : World) (B : Nat → Prop) (m : Nat) (r : Int) (a : Ad) (e : Ending) (w' : World) : Prop :=
  e = .returned (.int .i64 r) ∧ ∃ B', RD w' B' m a ∧ Tn B w w' ∧ ∀ k, B' k → B k ∨ w.heap.size ≤ k
/-- What the program's disk says of the same. -/
structure Lim (a : Ad) : Prop where
  le : ((sumA a.L : Nat) : Int) ≤ a.room
  rm : a.room ≤ 67108864
  ln : a.L.length ≤ 1024
  f1 : -1 ≤ a.fuse
  f2 : a.fuse ≤ 9223372036854775807
  ri : a.L.Pairwise fun x y => x.n < y.n
theorem find_cases (L : List As) (n : Int) : (hasA L n = false ∧ findI L n = -1) ∨ ∃ (i : Nat) (x : As), L[i]? = some x ∧ x.n = n ∧ findI L n = (i : Int) ∧ hasA L n = true := by
  by_cases h : fiA L n < L.length
  · right
    have h1 : ∀ (L : List As), fiA L n < L.length → ∃ x, L[fiA L n]? = some x ∧ x.n = n := by
      intro L
      induction L with
      | nil => intro h; simp at h
      | cons y L ih =>
        intro h
        unfold fiA at h ⊢
        by_cases hy : y.n = n
        · rw [List.takeWhile_cons, if_neg (by simp [hy])]
          exact ⟨y, rfl, hy⟩
        · rw [List.takeWhile_cons, if_pos (by simp [hy])] at h ⊢
          simp only [List.length_cons, Nat.add_lt_add_iff_right] at h
          obtain ⟨x, hx, hn⟩ := ih h
          exact ⟨x, by simpa [fiA] using hx, hn⟩
    obtain ⟨x, hx, hn⟩ := h1 L h
    refine ⟨fiA L n, x, hx, hn, if_pos h, ?_⟩
    unfold hasA
    rw [List.any_eq_true]
    exact ⟨x, List.mem_of_getElem? hx, by simpa using hn⟩
  · left
    refine ⟨?_, if_neg h⟩
    have h1 : ∀ (L : List As), hasA L n = true → fiA L n < L.length := by
      intro L
      induction L with
      | nil => intro h; simp [hasA] at h
      | cons y L ih =>
        intro h
        unfold fiA
        by_cases hy : y.n = n
        · rw [List.takeWhile_cons, if_neg (by simp [hy])]
          simp
        · rw [List.takeWhile_cons, if_pos (by simp [hy])]
          have := ih (by simpa [hasA, hy] using h)
          unfold fiA at this
          simpa using this
    cases hh : hasA L n with
    | false => rfl
    | true => exact absurd (h1 L hh) h
theorem sync_id (n : Int) (r : List As) (h : ∀ x ∈ r, n < x.n) : syncA n r = r := by
  induction r with
  | nil => rfl
  | cons x r ih =>
    have h1 := h x (by simp)
    show (if x.n = n then _ else x) :: syncA n r = _
    rw [if_neg (by omega), ih fun y hy => h y (by simp [hy])]
theorem sync_at {n : Int} : ∀ {L : List As} {i : Nat} {x : As}, L.Pairwise (fun x y => x.n < y.n) → L[i]? = some x → x.n = n → syncA n L = L.set i ⟨x.n, x.b, x.b.length, true⟩
  | [], i, x, _, h, _ => by simp at h
  | y :: r, 0, x, hp, h, hn => by
    simp at h
    subst h
    rw [List.pairwise_cons] at hp
    show (if y.n = n then _ else y) :: syncA n r = _
    rw [if_pos hn, sync_id n r fun z hz => hn ▸ hp.1 z hz]
    rfl
  | y :: r, i + 1, x, hp, h, hn => by
    rw [List.pairwise_cons] at hp
    have h1 : r[i]? = some x := by simpa using h
    have h2 := hp.1 x (List.mem_of_getElem? h1)
    show (if y.n = n then _ else y) :: syncA n r = _
    rw [if_neg (by omega), sync_at hp.2 h1 hn]
    rfl
theorem put_at {n : Int} {p : List UInt8} : ∀ {L : List As} {i : Nat} {x : As}, L.Pairwise (fun x y => x.n < y.n) → L[i]? = some x → x.n = n → putA n p L = L.set i ⟨x.n, x.b ++ p, x.l, x.k⟩
  | [], i, x, _, h, _ => by simp at h
  | y :: r, 0, x, hp, h, hn => by
    simp at h
    subst h
    unfold putA
    rw [if_neg (by omega), if_pos hn]
    rfl
  | y :: r, i + 1, x, hp, h, hn => by
    rw [List.pairwise_cons] at hp
    have h1 : r[i]? = some x := by simpa using h
    have h2 := hp.1 x (List.mem_of_getElem? h1)
    unfold putA
    rw [if_neg (by omega), if_neg (by omega), put_at hp.2 h1 hn]
    rfl
theorem put_new {n : Int} {p : List UInt8} : ∀ {L : List As} {k : Nat}, k ≤ L.length → (∀ j (hj : j < L.length), j < k → L[j].n < n) → (∀ h : k < L.length, n < L[k].n) → putA n p L = L.take k ++ ⟨n, p, 0, false⟩ :: L.drop k
  | [], k, hk, _, _ => by
    have : k = 0 := by simpa using hk
    subst this
    rfl
  | y :: r, 0, _, _, h => by
    have := h (by simp)
    simp only [List.getElem_cons_zero] at this
    unfold putA
    rw [if_pos this]
    rfl
  | y :: r, k + 1, hk, hj, h => by
    have h0 := hj 0 (by simp) (by omega)
    simp only [List.getElem_cons_zero] at h0
    unfold putA
    rw [if_neg (by omega), if_neg (by omega), put_new (k := k) (by simpa using hk) (fun j hjl hjk => by have := hj (j + 1) (by simp; omega) (by omega); simpa using this) (fun hl => by have := h (by simp; omega); simpa using this)]
    rfl
theorem drop_id (n : Int) (r : List As) (h : ∀ x ∈ r, n < x.n) : dropA n r = r := by
  unfold dropA
  rw [List.filter_eq_self]
  intro x hx
  have := h x hx
  simp
  omega
theorem drop_at {n : Int} : ∀ {L : List As} {i : Nat} {x : As}, L.Pairwise (fun x y => x.n < y.n) → L[i]? = some x → x.n = n → dropA n L = L.take i ++ L.drop (i + 1)
  | [], i, x, _, h, _ => by simp at h
  | y :: r, 0, x, hp, h, hn => by
    simp at h
    subst h
    rw [List.pairwise_cons] at hp
    unfold dropA
    rw [List.filter_cons, if_neg (by simp [hn])]
    exact drop_id n r fun z hz => hn ▸ hp.1 z hz
  | y :: r, i + 1, x, hp, h, hn => by
    rw [List.pairwise_cons] at hp
    have h1 : r[i]? = some x := by simpa using h
    have h2 := hp.1 x (List.mem_of_getElem? h1)
    have ih := drop_at hp.2 h1 hn
    unfold dropA at ih ⊢
    rw [List.filter_cons, if_pos (by simp; omega), ih]
    rfl
section
variable {P B : Nat → Prop} {w wx w1 w' : World} {m cap i g : Nat} {room fuse : Int} {down : Bool} {A : Option Addr} {qs : List Rq} {q q' : Rq} {a : Ad}
theorem RD.tn (h : RD w B m a) (t : Tn P w w') (hP : ∀ k, B k → ¬ P k) : RD w' B m a := by
  obtain ⟨A, cap, qs, D, e, hb⟩ := h.ex
  exact ⟨⟨A, cap, qs, D.tn t fun k hk => hP k (hb k hk), e, hb⟩, fun k hk => Nat.lt_of_lt_of_le (h.bt k hk) t.size⟩
theorem RD.below (h : RD w B m a) (hb : Below w.heap.size w w') : RD w' B m a := h.tn (Tn.ofNew (P := fun _ => False) hb) fun _ _ h => h
theorem RD.turned {a' : Ad} {A' : Option Addr} {cap' : Nat} {qs' : List Rq} (hB : ∀ k, fK m A cap qs k → B k) (D : RK w' m a'.room a'.fuse a'.down A' cap' qs') (e : qs'.map Rq.x = a'.L) (t : Tn (fK m A cap qs) w w') (hN : ∀ k, fK m A' cap' qs' k → fK m A cap qs k ∨ w.heap.size ≤ k) (r : Int) : Rn w B m r a' (.returned (.int .i64 r)) w' :=
  ⟨rfl, fK m A' cap' qs', ⟨⟨_, _, _, D, e, fun _ h => h⟩, fun _ hk => D.lt hk⟩, t.mono fun k _ hk => hB k hk, fun k hk => (hN k hk).imp (hB k) id⟩
/-- One segment of the row has turned. -/
theorem RK.put (h : RK wx m room fuse down (some ⟨g, 0, none⟩) cap qs) (t : Tn (· = g) wx w') (so : So encQ 4 w' 0 SG (.slice (some ⟨g, 0, none⟩) qs.length cap) (qs.set i q')) (gq : GQ w' q') (sep : ∀ k, fq q' k → k ≠ m ∧ k ≠ g) : RK w' m room fuse down (some ⟨g, 0, none⟩) cap (qs.set i q') := by
  have hgm : m ≠ g := fun e => h.nm (by rw [e]; rfl)
  have hml : m < wx.heap.size := World.block_lt_of_cell? wx _ h.c0
  have hmem : ∀ x ∈ qs.set i q', x ∈ qs ∨ x = q' := fun x hx => List.mem_or_eq_of_mem_set hx
  refine ⟨t.cell h.c0 hgm, ?_, t.cell h.c2 hgm, t.cell h.c3 hgm, fun j => (t.frozen (p := ⟨m, j, none⟩) hml hgm).trans (h.fr j), ?_, ?_, fun x hx => ?_, fun x hx k hk => ?_⟩
  · rw [List.length_set]; exact t.cell h.c1 hgm
  · rw [List.length_set]; exact so
  · rw [List.length_set]; exact h.nm
  · rcases hmem x hx with hx | rfl
    · exact (h.gq x hx).tn t fun k hk e => (h.sep x hx k hk).2 (by rw [e]; rfl)
    · exact gq
  · rcases hmem x hx with hx | rfl
    · have := h.sep x hx k hk
      rw [List.length_set]
      exact this
    · have := sep k hk
      refine ⟨this.1, fun e => this.2 ?_⟩
      injection e with e
      exact e.symm
theorem fK_set {k : Nat} (hk : fK m (some ⟨g, 0, none⟩) cap (qs.set i q') k) : fK m (some ⟨g, 0, none⟩) cap qs k ∨ fq q' k := by
  rcases hk with rfl | hk | ⟨x, hx, hk⟩
  · exact .inl (.inl rfl)
  · rw [List.length_set] at hk
    exact .inl (.inr (.inl hk))
  · rcases List.mem_or_eq_of_mem_set hx with hx | rfl
    · exact .inl (.inr (.inr ⟨x, hx, hk⟩))
    · exact .inr hk
/-- What a store of one segment, or of its other bytes, leaves. -/
def Es (w : World) (m : Nat) (room fuse : Int) (down : Bool) (g cap : Nat) (qs : List Rq) (i : Nat) (x : As) (w' : World) : Prop :=
  ∃ q', q'.x = x ∧ RK w' m room fuse down (some ⟨g, 0, none⟩) cap (qs.set i q') ∧ Tn (· = g) w w' ∧ ∀ k, fK m (some ⟨g, 0, none⟩) cap (qs.set i q') k → fK m (some ⟨g, 0, none⟩) cap qs k ∨ w.heap.size ≤ k
theorem Gd.lts (hw : RK w m room fuse down (some ⟨g, 0, none⟩) cap qs) : m < w.heap.size ∧ g < w.heap.size := ⟨World.block_lt_of_cell? w _ hw.c0, (hw.so.lt g rfl).2⟩
def put4 (w : World) (g o : Nat) (q : Rq) : World := (((w.setCell ⟨g, o, none⟩ (.int .i64 q.x.n)).setCell ⟨g, o + 1, none⟩ (.slice q.A q.x.l q.c)).setCell ⟨g, o + 2, none⟩ (.slice q.B (q.x.b.length - q.x.l) q.d)).setCell ⟨g, o + 3, none⟩ (.bool q.x.k)
theorem put4_tn (w : World) (g o : Nat) (q : Rq) : Tn (· = g) w (put4 w g o q) := (((Tn.setCell w g o _).then (Tn.setCell _ g (o + 1) _)).then (Tn.setCell _ g (o + 2) _)).then (Tn.setCell _ g (o + 3) _)
theorem flat_set4 : ∀ (l : List Rq) (i : Nat) (x : Rq), ((((l.flatMap encQ).set (i * 4) (.int .i64 x.x.n)).set (i * 4 + 1) (.slice x.A x.x.l x.c)).set (i * 4 + 2) (.slice x.B (x.x.b.length - x.x.l) x.d)).set (i * 4 + 3) (.bool x.x.k) = (l.set i x).flatMap encQ
  | [], i, x => by simp
  | y :: l, 0, x => by simp [encQ]
  | y :: l, i + 1, x => by
    have ih := flat_set4 l i x
    have e : (i + 1) * 4 = i * 4 + 4 := by omega
    rw [e, List.flatMap_cons, List.set_cons_succ, List.flatMap_cons, ← ih]
    simp [encQ]
theorem so_put4 {K n : Nat} {T : TypeId} (h : So encQ 4 w K T (.slice (some ⟨g, 0, none⟩) n cap) qs) (q' : Rq) : So encQ 4 (put4 w g (i * 4) q') K T (.slice (some ⟨g, 0, none⟩) n cap) (qs.set i q') := by
  have hn := (h.sr encQ_len).2
  subst hn
  have h1 := (World.ownsRow.stored h (i * 4) (.int .i64 q'.x.n)).1
  have h2 := (World.ownsRow.stored h1 (i * 4 + 1) (.slice q'.A q'.x.l q'.c)).1
  have h3 := (World.ownsRow.stored h2 (i * 4 + 2) (.slice q'.B (q'.x.b.length - q'.x.l) q'.d)).1
  have h4 := (World.ownsRow.stored h3 (i * 4 + 3) (.bool q'.x.k)).1
  unfold So
  rw [List.length_set, ← flat_set4]
  exact h4
theorem es_sync {b : List UInt8} {n : Int} {A9 : Option Addr} {c9 : Nat} (hw : RK w m room fuse down (some ⟨g, 0, none⟩) cap qs) (h : Gd w m room fuse down (some ⟨g, 0, none⟩) cap qs wx) (ho : Ob wx w.heap.size (.slice A9 b.length c9) b) :
    Es w m room fuse down g cap qs i ⟨n, b, b.length, true⟩ (put4 wx g (i * 4) ⟨⟨n, b, b.length, true⟩, A9, c9, none, 0⟩) := by
  obtain ⟨hm, hg⟩ := Gd.lts hw
  have t := put4_tn wx g (i * 4) ⟨⟨n, b, b.length, true⟩, A9, c9, none, 0⟩
  have hfq : ∀ k, fq ⟨⟨n, b, b.length, true⟩, A9, c9, none, 0⟩ k → w.heap.size ≤ k := by
    rintro k (⟨hl, ad, e, ek⟩ | ⟨hl, ad, e, _⟩)
    · exact (own_block ho (by simpa using hl) e ek).1
    · cases e
  refine ⟨_, rfl, h.k.put t (so_put4 h.k.so _) ⟨Nat.le_refl _, ?_, ?_⟩ (fun k hk => by have := hfq k hk; omega), (Tn.ofNew h.bel).then t, fun k hk => (fK_set hk).imp id (hfq k)⟩
  · have h1 := t.ob ho fun k hk e => by have := ho.lt k hk; omega
    simpa using h1.bs.1
  · simp only [List.drop_length]
    exact ⟨Nat.zero_le _, Nat.zero_le _, fun _ => rfl, fun h => absurd h (by simp)⟩
end
end Go.Proofs.Ytkkaehaoahpibaa
namespace Go.Proofs.Ytkkaehaoahpibaa
open Go.RowKit Go.BigFrame

theorem info_sg : (Try.prog.info? SG).map (fun i => (i.zero, i.size, i.bytes)) = some (some (.agg #[.int .i64 0, .slice none 0 0, .slice none 0 0, .bool false]), 4, 64) := by kernel_rfl
theorem RK.newLB {w1 wr : World} {m cap c' : Nat} {room fuse : Int} {down : Bool} {A A' : Option Addr} {qs rs : List Rq} (h : RK w1 m room fuse down A cap qs) (hb : Below w1.heap.size w1 wr) (so : So encQ 4 wr w1.heap.size SG (.slice A' rs.length c') rs)
    (hr : ∀ q ∈ rs, GQ wr q ∧ ∀ k, fq q k → k ≠ m ∧ (Value.slice A' rs.length c').ownBlock ≠ some k ∧ (fK m A cap qs k ∨ w1.heap.size ≤ k)) :
    RK (wr.setCell ⟨m, 1, none⟩ (.slice A' rs.length c')) m room fuse down A' c' rs ∧ Tn (fK m A cap qs) w1 (wr.setCell ⟨m, 1, none⟩ (.slice A' rs.length c')) ∧ ∀ k, fK m A' c' rs k → fK m A cap qs k ∨ w1.heap.size ≤ k := by
  have hml : m < w1.heap.size := World.block_lt_of_cell? w1 _ h.c0
  refine ⟨(h.below hb).newL (so.more (Nat.zero_le _)) (fun e => by have := (so.lt m e).1; omega) (fun q hq => (hr q hq).1) (fun q hq k hk => ⟨((hr q hq).2 k hk).1, ((hr q hq).2 k hk).2.1⟩), (Tn.ofNew hb).thenQ (Tn.setCell wr m 1 _) (fun k _ e => .inl e), ?_⟩
  rintro k (rfl | hk | ⟨q, hq, hk⟩)
  · exact .inl (.inl rfl)
  · exact .inr (so.lt k hk).1
  · exact ((hr q hq).2 k hk).2.2
theorem RK.oldQ {w1 wr : World} {m cap c' n : Nat} {room fuse : Int} {down : Bool} {A A' : Option Addr} {qs rs : List Rq} {q : Rq} (h : RK w1 m room fuse down A cap qs) (hb : Below w1.heap.size w1 wr) (so : So encQ 4 wr w1.heap.size SG (.slice A' n c') rs) (hq : q ∈ qs) :
    GQ wr q ∧ ∀ k, fq q k → k ≠ m ∧ (Value.slice A' n c').ownBlock ≠ some k ∧ (fK m A cap qs k ∨ w1.heap.size ≤ k) :=
  ⟨(h.gq q hq).tn (P := fun _ => False) (Tn.ofNew hb) fun _ _ h => h, fun k hk => ⟨(h.sep q hq k hk).1, fun e => by have := (so.lt k e).1; have := (h.gq q hq).lt hk; omega, .inl (.inr (.inr ⟨q, hq, hk⟩))⟩⟩
def dq (qs : List Rq) (i j : Nat) : List Rq := (qs.take j).take i ++ (qs.take j).drop (i + 1)
theorem dq_eq {qs : List Rq} {i : Nat} (_h : i < qs.length) : dq qs i (i + 1) = dq qs i i := by
  unfold dq
  simp [List.take_take]
  omega
theorem dq_ne {qs : List Rq} {i j : Nat} (h : j < qs.length) (hn : j ≠ i) : dq qs i (j + 1) = dq qs i j ++ [qs[j]] := by
  unfold dq
  rw [List.take_succ_eq_append_getElem h]
  have hl : (qs.take j).length = j := by simp; omega
  rcases Nat.lt_or_ge j i with hlt | hge
  · rw [List.take_of_length_le (l := qs.take j ++ [qs[j]]) (i := i) (by rw [List.length_append, hl]; simp; omega), List.drop_of_length_le (l := qs.take j ++ [qs[j]]) (i := i + 1) (by rw [List.length_append, hl]; simp; omega), List.take_of_length_le (l := qs.take j) (i := i) (by omega), List.drop_of_length_le (l := qs.take j) (i := i + 1) (by omega)]
    simp
  · rw [List.take_append_of_le_length (by omega), List.drop_append_of_le_length (by omega), List.append_assoc]
theorem dq_len {qs : List Rq} {i j : Nat} : (dq qs i j).length ≤ j := by
  unfold dq
  simp
  omega
theorem dq_mem {qs : List Rq} {i j : Nat} {q : Rq} (h : q ∈ dq qs i j) : q ∈ qs := by
  unfold dq at h
  rcases List.mem_append.1 h with h | h
  · exact List.mem_of_mem_take (List.mem_of_mem_take h)
  · exact List.mem_of_mem_take (List.mem_of_mem_drop h)
section
variable {B : Nat → Prop} {w : World} {m : Nat} {a a' : Ad} {n r : Int}
set_option maxRecDepth 100000 in
set_option maxHeartbeats 3200000 in
theorem rdrop_RD (h : RD w B m a) (hl : Lim a) (hr : opD dropA a n = (r, a')) :
    Calls Try.prog 23 #[rP m, .int .i64 n] w (Rn w B m r a') := by
  obtain ⟨A, cap, qs, D, e, hB⟩ := h.ex
  clear h
  obtain ⟨room, fuse, down, L⟩ := a
  obtain ⟨hle, hrm, hln, hf1, hf2, hri⟩ := hl
  simp only at D e hle hrm hln hf1 hf2 hri
  subst e
  have hlen : qs.length ≤ 1024 := by simpa using hln
  unfold opD at hr
  simp only at hr
  cases down with
  | true =>
    rw [if_pos rfl] at hr
    cases hr
    have HR := Lib.hid (RD.turned (a' := ⟨room, fuse, true, qs.map Rq.x⟩) hB D rfl (Tn.refl _ _) (fun _ h => .inl h) 5)
    have c3 := D.c3
    clear D hB hle hrm hln hf1 hf2 hri hlen
    go_enter Try.func23, Try.ntmps23
    go_wp2
    go_ret
    exact HR.out
  | false =>
    rw [if_neg (by decide)] at hr
    have c3 := D.c3
    have HF := Lib.hid (rfind_any D (by omega) n)
    rcases find_cases (qs.map Rq.x) n with ⟨hh, hf⟩ | ⟨i, x, hx, hxn, hf, hh⟩
    · rw [hh, if_pos rfl] at hr
      cases hr
      rw [hf] at HF
      have HR := Lib.hid (RD.turned (a' := ⟨room, fuse, false, qs.map Rq.x⟩) hB D rfl (Tn.refl _ _) (fun _ h => .inl h) 6)
      clear D hB hle hrm hln hf1 hf2 hri hlen hf hh
      go_enter Try.func23, Try.ntmps23
      go_wp2_with fail
      go_at_call 40
      refine HF.out.mono ?_
      rintro _ _ ⟨rfl, rfl⟩
      go_wp2_with fail
      go_ret
      exact HR.out
    · rw [hh, if_neg (by decide)] at hr
      rw [hf] at HF
      have hi0 : (0 : Int) ≤ (i : Int) := Int.natCast_nonneg i
      by_cases hz : fuse = 0
      · subst hz
        rw [if_pos rfl] at hr
        cases hr
        have HP := Lib.hid (rpow_no D)
        have HB := Lib.hid hB
        have HD := Lib.hid D
        clear D hB hle hrm hln hf1 hf2 hri hf hh hx hlen
        go_enter Try.func23, Try.ntmps23
        go_wp2_with fail
        go_at_call 40
        refine HF.out.mono ?_
        rintro _ _ ⟨rfl, rfl⟩
        go_wp2_with fail
        go_at_call 41
        refine HP.out.mono ?_
        rintro _ w1 ⟨rfl, D1, t1⟩
        have HR := Lib.hid (RD.turned (a' := ⟨room, 0, true, qs.map Rq.x⟩) HB.out D1 rfl (t1.mono fun _ _ h => .inl h) (fun _ h => .inl h) 5)
        clear D1 t1
        go_wp2_with fail
        go_ret
        exact HR.out
      · rw [if_neg hz] at hr
        cases hr
        have HP := Lib.hid (rpow_yes D hz hf1 hf2)
        obtain ⟨q, hiq, hqx⟩ : ∃ q, qs[i]? = some q ∧ q.x = x := by
          rw [List.getElem?_map] at hx
          cases hq : qs[i]? with
          | none => rw [hq] at hx; cases hx
          | some q => rw [hq] at hx; exact ⟨q, rfl, by simpa using hx⟩
        subst hqx
        have hsum : q.x.b.length ≤ 67108864 := by
          have h1 := sum_next (qs := qs) (k := i) (List.getElem?_eq_some_iff.1 hiq).1
          have h2 := sum_take (qs := qs) (i + 1)
          rw [(List.getElem?_eq_some_iff.1 hiq).2] at h1
          omega
        have HE := Lib.hid (drop_at hri hx hxn)
        have HB := Lib.hid hB
        have hil : i < qs.length := (List.getElem?_eq_some_iff.1 hiq).1
        clear hle hrm hln hf1 hf2 hri hf hh hx hB D
        go_enter Try.func23, Try.ntmps23
        go_wp2_with fail
        go_at_call 40
        refine HF.out.mono ?_
        rintro _ _ ⟨rfl, rfl⟩
        go_wp2_with fail
        go_at_call 41
        refine HP.out.mono ?_
        rintro _ w1 ⟨rfl, D1, t1⟩
        have HD1 := Lib.hid D1
        have HT1 := Lib.hid t1
        clear t1
        have D1' := D1
        obtain ⟨g, rfl⟩ := D1.addr (by omega)
        have hle := (D1.so.sr encQ_len).1.le
        have hmx := (D1.so.sr encQ_len).1.max
        unfold maxLen at hmx
        clear D1' D1 hsum
        go_wp2_with fail
        go_loopw [6, 7] (fun l jv wr => ∃ (j k c : Nat) (B : Option Addr), j ≤ qs.length ∧ jv = .int .i64 j ∧ l = .slice B k c ∧ Hid (k = (dq qs i j).length) ∧ Hid (So encQ 4 wr w1.heap.size SG (.slice B k c) (dq qs i j)) ∧ Hid (Below w1.heap.size w1 wr)) (fun _ jv _ => qs.length - (intOf jv).toNat)
        case atStart => exact ⟨0, 0, 0, none, Nat.zero_le _, rfl, rfl, Lib.hid (by simp [dq]), Lib.hid (by simpa [dq] using So.empty _ _ _ _ _), Lib.hid (Below.refl _ _)⟩
        case round =>
          obtain ⟨j, k, c, B, hj, rfl, rfl, HL, HSO, HBL⟩ := hrel
          rename World => wr
          have z2 : w1.heap.size ≤ wr.heap.size := HBL.out.size
          have H2 := Lib.hid (HD1.out.below HBL.out)
          have d1 := H2.out.c1
          have hkl : k ≤ j := by rw [HL.out]; exact dq_len
          by_cases hlt : j < qs.length
          · have i1 : (j : Int) < qs.length := by omega
            by_cases hji : j = i
            · have HE2 := Lib.hid (by rw [hji]; exact dq_eq hil : dq qs i (j + 1) = dq qs i j)
              have b1 : ((j : Int) == (i : Int)) = true := beq_iff_eq.2 (by omega)
              clear hji
              go_wp2_with fail
              go_roundw
              case rel => exact ⟨j + 1, k, c, B, by omega, by go_num, rfl, by rw [HE2.out]; exact HL, by rw [HE2.out]; exact HSO, HBL⟩
              case measure => simp [intOf]; omega
            · have b1 : ((j : Int) == (i : Int)) = false := beq_eq_false_iff_ne.2 (by omega)
              have hE2 := dq_ne hlt hji
              obtain ⟨us, _⟩ := H2.out.slot (List.getElem?_eq_getElem hlt)
              obtain ⟨y, hy⟩ : ∃ y, y = qs[j] := ⟨_, rfl⟩
              rw [← hy] at us
              have u0 : wr.cell? ⟨g, j * 4, none⟩ = some (.int .i64 y.x.n) := us 0 _ rfl
              have u1 : wr.cell? ⟨g, j * 4 + 1, none⟩ = some (.slice y.A y.x.l y.c) := us 1 _ rfl
              have u2 : wr.cell? ⟨g, j * 4 + 2, none⟩ = some (.slice y.B (y.x.b.length - y.x.l) y.d) := us 2 _ rfl
              have u3 : wr.cell? ⟨g, j * 4 + 3, none⟩ = some (.bool y.x.k) := us 3 _ rfl
              rw [← hy] at hE2
              have HE2 := Lib.hid hE2
              clear us hy hji hE2
              go_wp2_with (at_builtin; refine wpList_pushE Try.underlying59 info_sg rfl (by decide) wr rfl (.tmp 32) (.tmp 40) rfl w1.heap.size (.slice B k c) (dq qs i j) rfl HSO.out y _ rfl rfl (encQ_one _) _ wr.heap.size rfl rfl (k + 1) (by rw [HL.out]) (by unfold maxLen; omega) (by omega) z2 ?_; intro A2 cap2 w2 hps2 hgrow2 hat2; have B2 : Below w1.heap.size w1 w2 := grown_below HBL.out hgrow2 z2 (fun _ h => (HSO.out.lt _ h).1))
              go_roundw
              case rel => exact ⟨j + 1, k + 1, cap2, A2, by omega, by go_num, rfl, Lib.hid (by rw [HE2.out, List.length_append, ← HL.out]; rfl), Lib.hid (by rw [HE2.out]; exact hps2), Lib.hid B2⟩
              case measure => simp [intOf]; omega
          · obtain rfl : j = qs.length := by omega
            have hk := HL.out
            subst hk
            have fr := H2.out.fr 1
            have h9 := HD1.out.newLB HBL.out HSO.out fun q hq => HD1.out.oldQ HBL.out HSO.out (dq_mem hq)
            have HR := Lib.hid (RD.turned (a' := ⟨room, fz fuse, false, dropA n (qs.map Rq.x)⟩) HB.out h9.1 (by rw [HE.out, ← List.map_take, ← List.map_drop, ← List.map_append]; unfold dq; rw [List.take_length]) ((HT1.out.mono fun _ _ h => .inl h).then (h9.2.1.mono fun _ _ h => h)) (fun k hk => (h9.2.2 k hk).imp id fun h => Nat.le_trans HT1.out.size h) 0)
            clear h9
            go_wp2_with fail
            go_ret
            exact HR.out
end
end Go.Proofs.Ytkkaehaoahpibaa
namespace Go.Proofs.Ytkkaehaoahpibaa
open Go.RowKit

theorem elemBs : Try.prog.elem 32 = 5 := by unfold Program.elem; rw [Try.underlying32]
theorem underBs : Try.prog.underlying 32 = some (.slice (Try.prog.elem 32)) := by rw [elemBs]; exact Try.underlying32
theorem size_u8 (w : World) : (sizeOf 5).run Try.prog w = .ok 1 w := by
  obtain ⟨i0, hi, hz0, hz1, hz2⟩ := info_parts info_u8
  simp [sizeOf, typeInfo, hi, hz1]
theorem slice_from (A : Option Addr) (n cap j : Nat) (hj : j ≤ n) (w : World) :
    (Instr.slice 32 (.slice A n cap) (some (.int .i64 (j : Int))) none none).run Try.prog w = .ok (.slice (if cap = j then A else A.map (·.add j)) (n - j) (cap - j)) w := by
  have h := run_slice_l (P := Try.prog) (w := w) (t := 32) (a := A) (len := n) (cap := cap) underBs .i64 (j : Int) (by omega) (by omega)
  rw [h, elemBs, size_u8]
  simp [Result.andThen, sliced]
theorem slice_to (A : Option Addr) (n cap j : Nat) (hj : j ≤ cap) (w : World) :
    (Instr.slice 32 (.slice A n cap) none (some (.int .i64 (j : Int))) none).run Try.prog w = .ok (.slice A j cap) w := by
  have h := run_slice_h (P := Try.prog) (w := w) (t := 32) (a := A) (len := n) (cap := cap) underBs .i64 (j : Int) (by omega) (by omega)
  rw [h, elemBs, size_u8]
  have : ∀ a : Addr, a.add 0 = a := fun a => by unfold Addr.add; rw [if_pos rfl]
  cases A <;> simp [Result.andThen, sliced, this]

section
variable {P : Program} {ST T : TypeId} (hu : P.underlying ST = some (.slice (P.elem ST))) (hs : ∀ w, (sizeOf (P.elem ST)).run P w = .ok 2 w)
include hu hs
theorem slice_from2 (A : Option Addr) (n cap j : Nat) (hj : j ≤ n) (w : World) :
    (Instr.slice ST (.slice A n cap) (some (.int .i64 (j : Int))) none none).run P w = .ok (.slice (if cap = j then A else A.map (·.add (j * 2))) (n - j) (cap - j)) w := by
  have h := run_slice_l (P := P) (w := w) (t := ST) (a := A) (len := n) (cap := cap) hu .i64 (j : Int) (by omega) (by omega)
  rw [h, hs]
  simp [Result.andThen, sliced]
theorem slice_to2 (A : Option Addr) (n cap j : Nat) (hj : j ≤ cap) (w : World) :
    (Instr.slice ST (.slice A n cap) none (some (.int .i64 (j : Int))) none).run P w = .ok (.slice A j cap) w := by
  have h := run_slice_h (P := P) (w := w) (t := ST) (a := A) (len := n) (cap := cap) hu .i64 (j : Int) (by omega) (by omega)
  rw [h, hs]
  have : ∀ a : Addr, a.add 0 = a := fun a => by unfold Addr.add; rw [if_pos rfl]
  cases A <;> simp [Result.andThen, sliced, this]
end
end Go.Proofs.Ytkkaehaoahpibaa
namespace Go.Proofs.Ytkkaehaoahpibaa
open Go.RowKit Go.Maps Go.BigFrame

theorem Sr.tn {α : Type} {enc : α → List Value} {k K cap : Nat} {A : Option Addr} {l : List α} {P : Nat → Prop} {w w' : World} (hb : Sr enc k w K A cap l) (h : Tn P w w') (hn : 0 < l.length → ∀ ad : Addr, A = some ad → ¬ P ad.block) : Sr enc k w' K A cap l :=
  ⟨hb.le, hb.max, hb.nil, fun hl => by
    obtain ⟨ad, e, hk, hc⟩ := hb.at_ hl
    refine ⟨ad, e, hk, fun i x hi j u hu => ?_⟩
    have := hc i x hi j u hu
    have hbl : (ad.add (i * k + j)).block = ad.block := el_block_of_add ad _
    generalize ad.add (i * k + j) = q at *
    exact h.cell this (by rw [hbl]; exact hn hl ad e)⟩
theorem Sr.int {K cap i : Nat} {A : Option Addr} {l : List Int} {w : World} (h : Sr encI 1 w K A cap l) (hi : i < l.length) : ∃ ad : Addr, A = some ad ∧ ad.block < K ∧ w.cell? (ad.add i) = some (.int .i64 l[i]) := by
  obtain ⟨ad, e, hb, hc⟩ := h.get hi
  have := hc 0 (.int .i64 l[i]) rfl
  rw [Nat.mul_one, Nat.add_zero] at this
  exact ⟨ad, e, hb, this⟩
theorem crash_step (T T' R : List Sg) (s : Sg) (ks : List Int) (i : Nat) (more : Int) (hmore : more = ks.getD i 0) (hT' : T'.map ab = tornA (ab s) more) {L : List As} (h : T.map ab ++ crashA ((s :: R).map ab) (ks.drop i) = L) :
    (T ++ T').map ab ++ crashA (R.map ab) (ks.drop (i + 1)) = L := by
  subst hmore
  have e0 : crashA (ab s :: R.map ab) (ks.drop i) = tornA (ab s) ((ks.drop i).headD 0) ++ crashA (R.map ab) (ks.drop i).tail := rfl
  rw [← h, List.map_append, hT', List.map_cons, e0]
  have e1 : (ks.drop i).headD 0 = ks.getD i 0 := by
    rw [List.headD_eq_head?_getD, List.head?_drop]; rfl
  have e2 : (ks.drop i).tail = ks.drop (i + 1) := by rw [List.tail_drop]
  rw [e1, e2, List.append_assoc]
def Crashed (w : World) (K d mb : Nat) (room : Int) (M : List Sg) (ks : List Int) (e : Ending) (w' : World) : Prop :=
  e = .returned (.int .i64 0) ∧ ∃ M', M'.map ab = crashA (M.map ab) ks ∧ Dk w' K d mb room (sumA (M'.map ab) : Nat) (-1) false M' ∧ Tn (blD d mb M) w w' ∧ ∀ k, blD d mb M' k → blD d mb M k ∨ w.heap.size ≤ k
/-- Behind i rounds. -/
structure Cr (w1 wr : World) (K d mb : Nat) (room fuse : Int) (down : Bool) (M : List Sg) (ks : List Int) (i : Nat) (T : List Sg) : Prop where
  le : i ≤ M.length
  dk : Dk wr K d mb room (sumA ((T ++ M.drop i).map ab) : Nat) fuse down (T ++ M.drop i)
  eq : T.map ab ++ crashA ((M.drop i).map ab) (ks.drop i) = crashA (M.map ab) ks
  su : sumA ((T ++ M.drop i).map ab) ≤ sumA (M.map ab)
  tn : Tn (blD d mb M) w1 wr
  bl : ∀ k, blD d mb (T ++ M.drop i) k → blD d mb M k ∨ w1.heap.size ≤ k
section
variable {K d mb : Nat} {room fuse : Int} {down : Bool} {M T : List Sg} {w w1 wr w' : World} {ks : List Int} {i : Nat}
theorem Cr.start (h : Dk w1 K d mb room (sumA (M.map ab) : Nat) fuse down M) : Cr w1 w1 K d mb room fuse down M ks 0 [] :=
  ⟨Nat.zero_le _, h, rfl, Nat.le_refl _, Tn.refl _ _, fun _ h => .inl h⟩
theorem Cr.tear (h : Cr w1 wr K d mb room fuse down M ks i T) (hi : i < M.length) (hu : sumA (M.map ab) ≤ 67108864) (more : Int) (hmore : more = ks.getD i 0) :
    Calls Try.prog 46 #[dP d, .int .i64 M[i].n, .int .i64 more] wr fun e w' => e = .returned (.tuple #[]) ∧ ∃ T', Cr w1 w' K d mb room fuse down M ks (i + 1) T' := by
  have hd : M.drop i = M[i] :: M.drop (i + 1) := List.drop_eq_getElem_cons hi
  obtain ⟨h1, h2, h3, h4, h5, h6⟩ := h
  rw [hd] at h2 h3 h4 h6
  have hs := sum_split T (M.drop (i + 1)) M[i]
  refine (tear_at h2 more (by omega) (by omega) (by omega)).mono ?_
  rintro e w' ⟨rfl, T', e', D, t, B⟩
  have hk := kq_le (ab M[i]) more
  have hk' : kq (ab M[i]) more ≤ M[i].b.length := hk
  have hs2 : sumA ((T ++ T' ++ M.drop (i + 1)).map ab) = sumA ((T ++ M.drop (i + 1)).map ab) + kq (ab M[i]) more := by
    simp only [List.map_append, sumA_append, e', sum_torn]; omega
  refine ⟨rfl, T ++ T', hi, ?_, crash_step T T' _ M[i] ks i more hmore e' h3, by omega, h5.thenQ t fun k hk e => ?_, fun k hk => ?_⟩
  · have : (((sumA ((T ++ M[i] :: M.drop (i + 1)).map ab) : Nat) : Int) - ((M[i].b.length : Int) - (kq (ab M[i]) more : Nat))) = ((sumA ((T ++ T' ++ M.drop (i + 1)).map ab) : Nat) : Int) := by omega
    rw [this] at D
    exact D
  · rcases h6 k e with e | e
    · exact e
    · omega
  · rcases B k hk with e | e
    · exact h6 k e
    · exact .inr (Nat.le_trans h5.size e)
theorem Cr.end_ (h : Cr w1 wr K d mb room fuse down M ks M.length T) : T.map ab = crashA (M.map ab) ks ∧ Dk wr K d mb room (sumA (T.map ab) : Nat) fuse down T ∧ Tn (blD d mb M) w1 wr ∧ ∀ k, blD d mb T k → blD d mb M k ∨ w1.heap.size ≤ k := by
  obtain ⟨h1, h2, h3, h4, h5, h6⟩ := h
  rw [List.drop_length, List.append_nil] at h2 h6
  rw [List.drop_length] at h3
  exact ⟨by simpa [crashA] using h3, h2, h5, h6⟩
end
set_option maxRecDepth 100000 in
set_option maxHeartbeats 3200000 in
theorem crash_any {K d mb : Nat} {room fuse : Int} {down : Bool} {M : List Sg} {w : World} {A : Option Addr} {c m : Nat} {ks : List Int} (h : Dk w K d mb room (sumA (M.map ab) : Nat) fuse down M) (hu : sumA (M.map ab) ≤ 67108864) (hM : M.length ≤ 1024) (hk : Sr encI 1 w w.heap.size A c ks) (hm : ks.length = m)
    (hap : 0 < ks.length → ∀ ad : Addr, A = some ad → ¬ blD d mb M ad.block) :
    Calls Try.prog 18 #[dP d, .slice A m c] w (Crashed w K d mb room M ks) := by
  subst hm
  have HN := Lib.hid (numbers_any K d mb room _ fuse down M w h hM)
  have HD := Lib.hid h
  have HK := Lib.hid hk
  have HAP := Lib.hid hap
  have HU := Lib.hid hu
  have hkl := hk.le
  have hkm := hk.max
  unfold maxLen at hkm
  clear h hk hap hu
  go_enter Try.func18, Try.ntmps18
  go_wp2_with (go_at_call 45; refine HN.out.mono ?_; rintro e w1 ⟨v, rfl, so, b1⟩; obtain ⟨A1, c1, hv⟩ := so.form; rw [List.length_map] at hv; subst hv)
  have HS := Lib.hid (so.sr encI_len).1
  have hblk : ∀ ad : Addr, A1 = some ad → w.heap.size ≤ ad.block := fun ad e => by
    subst e
    obtain ⟨g, hg⟩ : ∃ g, (Value.slice (some ad) M.length c1).ownBlock = some g := ⟨_, rfl⟩
    exact (so.lt _ rfl).1
  have HB := Lib.hid hblk
  have HB1 := Lib.hid b1
  have HD1 := Lib.hid (HD.out.below b1)
  have HK1 := Lib.hid (HK.out.below b1)
  clear so hblk b1 HK
  go_loopw [13] (fun iv wr => ∃ (i : Nat) (T : List Sg), iv = .int .i64 (i : Int) ∧ Cr w1 wr K d mb room fuse down M ks i T) (fun iv _ => M.length - (intOf iv).toNat)
  case atStart => exact ⟨0, [], rfl, Cr.start HD1.out⟩
  case round =>
    obtain ⟨i, T, rfl, C⟩ := hrel
    rename World => W0
    have hle := C.le
    by_cases hlt : i < M.length
    · obtain ⟨ad, rfl, hb, hc0⟩ := (HS.out.tn C.tn fun _ ad e hbl => by
        have := HB.out ad e
        have := (HD.out.top hbl).2
        omega).int (i := i) (by rw [List.length_map]; exact hlt)
      rw [List.getElem_map] at hc0
      have hi0 : 0 ≤ (i : Int) := by omega
      by_cases hik : i < ks.length
      · have hmore : ks[i] = ks.getD i 0 := by simp [hik]
        obtain ⟨ak, rfl, hbk, hck⟩ := (HK1.out.tn C.tn HAP.out).int (i := i) hik
        have HT := Lib.hid (C.tear hlt HU.out ks[i] hmore)
        clear hmore C
        go_wp2_with (go_at_call 46; refine HT.out.mono ?_; rintro e W2 ⟨rfl, T2, C2⟩; have HC2 := Lib.hid C2; clear C2)
        go_roundw
        case rel => exact ⟨i + 1, T2, by go_num, HC2.out⟩
        case measure => simp [intOf]; omega
      · have hmore : (0 : Int) = ks.getD i 0 := by rw [List.getD_eq_getElem?_getD, List.getElem?_eq_none (by omega)]; rfl
        have HT := Lib.hid (C.tear hlt HU.out 0 hmore)
        clear hmore C
        go_wp2_with (go_at_call 46; refine HT.out.mono ?_; rintro e W2 ⟨rfl, T2, C2⟩; have HC2 := Lib.hid C2; clear C2)
        go_roundw
        case rel => exact ⟨i + 1, T2, by go_num, HC2.out⟩
        case measure => simp [intOf]; omega
    · obtain rfl : M.length = i := by omega
      obtain ⟨e1, D2, T2, B2⟩ := C.end_
      have c3 := D2.c3
      have c4 := D2.c4
      have f3 := D2.fr 3
      have f4 := D2.fr 4
      have HD2 := Lib.hid D2
      have HE := Lib.hid e1
      have HT2 := Lib.hid T2
      have HB2 := Lib.hid B2
      clear C D2 e1 T2 B2
      go_wp2
      go_ret
      exact ⟨rfl, T, HE.out, (HD2.out.set3 (-1)).set4 false, (((Tn.ofNew (P := blD d mb M) HB1.out).thenQ HT2.out (fun _ _ e => e)).thenQ (Tn.setCell _ d 3 _) (fun _ _ e => .inl e)).thenQ (Tn.setCell _ d 4 _) (fun _ _ e => .inl e), fun k hk => (HB2.out k hk).imp id fun e => Nat.le_trans HB1.out.size e⟩
theorem crash_DD {B : Nat → Prop} {w : World} {d : Nat} {a : Ad} {A : Option Addr} {m c K' : Nat} {ks : List Int} (h : DD w B d a) (hk : Sr encI 1 w K' A c ks) (hK' : K' ≤ w.heap.size) (hm : ks.length = m) (hp : 0 < ks.length → ∀ ad : Addr, A = some ad → ¬ B ad.block) :
    Calls Try.prog 18 #[dP d, .slice A m c] w (Dn w B d 0 (crashD a ks)) := by
  obtain ⟨K, mb, M, D, e, hB⟩ := h.ex
  have h1 := h.le
  have h2 := h.rm
  have h3 := h.ln
  rw [← e] at D h1 h3
  refine (crash_any D (by omega) (by simpa using h3) (hk.more hK') hm fun hl ad ea eb => hp hl ad ea (hB _ eb)).mono ?_
  rintro e' w' ⟨rfl, M', eM, D', t, hB'⟩
  have hc1 := len_crash (M.map ab) ks
  have hc2 := sum_crash (M.map ab) ks
  refine DD.turned (K := K) (a' := crashD a ks) hB ?_ (by rw [eM, e]; rfl) t hB' ?_ h2 ?_ (by simp [crashD]) (by simp [crashD]) 0
  · rw [eM, e] at D'
    exact D'
  · show ((sumA (crashA a.L ks) : Nat) : Int) ≤ a.room
    rw [← e]; omega
  · show (crashA a.L ks).length ≤ 1024
    rw [← e]; omega
end Go.Proofs.Ytkkaehaoahpibaa
