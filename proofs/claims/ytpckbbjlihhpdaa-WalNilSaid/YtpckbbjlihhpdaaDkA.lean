/- A disk as such: its segments as a list; what each method makes of it. -/
import Derived.Test.YtpckbbjlihhpdaaDk11
namespace Go.Proofs.Ytpckbbjlihhpdaa
open Go.RowKit Go.Maps Go.BigFrame

theorem hasA_iff {M : List Sg} {n : Int} : hasA (M.map ab) n = true ↔ ∃ s ∈ M, s.n = n := by
  unfold hasA
  rw [List.any_map, List.any_eq_true]
  constructor
  · rintro ⟨s, hs, h⟩; exact ⟨s, hs, of_decide_eq_true h⟩
  · rintro ⟨s, hs, h⟩; exact ⟨s, hs, decide_eq_true h⟩
theorem hasA_not {M : List Sg} {n : Int} : hasA (M.map ab) n = false ↔ ∀ s ∈ M, s.n ≠ n := by
  rw [Bool.eq_false_iff, Ne, hasA_iff]
  exact ⟨fun h s hs e => h ⟨s, hs, e⟩, fun h ⟨s, hs, e⟩ => h s hs e⟩
theorem putA_there (p : List UInt8) {s s' : Sg} (e : ab s' = ⟨s.n, s.b ++ p, s.l, s.k⟩) : ∀ {T R : List Sg}, Rise (T ++ s :: R) → (T ++ s' :: R).map ab = putA s.n p ((T ++ s :: R).map ab)
  | [], R, _ => by
    show ab s' :: R.map ab = putA s.n p (ab s :: R.map ab)
    unfold putA
    rw [if_neg (by show ¬ s.n < s.n; omega), if_pos (by rfl), e]
    rfl
  | t :: T, R, h => by
    obtain ⟨h1, h2⟩ := List.pairwise_cons.1 h
    have h3 := h1 s (by simp)
    show ab t :: (T ++ s' :: R).map ab = putA s.n p (ab t :: (T ++ s :: R).map ab)
    unfold putA
    rw [if_neg (by show ¬ s.n < t.n; omega), if_neg (by show ¬ t.n = s.n; omega), putA_there p e h2]
theorem upd_not {M : List Sg} {s' : Sg} (h : ∀ t ∈ M, t.n ≠ s'.n) : upd M s' = M := map_keep M _ fun t ht => if_neg (h t ht)
theorem putA_new {n : Int} (p : List UInt8) {s s' : Sg} (hn : s.n = n) (e : ab s' = ⟨n, p, 0, false⟩) : ∀ {M : List Sg}, (∀ t ∈ M, t.n ≠ n) → (upd (ins s M) s').map ab = putA n p (M.map ab)
  | [], _ => by
    have hn' : s'.n = n := congrArg As.n e
    show [ab (if s.n = s'.n then s' else s)] = [_]
    rw [if_pos (hn.trans hn'.symm), e]
  | x :: r, h => by
    have hn' : s'.n = n := congrArg As.n e
    have hx := h x (List.mem_cons_self ..)
    have hr : ∀ t ∈ r, t.n ≠ n := fun t ht => h t (List.mem_cons_of_mem _ ht)
    unfold ins
    by_cases hlt : s.n < x.n
    · rw [if_pos hlt]
      show ab (if s.n = s'.n then s' else s) :: (upd (x :: r) s').map ab = putA n p (ab x :: r.map ab)
      rw [if_pos (hn.trans hn'.symm), upd_not (by rw [hn']; exact h), e]
      unfold putA
      rw [if_pos (by rw [← hn]; exact hlt)]
      rfl
    · rw [if_neg hlt]
      show ab (if x.n = s'.n then s' else x) :: (upd (ins s r) s').map ab = putA n p (ab x :: r.map ab)
      rw [if_neg (by rw [hn']; exact hx), putA_new p hn e hr]
      conv => rhs; unfold putA
      rw [if_neg (by show ¬ n < x.n; omega)]
      exact (if_neg hx).symm
theorem sync_upd {M : List Sg} (h : Rise M) {s : Sg} (hs : s ∈ M) : (upd M (settled s)).map ab = syncA s.n (M.map ab) := by
  unfold upd syncA
  rw [List.map_map, List.map_map]
  refine List.map_congr_left fun t ht => ?_
  show ab (if t.n = s.n then settled s else t) = if t.n = s.n then ⟨t.n, t.b, t.b.length, true⟩ else ab t
  by_cases e : t.n = s.n
  · rw [if_pos e, if_pos e, h.inj ht hs e]; rfl
  · rw [if_neg e, if_neg e]
theorem drop_filter (M : List Sg) (n : Int) : (M.filter fun t => !decide (t.n = n)).map ab = dropA n (M.map ab) := by
  unfold dropA
  rw [List.filter_map]
  rfl
theorem sum_split (T R : List Sg) (s : Sg) : sumA ((T ++ s :: R).map ab) = sumA ((T ++ R).map ab) + s.b.length := by
  rw [List.map_append, List.map_append, sumA_append, sumA_append, List.map_cons]
  show _ + (s.b.length + _) = _
  omega
/-- A disk at block d; its blocks are among B. -/
structure DD (w : World) (B : Nat → Prop) (d : Nat) (a : Ad) : Prop where
  ex : ∃ K mb M, Dk w K d mb a.room (sumA a.L : Nat) a.fuse a.down M ∧ M.map ab = a.L ∧ ∀ k, blD d mb M k → B k
  bt : ∀ k, B k → k < w.heap.size
  le : ((sumA a.L : Nat) : Int) ≤ a.room
  rm : a.room ≤ 67108864
  ln : a.L.length ≤ 1024
  f1 : -1 ≤ a.fuse
  f2 : a.fuse ≤ 9223372036854775807
def Dn (w : World) (B : Nat → Prop) (d : Nat) (r : Int) (a : Ad) (e : Ending) (w' : World) : Prop :=
  e = .returned (.int .i64 r) ∧ ∃ B', DD w' B' d a ∧ Tn B w w' ∧ ∀ k, B' k → B k ∨ w.heap.size ≤ k
section
variable {P B : Nat → Prop} {w w' : World} {d : Nat} {a a' : Ad} {n r : Int} {A : Option Addr} {m c K' : Nat} {p : List UInt8}
theorem DD.tn (h : DD w B d a) (t : Tn P w w') (hP : ∀ k, B k → ¬ P k) : DD w' B d a := by
  obtain ⟨K, mb, M, D, e, hb⟩ := h.ex
  exact ⟨⟨K, mb, M, D.tn t fun k hk => hP k (hb k hk), e, hb⟩, fun k hk => Nat.lt_of_lt_of_le (h.bt k hk) t.size, h.le, h.rm, h.ln, h.f1, h.f2⟩
theorem DD.below (h : DD w B d a) (hb : Below w.heap.size w w') : DD w' B d a := h.tn (Tn.ofNew (P := fun _ => False) hb) fun _ _ h => h
theorem DD.alloc (h : DD w B d a) (o : Obj) : DD (w.alloc o) B d a := h.below ((Below.refl _ _).alloc (Nat.le_refl _) _)
theorem DD.same (h : DD w B d a) (r : Int) : Dn w B d r a (.returned (.int .i64 r)) w := ⟨rfl, B, h, Tn.refl _ _, fun _ h => .inl h⟩
theorem DD.grew (h : DD w B d a) (r : Int) (hb : Below w.heap.size w w') : Dn w B d r a (.returned (.int .i64 r)) w' := ⟨rfl, B, h.below hb, Tn.ofNew hb, fun _ h => .inl h⟩
/-- A new state of the disk. -/
theorem DD.turned {K mb : Nat} {M M' : List Sg} (hb : ∀ k, blD d mb M k → B k) (D : Dk w' K d mb a'.room (sumA a'.L : Nat) a'.fuse a'.down M') (e : M'.map ab = a'.L) (t : Tn (blD d mb M) w w') (hB : ∀ k, blD d mb M' k → blD d mb M k ∨ w.heap.size ≤ k)
    (le : ((sumA a'.L : Nat) : Int) ≤ a'.room) (rm : a'.room ≤ 67108864) (ln : a'.L.length ≤ 1024) (f1 : -1 ≤ a'.fuse) (f2 : a'.fuse ≤ 9223372036854775807) (r : Int) : Dn w B d r a' (.returned (.int .i64 r)) w' :=
  ⟨rfl, blD d mb M', ⟨⟨K, mb, M', D, e, fun _ h => h⟩, fun _ hk => (D.top hk).2, le, rm, ln, f1, f2⟩, t.mono fun k _ hk => hb k hk, fun k hk => (hB k hk).imp (hb k) id⟩
theorem app_DD (h : DD w B d a) (hn2 : n ≤ 9223372036854775807) (hb : Bs w K' A c p) (hm : p.length = m) (hp : 0 < p.length → ∀ ad : Addr, A = some ad → ¬ B ad.block) (hr : appD a n p = (r, a')) :
    Calls Try.prog 22 #[dP d, .int .i64 n, .slice A m c] w (Dn w B d r a') := by
  obtain ⟨K, mb, M, D, e, hB⟩ := h.ex
  obtain ⟨room, fuse, down, L⟩ := a
  simp only at D e
  have h1 := h.le
  have h2 := h.rm
  have h3 := h.ln
  have h4 := h.f1
  have h5 := h.f2
  simp only at h1 h2 h3 h4 h5
  have hML : M.length = L.length := by rw [← e]; simp
  obtain ⟨g1, g2⟩ := fz_bd h4 h5
  unfold appD at hr
  simp only at hr
  cases down with
  | true =>
    rw [if_pos rfl] at hr
    cases hr
    refine (dapp_down D).mono ?_
    rintro e w' ⟨rfl, rfl⟩
    exact h.same 5
  | false =>
    rw [if_neg (by simp)] at hr
    by_cases c1 : n < 1
    · rw [if_pos c1] at hr
      cases hr
      refine (dapp_arg D c1).mono ?_
      rintro e w' ⟨rfl, rfl⟩
      exact h.same 1
    rw [if_neg c1] at hr
    by_cases c2 : room - (sumA L : Nat) < (p.length : Nat)
    · rw [if_pos c2] at hr
      cases hr
      refine (dapp_big D (by omega) (by omega) h1 h2 (by omega)).mono ?_
      rintro e w' ⟨rfl, hbl⟩
      exact h.grew 4 hbl
    rw [if_neg c2] at hr
    by_cases c3 : hasA L n = false ∧ 1024 ≤ L.length
    · rw [if_pos c3] at hr
      cases hr
      obtain ⟨c3, c4⟩ := c3
      rw [← e, hasA_not] at c3
      refine (dapp_many D (by omega) hn2 (by omega) h1 h2 (by omega) c3 (by omega) (by omega)).mono ?_
      rintro e w' ⟨rfl, hbl⟩
      exact h.grew 4 hbl
    rw [if_neg c3] at hr
    have hfit : fits M n := by
      cases hh : hasA L n with
      | true => rw [← e, hasA_iff] at hh; exact .inl hh
      | false =>
        have : ¬ 1024 ≤ L.length := fun h => c3 ⟨hh, h⟩
        rw [← e, hasA_not] at hh
        exact .inr ⟨hh, by omega⟩
    by_cases c4 : fuse = 0
    · rw [if_pos c4] at hr
      cases hr
      subst c4
      refine (dapp_dead D (by omega) hn2 (by omega) h1 h2 (by omega) hfit).mono ?_
      rintro e' w' ⟨rfl, D', t⟩
      exact DD.turned (a' := ⟨room, 0, true, L⟩) hB D' e (t.mono fun k _ e => .inl e) (fun _ h => .inl h) h1 h2 h3 (by simp only; omega) (by simp only; omega) 5
    rw [if_neg c4] at hr
    cases hr
    have hsum := sum_put n p L
    rcases hfit with ⟨s, hs, hsn⟩ | ⟨hno, hlt⟩
    · subst hsn
      obtain ⟨T, R, eM⟩ := List.append_of_mem hs
      have hslen : s.b.length ≤ sumA L := by rw [← e, eM, sum_split]; omega
      refine (dapp_there D hs (by omega) h1 h2 c4 h5 hb hm (by omega) (fun hl ad ea eb => hp hl ad ea (hB _ (.inl eb))) (by omega)).mono ?_
      rintro e' w' ⟨rfl, v, D', t, hB'⟩
      have hmap : (upd M ⟨s.n, s.g, v, s.b ++ p, s.l, s.k⟩).map ab = putA s.n p L := by
        have hr := D.ri
        rw [← e, eM] at *
        rw [upd_at hr (by rfl)]
        exact putA_there p rfl hr
      refine DD.turned (K := K) (a' := ⟨room, fz fuse, false, putA s.n p L⟩) hB ?_ hmap t hB' (by simp only; omega) h2 (by simp only; rw [← hmap]; simp [upd]; omega) g1 g2 0
      simp only
      rw [hsum, hm]
      exact_mod_cast D'
    · refine (dapp_new D (by omega) hn2 hno hlt (by omega) h1 h2 c4 h5 hb hm (by omega) (fun hl ad ea => ⟨fun eb => hp hl ad ea (hB _ (.inl eb)), fun eb => hp hl ad ea (hB _ (.inr (.inl eb)))⟩)).mono ?_
      rintro e' w' ⟨rfl, g, v, D', t, hB'⟩
      have hmap : (upd (ins (newSg n g) M) ⟨n, g, v, p, 0, false⟩).map ab = putA n p L := by rw [← e]; exact putA_new p rfl rfl hno
      have hlen := len_put n p L
      refine DD.turned (K := K) (a' := ⟨room, fz fuse, false, putA n p L⟩) hB ?_ hmap t hB' (by simp only; omega) h2 (by simp only; omega) g1 g2 0
      simp only
      rw [hsum, hm]
      exact_mod_cast D'
/-- Sync. -/
theorem sync_DD (h : DD w B d a) (hn1 : -9223372036854775808 ≤ n) (hn2 : n ≤ 9223372036854775807) (hr : opD syncA a n = (r, a')) :
    Calls Try.prog 23 #[dP d, .int .i64 n] w (Dn w B d r a') := by
  obtain ⟨K, mb, M, D, e, hB⟩ := h.ex
  obtain ⟨room, fuse, down, L⟩ := a
  simp only at D e
  have h1 := h.le
  have h2 := h.rm
  have h3 := h.ln
  have h4 := h.f1
  have h5 := h.f2
  simp only at h1 h2 h3 h4 h5
  obtain ⟨g1, g2⟩ := fz_bd h4 h5
  unfold opD at hr
  simp only at hr
  cases down with
  | true =>
    rw [if_pos rfl] at hr
    cases hr
    refine (sync_err (dP d) 5 (by decide) (dlook_down _ _ _ _ _ _ _ _ D n)).mono ?_
    rintro e w' ⟨rfl, rfl⟩
    exact h.same 5
  | false =>
    rw [if_neg (by simp)] at hr
    cases hh : hasA L n with
    | false =>
      rw [if_pos hh] at hr
      cases hr
      rw [← e, hasA_not] at hh
      refine (sync_err (dP d) 6 (by decide) (dlook_none _ _ _ _ _ _ _ _ D hn1 hn2 hh)).mono ?_
      rintro e w' ⟨rfl, rfl⟩
      exact h.same 6
    | true =>
      rw [if_neg (by simp [hh])] at hr
      rw [← e, hasA_iff] at hh
      obtain ⟨s, hs, rfl⟩ := hh
      by_cases c4 : fuse = 0
      · rw [if_pos c4] at hr
        cases hr
        subst c4
        refine (sync_dead D hs).mono ?_
        rintro e' w' ⟨rfl, D', t⟩
        exact DD.turned (a' := ⟨room, 0, true, L⟩) hB D' e (t.mono fun k _ e => .inl e) (fun _ h => .inl h) h1 h2 h3 (by simp only; omega) (by simp only; omega) 5
      · rw [if_neg c4] at hr
        cases hr
        refine (sync_ok D hs c4 h5).mono ?_
        rintro e' w' ⟨rfl, D', t, hB'⟩
        have hmap : (upd M (settled s)).map ab = syncA s.n L := by rw [← e]; exact sync_upd D.ri hs
        have hsum := sum_sync s.n L
        refine DD.turned (K := K) (a' := ⟨room, fz fuse, false, syncA s.n L⟩) hB ?_ hmap t hB' (by simp only; omega) h2 (by simp only; rw [← hmap]; simp [upd]; rw [← e] at h3; simpa using h3) g1 g2 0
        simp only
        rw [hsum]
        exact D'
/-- Drop. -/
theorem drop_DD (h : DD w B d a) (hn1 : -9223372036854775808 ≤ n) (hn2 : n ≤ 9223372036854775807) (hr : opD dropA a n = (r, a')) :
    Calls Try.prog 27 #[dP d, .int .i64 n] w (Dn w B d r a') := by
  obtain ⟨K, mb, M, D, e, hB⟩ := h.ex
  obtain ⟨room, fuse, down, L⟩ := a
  simp only at D e
  have h1 := h.le
  have h2 := h.rm
  have h3 := h.ln
  have h4 := h.f1
  have h5 := h.f2
  simp only at h1 h2 h3 h4 h5
  obtain ⟨g1, g2⟩ := fz_bd h4 h5
  unfold opD at hr
  simp only at hr
  cases down with
  | true =>
    rw [if_pos rfl] at hr
    cases hr
    refine (drop_err (dP d) 5 (by decide) (dlook_down _ _ _ _ _ _ _ _ D n)).mono ?_
    rintro e w' ⟨rfl, rfl⟩
    exact h.same 5
  | false =>
    rw [if_neg (by simp)] at hr
    cases hh : hasA L n with
    | false =>
      rw [if_pos hh] at hr
      cases hr
      rw [← e, hasA_not] at hh
      refine (drop_err (dP d) 6 (by decide) (dlook_none _ _ _ _ _ _ _ _ D hn1 hn2 hh)).mono ?_
      rintro e w' ⟨rfl, rfl⟩
      exact h.same 6
    | true =>
      rw [if_neg (by simp [hh])] at hr
      rw [← e, hasA_iff] at hh
      obtain ⟨s, hs, rfl⟩ := hh
      by_cases c4 : fuse = 0
      · rw [if_pos c4] at hr
        cases hr
        subst c4
        refine (drop_dead D hs).mono ?_
        rintro e' w' ⟨rfl, D', t⟩
        exact DD.turned (a' := ⟨room, 0, true, L⟩) hB D' e (t.mono fun k _ e => .inl e) (fun _ h => .inl h) h1 h2 h3 (by simp only; omega) (by simp only; omega) 5
      · rw [if_neg c4] at hr
        cases hr
        obtain ⟨T, R, eM⟩ := List.append_of_mem hs
        have hri := D.ri
        have hsum : sumA L = sumA (dropA s.n L) + s.b.length := by
          rw [← e, ← drop_filter]
          rw [eM] at hri ⊢
          rw [filter_at hri, sum_split]
        refine (drop_ok D hs c4 h5 (by omega) (by omega)).mono ?_
        rintro e' w' ⟨rfl, D', t, hB'⟩
        have hmap : (M.filter fun t => !decide (t.n = s.n)).map ab = dropA s.n L := by rw [← e]; exact drop_filter M s.n
        have hlen := len_drop s.n L
        refine DD.turned (K := K) (a' := ⟨room, fz fuse, false, dropA s.n L⟩) hB ?_ hmap t (fun k hk => .inl (hB' k hk)) (by simp only; omega) h2 (by simp only; omega) g1 g2 0
        simp only
        have : ((sumA L : Nat) : Int) - (s.b.length : Nat) = ((sumA (dropA s.n L) : Nat) : Int) := by omega
        rw [← this]
        exact D'
theorem fuse_DD (h : DD w B d a) (hn2 : n ≤ 9223372036854775807) (hr : fuseD a n = (r, a')) :
    Calls Try.prog 29 #[dP d, .int .i64 n] w (Dn w B d r a') := by
  obtain ⟨K, mb, M, D, e, hB⟩ := h.ex
  obtain ⟨room, fuse, down, L⟩ := a
  simp only at D e
  unfold fuseD at hr
  simp only at hr
  cases down with
  | true =>
    rw [if_pos rfl] at hr
    cases hr
    refine (fuse_down D).mono ?_
    rintro e w' ⟨rfl, rfl⟩
    exact h.same 5
  | false =>
    rw [if_neg (by simp)] at hr
    cases hr
    refine (fuse_ok D).mono ?_
    rintro e' w' ⟨rfl, D', t⟩
    exact DD.turned (a' := ⟨room, max n (-1), false, L⟩) hB D' e (t.mono fun k _ e => .inl e) (fun _ h => .inl h) h.le h.rm h.ln (by simp only; omega) (by simp only; omega) 0
theorem new_DD (x : Int) (h1 : 0 ≤ x) (h2 : x ≤ 67108864) (w : World) : Calls Try.prog 8 #[.int .i64 x] w fun e w' => e = .returned (.tuple #[dP (w.heap.size + 1), .int .i64 0]) ∧ (∃ B, DD w' B (w.heap.size + 1) ⟨x, -1, false, []⟩ ∧ ∀ k, B k → w.heap.size ≤ k) ∧ Below w.heap.size w w' := by
  refine (dnew_ok x h1 h2 w).mono ?_
  rintro e w' ⟨rfl, D, hb⟩
  refine ⟨rfl, ⟨blD (w.heap.size + 1) w.heap.size [], ⟨⟨_, _, [], D, rfl, fun _ h => h⟩, fun k hk => (D.top hk).2, by simpa [sumA] using h1, h2, by simp, by simp, by simp⟩, fun k hk => ?_⟩, hb⟩
  rcases hk with e | e | ⟨s, hs, _⟩
  · omega
  · omega
  · cases hs
theorem down_DD (h : DD w B d a) : Calls Try.prog 31 #[dP d] w fun e w' => e = .returned (.bool a.down) ∧ w' = w := by
  obtain ⟨K, mb, M, D, _, _⟩ := h.ex
  exact down_any D
theorem used_DD (h : DD w B d a) : Calls Try.prog 32 #[dP d] w fun e w' => e = .returned (.int .i64 (sumA a.L : Nat)) ∧ w' = w := by
  obtain ⟨K, mb, M, D, _, _⟩ := h.ex
  exact used_any D
theorem read_DD (h : DD w B d a) (hd : a.down = false) {x : As} (hx : x ∈ a.L) : Calls Try.prog 25 #[dP d, .int .i64 x.n] w fun e w' => ∃ A c, e = .returned (.tuple #[.slice A x.b.length c, .int .i64 0]) ∧ Ob w' w.heap.size (.slice A x.b.length c) x.b ∧ Below w.heap.size w w' := by
  obtain ⟨K, mb, M, D, e, hB⟩ := h.ex
  rw [hd] at D
  rw [← e] at hx
  obtain ⟨s, hs, rfl⟩ := List.mem_map.1 hx
  obtain ⟨T, R, eM⟩ := List.append_of_mem hs
  have hslen : s.b.length ≤ sumA a.L := by rw [← e, eM, sum_split]; omega
  have h1 := h.le
  have h2 := h.rm
  exact read_ok D hs (by omega)
theorem read_DDn (h : DD w B d a) (hn1 : -9223372036854775808 ≤ n) (hn2 : n ≤ 9223372036854775807) {v : Int} (hv : (a.down = true ∧ v = 5) ∨ (a.down = false ∧ hasA a.L n = false ∧ v = 6)) : Calls Try.prog 25 #[dP d, .int .i64 n] w fun e w' => e = .returned (.tuple #[.slice none 0 0, .int .i64 v]) ∧ w' = w := by
  obtain ⟨K, mb, M, D, e, hB⟩ := h.ex
  rcases hv with ⟨hd, rfl⟩ | ⟨hd, hh, rfl⟩
  · rw [hd] at D
    exact read_err (dP d) 5 (by decide) (dlook_down _ _ _ _ _ _ _ _ D n)
  · rw [hd] at D
    rw [← e, hasA_not] at hh
    exact read_err (dP d) 6 (by decide) (dlook_none _ _ _ _ _ _ _ _ D hn1 hn2 hh)
end
end Go.Proofs.Ytpckbbjlihhpdaa
