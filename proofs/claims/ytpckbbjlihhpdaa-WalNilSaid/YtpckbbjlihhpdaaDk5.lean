/- A disk's Sync, Drop, Read, Used, Down, Segs, Fuse. -/
import Derived.Test.YtpckbbjlihhpdaaDk4
import Derived.Deep.RegionLaw
namespace Go.Proofs.Ytpckbbjlihhpdaa
open Go.RowKit Go.Maps Go.BigFrame

section
variable {K d mb : Nat} {room used fuse : Int} {down : Bool} {M : List Sg} {w : World} {n : Int}
def settled (s : Sg) : Sg := ⟨s.n, s.g, s.v, s.b, s.b.length, true⟩
theorem Dk.settleS (h : Dk w K d mb room used fuse down M) {s : Sg} (hs : s ∈ M) {N : Nat} (hN : N = s.b.length) :
    Dk ((w.setCell ⟨s.g, 1, none⟩ (.int .i64 (N : Int))).setCell ⟨s.g, 2, none⟩ (.bool true)) K d mb room used fuse down (upd M (settled s)) ∧ Tn (bl s) w ((w.setCell ⟨s.g, 1, none⟩ (.int .i64 (N : Int))).setCell ⟨s.g, 2, none⟩ (.bool true)) ∧ ∀ k, blD d mb (upd M (settled s)) k → blD d mb M k ∨ w.heap.size ≤ k := by
  subst hN
  have hc := h.sg s hs
  have t0 := (Tn.setCell w s.g 1 (.int .i64 (s.b.length : Int))).then (Tn.setCell _ s.g 2 (.bool true))
  have t : Tn (bl s) w _ := t0.mono fun k _ e => .inl e
  obtain ⟨D, B⟩ := h.setS (s' := settled s) hs rfl rfl t ⟨by
      rw [World.cell?_setCell_other _ _ _ _ (by simp [settled]), World.cell?_setCell_other _ _ _ _ (by simp [settled])]; exact hc.c0, by
      rw [World.cell?_setCell_other _ _ _ _ (by simp [settled])]
      exact World.cell?_setCell_same' _ _ _ (by rw [hc.c1]; rfl), World.cell?_setCell_same' _ _ _ (by rw [World.cell?_setCell_other _ _ _ _ (by simp), hc.c2]; rfl), fun o => by
      rw [World.frozen?_setCell, World.frozen?_setCell]; exact hc.fr o, t0.ob hc.ob fun k hk e => hc.se (show s.v.ownBlock = some s.g from e ▸ hk), hc.kg, Nat.le_refl _, hc.se, hc.n1, hc.n2⟩ (.inl rfl)
  exact ⟨D, t, B⟩
theorem Dk.formS (h : Dk w K d mb room used fuse down M) {s : Sg} (hs : s ∈ M) : ∃ A c, s.v = .slice A s.b.length c := by
  rcases (h.sg s hs).ob.2 with ⟨he, h0⟩ | ⟨g, cap', cur, he, _⟩
  · exact ⟨none, 0, by rw [he, h0]⟩
  · exact ⟨_, _, he⟩
theorem sync_err (pv : Value) (v : Int) (hv : v ≠ 0) (HL : Calls Try.prog 51 #[pv, .int .i64 n] w fun e w' => e = .returned (.int .i64 v) ∧ w' = w) : Calls Try.prog 23 #[pv, .int .i64 n] w fun e w' => e = .returned (.int .i64 v) ∧ w' = w := by
  have h0 : (v != (0 : Int)) = true := by simpa using hv
  go_enter Try.func23, Try.ntmps23
  go_wp2_with (go_at_call 51; refine HL.mono ?_; rintro e w' ⟨rfl, rfl⟩)
  go_ret
  exact ⟨rfl, rfl⟩
theorem drop_err (pv : Value) (v : Int) (hv : v ≠ 0) (HL : Calls Try.prog 51 #[pv, .int .i64 n] w fun e w' => e = .returned (.int .i64 v) ∧ w' = w) : Calls Try.prog 27 #[pv, .int .i64 n] w fun e w' => e = .returned (.int .i64 v) ∧ w' = w := by
  have h0 : (v != (0 : Int)) = true := by simpa using hv
  go_enter Try.func27, Try.ntmps27
  go_wp2_with (go_at_call 51; refine HL.mono ?_; rintro e w' ⟨rfl, rfl⟩)
  go_ret
  exact ⟨rfl, rfl⟩
theorem read_err (pv : Value) (v : Int) (hv : v ≠ 0) (HL : Calls Try.prog 51 #[pv, .int .i64 n] w fun e w' => e = .returned (.int .i64 v) ∧ w' = w) : Calls Try.prog 25 #[pv, .int .i64 n] w fun e w' => e = .returned (.tuple #[.slice none 0 0, .int .i64 v]) ∧ w' = w := by
  have h0 : (v != (0 : Int)) = true := by simpa using hv
  go_enter Try.func25, Try.ntmps25
  go_wp2_with (go_at_call 51; refine HL.mono ?_; rintro e w' ⟨rfl, rfl⟩)
  refine bodyPost_ret (v := .tuple #[.slice none 0 0, .int .i64 v]) (by simp [results, Try.results25, go_sem]) rfl ⟨rfl, rfl⟩
theorem sync_dead (h : Dk w K d mb room used 0 false M) {s : Sg} (hs : s ∈ M) : Calls Try.prog 23 #[dP d, .int .i64 s.n] w fun e w' => e = .returned (.int .i64 5) ∧ Dk w' K d mb room used 0 true M ∧ Tn (· = d) w w' := by
  have HL := Lib.hid (dlook_ok K d mb room used 0 M w h hs)
  have HD := Lib.hid h
  clear h
  go_enter Try.func23, Try.ntmps23
  go_wp2_with (first
    | (go_at_call 51; refine HL.out.mono ?_; rintro e w' ⟨rfl, rfl⟩)
    | (go_at_call 49; refine (step_none K d mb room used false M _ HD.out).mono ?_; rintro e w' ⟨rfl, D1, T1⟩))
  go_ret
  exact ⟨rfl, D1, T1⟩
set_option maxRecDepth 100000 in
theorem drop_dead (h : Dk w K d mb room used 0 false M) {s : Sg} (hs : s ∈ M) : Calls Try.prog 27 #[dP d, .int .i64 s.n] w fun e w' => e = .returned (.int .i64 5) ∧ Dk w' K d mb room used 0 true M ∧ Tn (· = d) w w' := by
  have HL := Lib.hid (dlook_ok K d mb room used 0 M w h hs)
  have HD := Lib.hid h
  clear h
  go_enter Try.func27, Try.ntmps27
  go_wp2_with (first
    | (go_at_call 51; refine HL.out.mono ?_; rintro e w' ⟨rfl, rfl⟩)
    | (go_at_call 49; refine (step_none K d mb room used false M _ HD.out).mono ?_; rintro e w' ⟨rfl, D1, T1⟩))
  go_ret
  exact ⟨rfl, D1, T1⟩
set_option maxRecDepth 100000 in
theorem sync_ok (h : Dk w K d mb room used fuse false M) {s : Sg} (hs : s ∈ M) (hf : fuse ≠ 0) (hf2 : fuse ≤ 9223372036854775807) : Calls Try.prog 23 #[dP d, .int .i64 s.n] w fun e w' => e = .returned (.int .i64 0) ∧ Dk w' K d mb room used (fz fuse) false (upd M (settled s)) ∧ Tn (blD d mb M) w w' ∧ ∀ k, blD d mb (upd M (settled s)) k → blD d mb M k ∨ w.heap.size ≤ k := by
  have HL := Lib.hid (dlook_ok K d mb room used fuse M w h hs)
  have HD := Lib.hid h
  clear h
  go_enter Try.func23, Try.ntmps23
  go_wp2_with (first
    | (go_at_call 51; refine HL.out.mono ?_; rintro e w' ⟨rfl, rfl⟩)
    | (go_at_call 49; refine (step_yes K d mb room used fuse M _ HD.out hf hf2).mono ?_; rintro e w1 ⟨rfl, D1, T1⟩; have hl := D1.look hs; have c2 := D1.c2; have HD1 := Lib.hid D1; have HT1 := Lib.hid T1; have hz1 := T1.size; clear D1 T1)
    | (go_at_call 52; obtain ⟨sA, sc, hsv⟩ := HD1.out.formS hs; refine (settle_any s.g sA s.b.length sc _ (by rw [← hsv]; exact (HD1.out.sg s hs).c0) (HD1.out.sg s hs).fr _ _ (HD1.out.sg s hs).c1 (HD1.out.sg s hs).c2).mono ?_; rintro e w2 ⟨rfl, rfl⟩))
  go_ret
  obtain ⟨D2, T2, B2⟩ := HD1.out.settleS hs rfl
  exact ⟨rfl, D2, (HT1.out.mono (Q := blD d mb M) (fun k _ e => .inl e)).thenQ T2 (fun k _ e => .inr (.inr ⟨s, hs, e⟩)), fun k hk => (B2 k hk).imp id fun e => Nat.le_trans hz1 e⟩
set_option maxRecDepth 100000 in
theorem read_ok (h : Dk w K d mb room used fuse false M) {s : Sg} (hs : s ∈ M) (hsz : s.b.length ≤ 140737488355328) : Calls Try.prog 25 #[dP d, .int .i64 s.n] w fun e w' => ∃ A c, e = .returned (.tuple #[.slice A s.b.length c, .int .i64 0]) ∧ Ob w' w.heap.size (.slice A s.b.length c) s.b ∧ Below w.heap.size w w' := by
  have HL := Lib.hid (dlook_ok K d mb room used fuse M w h hs)
  obtain ⟨sA, sc, hsv⟩ := h.formS hs
  have c2 := h.c2
  have hl := h.look hs
  have k0 := (h.sg s hs).c0
  have ob := (h.sg s hs).ob
  rw [hsv] at k0 ob
  have HB := Lib.hid ob.bs.1
  clear h ob
  go_enter Try.func25, Try.ntmps25
  go_wp2_with (first
    | (go_at_call 51; refine HL.out.mono ?_; rintro e w' ⟨rfl, rfl⟩)
    | (go_at_call 55; refine (clone_any _ sA s.b.length sc s.b _ rfl HB.out (Nat.le_refl _) hsz).mono ?_; rintro e w1 ⟨A1, c1, rfl, ob1, b1⟩))
  refine bodyPost_ret (v := .tuple #[.slice A1 s.b.length c1, .int .i64 0]) (by simp [results, Try.results25, go_sem]) rfl ⟨A1, c1, rfl, ob1, b1⟩
/-- Drop. -/
theorem Dk.delLook (h : Dk w K d mb room used fuse down M) {s : Sg} (hs : s ∈ M) : (Instr.lookup 63 (.map (some mb)) (.int .i64 s.n) false).run Try.prog w.drew = .ok (.pointer (some ⟨s.g, 0, none⟩)) w.drew := (h.below (⟨rfl, rfl, rfl, Nat.le_refl _, fun _ _ => rfl⟩ : Below w.heap.size w w.drew)).look hs
set_option maxRecDepth 100000 in
set_option maxHeartbeats 3200000 in
theorem drop_ok (h : Dk w K d mb room used fuse false M) {s : Sg} (hs : s ∈ M) (hf : fuse ≠ 0) (hf2 : fuse ≤ 9223372036854775807) (hu : (s.b.length : Int) ≤ used) (hu2 : used ≤ 67108864) : Calls Try.prog 27 #[dP d, .int .i64 s.n] w fun e w' => e = .returned (.int .i64 0) ∧ Dk w' K d mb room (used - s.b.length) (fz fuse) false (M.filter fun t => !decide (t.n = s.n)) ∧ Tn (blD d mb M) w w' ∧ ∀ k, blD d mb (M.filter fun t => !decide (t.n = s.n)) k → blD d mb M k := by
  have HL := Lib.hid (dlook_ok K d mb room used fuse M w h hs)
  have HD := Lib.hid h
  have n1 := (h.sg s hs).n1
  have n2 := (h.sg s hs).n2
  have hw : IntKind.i64.wrap (used - (s.b.length : Int)) = used - (s.b.length : Int) := wrap_in (by omega) (by omega)
  clear h
  go_enter Try.func27, Try.ntmps27
  go_wp2_with (first
    | (go_at_call 51; refine HL.out.mono ?_; rintro e w' ⟨rfl, rfl⟩)
    | (go_at_call 49; refine (step_yes K d mb room used fuse M _ HD.out hf hf2).mono ?_; rintro e w1 ⟨rfl, D1, T1⟩; have hl := D1.delLook hs; have c1 := D1.c1; have f1 := D1.fr 1; have c2 := D1.c2; have hk := D1.formS hs; have k0 := (D1.sg s hs).c0; have HD1 := Lib.hid D1; have HT1 := Lib.hid T1; clear D1 T1))
  obtain ⟨sA, sc, hsv⟩ := hk
  rw [hsv] at k0
  go_region_law (fail)
  all_goals
    have HD2 := Lib.hid ((HD1.out.below (⟨rfl, rfl, rfl, Nat.le_refl _, fun _ _ => rfl⟩ : Below w1.heap.size w1 w1.drew)).set1 (used - (s.b.length : Int)))
    have c22 := HD2.out.c2
    go_wp2_with (at_delete; go_loud (refine wpList_delete_own _ rfl _ _ 63 3 rfl 94 keyI Try.underlying63 ptrE mb M.length (Dm M) rfl HD2.out.mp _ _ rfl (keyOf_int_mk Try.underlying3 (wf64 (by omega) n2)) ?_; intro w3 hown3 hturn3))
    go_ret
    obtain ⟨D3, B3⟩ := HD2.out.del s.n ((Tn.ofGrown hturn3.grown).mono fun k _ e => by injection e) hown3
    exact ⟨rfl, D3, (((HT1.out.mono (Q := blD d mb M) (fun k _ e => .inl e)).thenQ (Tn.ofNew (P := blD d mb M) (⟨rfl, rfl, rfl, Nat.le_refl _, fun _ _ => rfl⟩ : Below w1.heap.size w1 w1.drew)) (fun _ _ e => e)).thenQ (Tn.setCell _ d 1 _) (fun _ _ e => .inl e)).thenQ (Tn.ofGrown hturn3.grown) (fun k _ e => .inr (.inl (by injection e))), B3⟩
end
end Go.Proofs.Ytpckbbjlihhpdaa
