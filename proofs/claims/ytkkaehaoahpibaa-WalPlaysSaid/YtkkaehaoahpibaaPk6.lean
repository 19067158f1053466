/- Small facts of a disk's segments. -/
import Derived.Test.YtkkaehaoahpibaaPk5
import Derived.Test.YtkkaehaoahpibaaPk0
namespace Go.Proofs.Ytkkaehaoahpibaa
open Go.RowKit Go.Maps Go.BigFrame

section
variable {K d mb : Nat} {room used fuse : Int} {down : Bool} {M : List Sg} {w : World} {n : Int}
set_option maxRecDepth 100000 in
set_option maxHeartbeats 6400000 in
theorem tear_cut (h : Dk w K d mb room used fuse down M) {s : Sg} (hs : s ∈ M) (more : Int) (q : Nat) (hq : max more 0 = (q : Int)) (hlt : s.l + q < s.b.length) (hk : s.k = true ∨ 0 < s.l + q) (hlen : s.b.length ≤ 67108864) (hu : (s.b.length : Int) ≤ used) (hu2 : used ≤ 67108864) :
    Calls Try.prog 46 #[dP d, .int .i64 s.n, .int .i64 more] w fun e w' => e = .returned (.tuple #[]) ∧ ∃ v, Dk w' K d mb room (used - ((s.b.length : Int) - s.l - q)) fuse down (upd M ⟨s.n, s.g, v, s.b.take (s.l + q), s.l + q, true⟩) ∧ Tn (blD d mb M) w w' ∧ ∀ k, blD d mb (upd M ⟨s.n, s.g, v, s.b.take (s.l + q), s.l + q, true⟩) k → blD d mb M k ∨ w.heap.size ≤ k := by
  obtain ⟨sA, sc, hsv⟩ := h.formS hs
  have c2 := h.c2
  have hl := h.look hs
  have k0 := (h.sg s hs).c0
  have k1 := (h.sg s hs).c1
  have k2 := (h.sg s hs).c2
  have ob := (h.sg s hs).ob
  rw [hsv] at k0 ob
  have HB := Lib.hid ob.bs.1
  have hcap := ob.bs.1.le
  have hcm := ob.bs.1.max
  unfold maxLen at hcm
  have HD := Lib.hid h
  have hmin : min (q : Int) ((s.b.length : Int) - s.l) = (q : Int) := by omega
  have hd : decide ((q : Int) < (s.b.length : Int) - s.l) = true := by simp; omega
  have hd0 : (q : Int) < (s.b.length : Int) - s.l := by omega
  have hw1 : IntKind.i64.wrap ((s.b.length : Int) - ((s.b.length : Int) - s.l - q)) = (s.l : Int) + q := by rw [wrap_in (by omega) (by omega)]; omega
  have c1 := HD.out.c1
  have df := HD.out.fr 1
  have gf := (HD.out.sg s hs).fr 0
  have hgl := (HD.out.sg s hs).lt
  have hdl := HD.out.lt
  have hne : d ≠ s.g := fun e => (HD.out.of_ s hs s.g (.inl rfl)).1 e.symm
  have hne2 : s.g ≠ d := fun e => hne e.symm
  have h01 : (0 : Int) ≤ (s.l : Int) + q := by omega
  have h02 : (s.l : Int) + q ≤ (sc : Int) := by omega
  have h03 : ((s.l : Int) + (q : Int)).toNat = s.l + q := by omega
  have hw5 : IntKind.i64.wrap (used - ((s.b.length : Int) - s.l - q)) = used - ((s.b.length : Int) - s.l - q) := wrap_in (by omega) (by omega)
  obtain ⟨bt, hbt⟩ : ∃ bt, bt = s.b.take (s.l + q) := ⟨_, rfl⟩
  have hbl : bt.length = s.l + q := by rw [hbt]; simp; omega
  have HB2 := Lib.hid (HB.out.to (j := s.l + q) (by omega))
  rw [← hbt] at HB2
  have HBT := Lib.hid hbt
  clear h ob hbt
  cases hkk : s.k
  · have hp : 0 < s.l + q := by
      rcases hk with e | e
      · rw [hkk] at e; cases e
      · exact e
    have h0 : ((s.l : Int) + q == (0 : Int)) = false := by rw [beq_eq_false_iff_ne]; omega
    rw [hkk] at k2
    have HKK := Lib.hid hkk
    clear hk hkk
    go_enter Try.func46, Try.ntmps46
    go_wp2_with fail
    go_big_quiet (fail)
    clear hl
    go_wp2_with fail
    go_region_law (first
      | (go_simp; go_at_call 55; go_loud (refine (clone_any w.heap.size sA (s.l + q) sc bt _ hbl (HB2.out.drewN _) (Nat.le_refl _) (by omega)).mono ?_; rintro e w2 ⟨A2, cc, rfl, ob2, b2⟩; rw [hbl] at ob2; have y0 := kept b2 k0; have y1 := kept b2 k1; have y2 := kept b2 k2; have yf := (b2.frozen (p := ⟨s.g, 0, none⟩) hgl).trans gf; have e1 := kept b2 c1; have ef := (b2.frozen (p := ⟨d, 1, none⟩) hdl).trans df)))
    all_goals
      obtain ⟨D1, T1, B1⟩ := (HD.out.drewN _).cutS hs (j := s.l + q) (by omega) (by omega) rfl b2 (by rw [← HBT.out]; exact ob2)
      have D2 := D1.set1 (used - ((s.b.length : Int) - s.l - q))
      have hin : (⟨s.n, s.g, .slice A2 (s.l + q) cc, s.b.take (s.l + q), s.l, s.k⟩ : Sg) ∈ upd M ⟨s.n, s.g, .slice A2 (s.l + q) cc, s.b.take (s.l + q), s.l, s.k⟩ := mem_upd_self hs rfl
      have HD2 := Lib.hid D2
      have HT1 := Lib.hid T1
      have HB1 := Lib.hid B1
      have HIN := Lib.hid hin
      have x0 := (D2.sg _ hin).c0
      have x1 := (D2.sg _ hin).c1
      have x2 := (D2.sg _ hin).c2
      simp only at x0 x1 x2
      rw [HKK.out] at x2
      clear D1 D2 T1 B1 hin
      go_wp2_with fail
      refine (settle_any s.g A2 (s.l + q) cc _ x0 (fun o => (HD2.out.sg _ HIN.out).fr o) _ _ x1 x2).mono ?_
      rintro e w3 ⟨rfl, rfl⟩
      go_wp2
      go_end0
      obtain ⟨D3, T3, B3⟩ := HD2.out.settleS HIN.out (N := s.l + q) (by simp; omega)
      have hl3 : (s.b.take (s.l + q)).length = s.l + q := by simp; omega
      have e4 : upd (upd M ⟨s.n, s.g, .slice A2 (s.l + q) cc, s.b.take (s.l + q), s.l, s.k⟩) (settled ⟨s.n, s.g, .slice A2 (s.l + q) cc, s.b.take (s.l + q), s.l, s.k⟩) = upd M ⟨s.n, s.g, .slice A2 (s.l + q) cc, s.b.take (s.l + q), s.l + q, true⟩ := by
        rw [upd_upd _ (by rfl)]
        show upd M ⟨s.n, s.g, .slice A2 (s.l + q) cc, s.b.take (s.l + q), (s.b.take (s.l + q)).length, true⟩ = _
        rw [hl3]
      rw [e4] at D3 B3
      have hz : w.heap.size ≤ (w2.setCell ⟨s.g, 0, none⟩ (.slice A2 (s.l + q) cc)).heap.size := HT1.out.size
      refine ⟨rfl, _, D3, (((Tn.ofNew (P := blD d mb M) (below_drewN _ _ _)).thenQ HT1.out (fun _ _ e => .inr (.inr ⟨s, hs, e⟩))).thenQ (Tn.setCell _ d 1 _) (fun _ _ e => .inl e)).thenQ T3 (fun k hk e => ?_), fun k hk => ?_⟩
      · rcases e with e | e
        · exact .inr (.inr ⟨s, hs, .inl e⟩)
        · have h8 : w.heap.size ≤ k := (ob2.lt k e).1
          have h9 : k < w.heap.size := hk
          omega
      · rcases B3 k hk with e | e
        · exact HB1.out k e
        · exact .inr (Nat.le_trans hz (by simpa [World.setCell] using e))
  · rw [hkk] at k2
    have HKK := Lib.hid hkk
    clear hk hkk
    go_enter Try.func46, Try.ntmps46
    go_wp2_with fail
    go_big_quiet (fail)
    clear hl
    go_wp2_with fail
    go_region_law (first
      | (go_simp; go_at_call 55; go_loud (refine (clone_any w.heap.size sA (s.l + q) sc bt _ hbl (HB2.out.drewN _) (Nat.le_refl _) (by omega)).mono ?_; rintro e w2 ⟨A2, cc, rfl, ob2, b2⟩; rw [hbl] at ob2; have y0 := kept b2 k0; have y1 := kept b2 k1; have y2 := kept b2 k2; have yf := (b2.frozen (p := ⟨s.g, 0, none⟩) hgl).trans gf; have e1 := kept b2 c1; have ef := (b2.frozen (p := ⟨d, 1, none⟩) hdl).trans df)))
    all_goals
      obtain ⟨D1, T1, B1⟩ := (HD.out.drewN _).cutS hs (j := s.l + q) (by omega) (by omega) rfl b2 (by rw [← HBT.out]; exact ob2)
      have D2 := D1.set1 (used - ((s.b.length : Int) - s.l - q))
      have hin : (⟨s.n, s.g, .slice A2 (s.l + q) cc, s.b.take (s.l + q), s.l, s.k⟩ : Sg) ∈ upd M ⟨s.n, s.g, .slice A2 (s.l + q) cc, s.b.take (s.l + q), s.l, s.k⟩ := mem_upd_self hs rfl
      have HD2 := Lib.hid D2
      have HT1 := Lib.hid T1
      have HB1 := Lib.hid B1
      have HIN := Lib.hid hin
      have x0 := (D2.sg _ hin).c0
      have x1 := (D2.sg _ hin).c1
      have x2 := (D2.sg _ hin).c2
      simp only at x0 x1 x2
      rw [HKK.out] at x2
      clear D1 D2 T1 B1 hin
      go_wp2_with fail
      refine (settle_any s.g A2 (s.l + q) cc _ x0 (fun o => (HD2.out.sg _ HIN.out).fr o) _ _ x1 x2).mono ?_
      rintro e w3 ⟨rfl, rfl⟩
      go_wp2
      go_end0
      obtain ⟨D3, T3, B3⟩ := HD2.out.settleS HIN.out (N := s.l + q) (by simp; omega)
      have hl3 : (s.b.take (s.l + q)).length = s.l + q := by simp; omega
      have e4 : upd (upd M ⟨s.n, s.g, .slice A2 (s.l + q) cc, s.b.take (s.l + q), s.l, s.k⟩) (settled ⟨s.n, s.g, .slice A2 (s.l + q) cc, s.b.take (s.l + q), s.l, s.k⟩) = upd M ⟨s.n, s.g, .slice A2 (s.l + q) cc, s.b.take (s.l + q), s.l + q, true⟩ := by
        rw [upd_upd _ (by rfl)]
        show upd M ⟨s.n, s.g, .slice A2 (s.l + q) cc, s.b.take (s.l + q), (s.b.take (s.l + q)).length, true⟩ = _
        rw [hl3]
      rw [e4] at D3 B3
      have hz : w.heap.size ≤ (w2.setCell ⟨s.g, 0, none⟩ (.slice A2 (s.l + q) cc)).heap.size := HT1.out.size
      refine ⟨rfl, _, D3, (((Tn.ofNew (P := blD d mb M) (below_drewN _ _ _)).thenQ HT1.out (fun _ _ e => .inr (.inr ⟨s, hs, e⟩))).thenQ (Tn.setCell _ d 1 _) (fun _ _ e => .inl e)).thenQ T3 (fun k hk e => ?_), fun k hk => ?_⟩
      · rcases e with e | e
        · exact .inr (.inr ⟨s, hs, .inl e⟩)
        · have h8 : w.heap.size ≤ k := (ob2.lt k e).1
          have h9 : k < w.heap.size := hk
          omega
      · rcases B3 k hk with e | e
        · exact HB1.out k e
        · exact .inr (Nat.le_trans hz (by simpa [World.setCell] using e))
end
end Go.Proofs.Ytkkaehaoahpibaa
namespace Go.Proofs.Ytkkaehaoahpibaa
open Go.RowKit Go.Maps Go.BigFrame

section
variable {K d mb : Nat} {room used fuse : Int} {down : Bool} {M : List Sg} {w : World} {n : Int}
set_option maxRecDepth 100000 in
set_option maxHeartbeats 6400000 in
theorem tear_gone (h : Dk w K d mb room used fuse down M) {s : Sg} (hs : s ∈ M) (more : Int) (q : Nat) (hq : max more 0 = (q : Int)) (hlt : s.l + q < s.b.length) (hk : s.k = false) (hz0 : s.l + q = 0) (hlen : s.b.length ≤ 67108864) (hu : (s.b.length : Int) ≤ used) (hu2 : used ≤ 67108864) :
    Calls Try.prog 46 #[dP d, .int .i64 s.n, .int .i64 more] w fun e w' => e = .returned (.tuple #[]) ∧ Dk w' K d mb room (used - ((s.b.length : Int) - s.l - q)) fuse down (M.filter fun t => !decide (t.n = s.n)) ∧ Tn (blD d mb M) w w' ∧ ∀ k, blD d mb (M.filter fun t => !decide (t.n = s.n)) k → blD d mb M k ∨ w.heap.size ≤ k := by
  obtain ⟨sA, sc, hsv⟩ := h.formS hs
  have c2 := h.c2
  have hl := h.look hs
  have k0 := (h.sg s hs).c0
  have k1 := (h.sg s hs).c1
  have k2 := (h.sg s hs).c2
  have ob := (h.sg s hs).ob
  rw [hsv] at k0 ob
  have HB := Lib.hid ob.bs.1
  have hcap := ob.bs.1.le
  have hcm := ob.bs.1.max
  unfold maxLen at hcm
  have HD := Lib.hid h
  have hmin : min (q : Int) ((s.b.length : Int) - s.l) = (q : Int) := by omega
  have hd : decide ((q : Int) < (s.b.length : Int) - s.l) = true := by simp; omega
  have hd0 : (q : Int) < (s.b.length : Int) - s.l := by omega
  have hw1 : IntKind.i64.wrap ((s.b.length : Int) - ((s.b.length : Int) - s.l - q)) = (s.l : Int) + q := by rw [wrap_in (by omega) (by omega)]; omega
  have c1 := HD.out.c1
  have df := HD.out.fr 1
  have gf := (HD.out.sg s hs).fr 0
  have hgl := (HD.out.sg s hs).lt
  have hdl := HD.out.lt
  have hne : d ≠ s.g := fun e => (HD.out.of_ s hs s.g (.inl rfl)).1 e.symm
  have hne2 : s.g ≠ d := fun e => hne e.symm
  have h01 : (0 : Int) ≤ (s.l : Int) + q := by omega
  have h02 : (s.l : Int) + q ≤ (sc : Int) := by omega
  have h03 : ((s.l : Int) + (q : Int)).toNat = s.l + q := by omega
  have hw5 : IntKind.i64.wrap (used - ((s.b.length : Int) - s.l - q)) = used - ((s.b.length : Int) - s.l - q) := wrap_in (by omega) (by omega)
  obtain ⟨bt, hbt⟩ : ∃ bt, bt = s.b.take (s.l + q) := ⟨_, rfl⟩
  have hbl : bt.length = s.l + q := by rw [hbt]; simp; omega
  have HB2 := Lib.hid (HB.out.to (j := s.l + q) (by omega))
  rw [← hbt] at HB2
  have HBT := Lib.hid hbt
  clear h ob hbt
  rw [hk] at k2
  have HKK := Lib.hid hk
  have n1 := (HD.out.sg s hs).n1
  have n2 := (HD.out.sg s hs).n2
  have h0 : ((s.l : Int) + q == (0 : Int)) = true := by rw [beq_iff_eq]; omega
  clear hk hz0
  go_enter Try.func46, Try.ntmps46
  go_wp2_with fail
  go_big_quiet (fail)
  clear hl
  go_wp2_with fail
  go_region_law (first
    | (go_simp; go_at_call 55; go_loud (refine (clone_any w.heap.size sA (s.l + q) sc bt _ hbl (HB2.out.drewN _) (Nat.le_refl _) (by omega)).mono ?_; rintro e w2 ⟨A2, cc, rfl, ob2, b2⟩; rw [hbl] at ob2; have y0 := kept b2 k0; have y1 := kept b2 k1; have y2 := kept b2 k2; have yf := (b2.frozen (p := ⟨s.g, 0, none⟩) hgl).trans gf; have e1 := kept b2 c1; have ef := (b2.frozen (p := ⟨d, 1, none⟩) hdl).trans df)))
  all_goals
    obtain ⟨D1, T1, B1⟩ := (HD.out.drewN _).cutS hs (j := s.l + q) (by omega) (by omega) rfl b2 (by rw [← HBT.out]; exact ob2)
    have D2 := D1.set1 (used - ((s.b.length : Int) - s.l - q))
    have hin : (⟨s.n, s.g, .slice A2 (s.l + q) cc, s.b.take (s.l + q), s.l, s.k⟩ : Sg) ∈ upd M ⟨s.n, s.g, .slice A2 (s.l + q) cc, s.b.take (s.l + q), s.l, s.k⟩ := mem_upd_self hs rfl
    have HD2 := Lib.hid D2
    have HT1 := Lib.hid T1
    have HB1 := Lib.hid B1
    have HIN := Lib.hid hin
    have x0 := (D2.sg _ hin).c0
    have x1 := (D2.sg _ hin).c1
    have x2 := (D2.sg _ hin).c2
    simp only at x0 x1 x2
    rw [HKK.out] at x2
    clear D1 D2 T1 B1 hin
    have x3 := HD2.out.c2
    go_wp2_with (at_delete; go_loud (refine wpList_delete_own _ rfl _ _ 56 3 rfl 93 keyI Try.underlying56 ptrE mb _ _ rfl HD2.out.mp _ _ rfl (keyOf_int_mk Try.underlying3 (wf64 (by omega) n2)) ?_; intro w3 hown3 hturn3))
    obtain ⟨D3, B3⟩ := HD2.out.del s.n ((Tn.ofGrown hturn3.grown).mono fun k _ e => by injection e) hown3
    rw [filter_upd M ⟨s.n, s.g, .slice A2 (s.l + q) cc, s.b.take (s.l + q), s.l, s.k⟩] at D3 B3
    have hT1 := HT1.out
    refine bodyPost_ret (v := .tuple #[]) (by simp [results, Try.results46, go_sem]) rfl ⟨rfl, D3, (((Tn.ofNew (P := blD d mb M) (below_drewN _ _ _)).thenQ hT1 (fun _ _ e => .inr (.inr ⟨s, hs, e⟩))).thenQ (Tn.setCell _ d 1 _) (fun _ _ e => .inl e)).thenQ (Tn.ofGrown hturn3.grown) (fun k _ e => .inr (.inl (by injection e))), fun k hk => HB1.out k (B3 k hk)⟩
end
end Go.Proofs.Ytkkaehaoahpibaa
namespace Go.Proofs.Ytkkaehaoahpibaa
open Go.RowKit Go.Maps Go.BigFrame

section
variable {K d mb : Nat} {room used fuse : Int} {down : Bool} {M : List Sg} {w : World} {n : Int}
theorem used_nil : Calls Try.prog 35 #[.pointer none] w fun e w' => e = .returned (.int .i64 0) ∧ w' = w := by
  go_enter Try.func35, Try.ntmps35
  go_wp2
  go_ret
  exact ⟨rfl, rfl⟩
theorem used_any (h : Dk w K d mb room used fuse down M) : Calls Try.prog 35 #[dP d] w fun e w' => e = .returned (.int .i64 used) ∧ w' = w := by
  have c1 := h.c1
  clear h
  go_enter Try.func35, Try.ntmps35
  go_wp2
  go_ret
  exact ⟨rfl, rfl⟩
theorem down_nil : Calls Try.prog 34 #[.pointer none] w fun e w' => e = .returned (.bool false) ∧ w' = w := by
  go_enter Try.func34, Try.ntmps34
  go_wp2
  go_ret
  exact ⟨rfl, rfl⟩
theorem down_any (h : Dk w K d mb room used fuse down M) : Calls Try.prog 34 #[dP d] w fun e w' => e = .returned (.bool down) ∧ w' = w := by
  have c4 := h.c4
  clear h
  go_enter Try.func34, Try.ntmps34
  go_wp2
  go_ret
  exact ⟨rfl, rfl⟩
theorem segs_nil : Calls Try.prog 26 #[.pointer none] w fun e w' => e = .returned (.tuple #[.slice none 0 0, .int .i64 2]) ∧ w' = w := by
  go_enter Try.func26, Try.ntmps26
  go_wp2_with (go_at_call 51; refine (ready_nil _).mono ?_; rintro e w' ⟨rfl, rfl⟩)
  refine bodyPost_ret (v := .tuple #[.slice none 0 0, .int .i64 2]) (by simp [results, Try.results26, go_sem]) rfl ⟨rfl, rfl⟩
theorem segs_down (h : Dk w K d mb room used fuse true M) : Calls Try.prog 26 #[dP d] w fun e w' => e = .returned (.tuple #[.slice none 0 0, .int .i64 5]) ∧ w' = w := by
  go_enter Try.func26, Try.ntmps26
  go_wp2_with (go_at_call 51; refine (ready_any K d mb room used fuse true M _ h).mono ?_; rintro e w' ⟨rfl, rfl⟩)
  refine bodyPost_ret (v := .tuple #[.slice none 0 0, .int .i64 5]) (by simp [results, Try.results26, go_sem]) rfl ⟨rfl, rfl⟩
theorem segs_ok (h : Dk w K d mb room used fuse false M) (hM : M.length ≤ 1024) : Calls Try.prog 26 #[dP d] w fun e w' => ∃ v, e = .returned (.tuple #[v, .int .i64 0]) ∧ So encI 1 w' w.heap.size 3 v (M.map Sg.n) ∧ Below w.heap.size w w' := by
  have HN := Lib.hid (numbers_any K d mb room used fuse false M w h hM)
  have HR := Lib.hid (ready_any K d mb room used fuse false M w h)
  clear h
  go_enter Try.func26, Try.ntmps26
  go_wp2_with (first
    | (go_at_call 51; refine HR.out.mono ?_; rintro e w' ⟨rfl, rfl⟩)
    | (go_at_call 45; refine HN.out.mono ?_; rintro e w1 ⟨v, rfl, so, b1⟩))
  refine bodyPost_ret (v := .tuple #[v, .int .i64 0]) (by simp [results, Try.results26, go_sem]) rfl ⟨v, rfl, so, b1⟩
theorem fuse_nil : Calls Try.prog 24 #[.pointer none, .int .i64 n] w fun e w' => e = .returned (.int .i64 2) ∧ w' = w := by
  go_enter Try.func24, Try.ntmps24
  go_wp2_with (go_at_call 51; refine (ready_nil _).mono ?_; rintro e w' ⟨rfl, rfl⟩)
  go_ret
  exact ⟨rfl, rfl⟩
theorem fuse_down (h : Dk w K d mb room used fuse true M) : Calls Try.prog 24 #[dP d, .int .i64 n] w fun e w' => e = .returned (.int .i64 5) ∧ w' = w := by
  go_enter Try.func24, Try.ntmps24
  go_wp2_with (go_at_call 51; refine (ready_any K d mb room used fuse true M _ h).mono ?_; rintro e w' ⟨rfl, rfl⟩)
  go_ret
  exact ⟨rfl, rfl⟩
theorem fuse_ok (h : Dk w K d mb room used fuse false M) : Calls Try.prog 24 #[dP d, .int .i64 n] w fun e w' => e = .returned (.int .i64 0) ∧ Dk w' K d mb room used (max n (-1)) false M ∧ Tn (· = d) w w' := by
  have c3 := h.c3
  have f3 := h.fr 3
  have HR := Lib.hid (ready_any K d mb room used fuse false M w h)
  have HD := Lib.hid h
  clear h
  go_enter Try.func24, Try.ntmps24
  go_wp2_with (go_at_call 51; refine HR.out.mono ?_; rintro e w' ⟨rfl, rfl⟩)
  go_ret
  exact ⟨rfl, HD.out.set3 _, Tn.setCell _ _ _ _⟩
theorem crash_nil (A : Option Addr) (m c : Nat) : Calls Try.prog 18 #[.pointer none, .slice A m c] w fun e w' => e = .returned (.int .i64 2) ∧ w' = w := by
  go_enter Try.func18, Try.ntmps18
  go_wp2
  go_ret
  exact ⟨rfl, rfl⟩
end
end Go.Proofs.Ytkkaehaoahpibaa
namespace Go.Proofs.Ytkkaehaoahpibaa
open Go.RowKit Go.Maps Go.BigFrame

def ab (s : Sg) : As := ⟨s.n, s.b, s.l, s.k⟩
theorem Rise.apart {T R : List Sg} {s : Sg} (h : Rise (T ++ s :: R)) : (∀ t ∈ T, t.n < s.n) ∧ (∀ t ∈ R, s.n < t.n) := by
  obtain ⟨_, h2, h3⟩ := List.pairwise_append.1 h
  exact ⟨fun t ht => h3 t ht s (List.mem_cons_self ..), (List.pairwise_cons.1 h2).1⟩
theorem map_keep (T : List Sg) (f : Sg → Sg) (h : ∀ t ∈ T, f t = t) : T.map f = T := by
  induction T with
  | nil => rfl
  | cons x T ih => rw [List.map_cons, h x (List.mem_cons_self ..), ih fun t ht => h t (List.mem_cons_of_mem _ ht)]
theorem upd_at {T R : List Sg} {s s' : Sg} (h : Rise (T ++ s :: R)) (e : s'.n = s.n) : upd (T ++ s :: R) s' = T ++ s' :: R := by
  obtain ⟨h1, h2⟩ := h.apart
  unfold upd
  rw [List.map_append, List.map_cons, if_pos e.symm, map_keep T _ fun t ht => by have := h1 t ht; rw [if_neg (by omega)], map_keep R _ fun t ht => by have := h2 t ht; rw [if_neg (by omega)]]
theorem filter_at {T R : List Sg} {s : Sg} (h : Rise (T ++ s :: R)) : ((T ++ s :: R).filter fun t => !decide (t.n = s.n)) = T ++ R := by
  obtain ⟨h1, h2⟩ := h.apart
  rw [List.filter_append, List.filter_cons, List.filter_eq_self.2 fun t ht => by have := h1 t ht; simp; omega, List.filter_eq_self.2 fun t ht => by have := h2 t ht; simp; omega]
  simp
section
variable {K d mb : Nat} {room used fuse : Int} {down : Bool} {T R : List Sg} {s : Sg} {w : World}
/-- What the tear of the segment behind T leaves. -/
def TearAt (w : World) (K d mb : Nat) (room used fuse : Int) (down : Bool) (T R : List Sg) (s : Sg) (more : Int) (e : Ending) (w' : World) : Prop :=
  e = .returned (.tuple #[]) ∧ ∃ T', T'.map ab = tornA (ab s) more ∧ Dk w' K d mb room (used - ((s.b.length : Int) - (kq (ab s) more : Nat))) fuse down (T ++ T' ++ R) ∧ Tn (blD d mb (T ++ s :: R)) w w' ∧ ∀ k, blD d mb (T ++ T' ++ R) k → blD d mb (T ++ s :: R) k ∨ w.heap.size ≤ k
theorem tear_at (h : Dk w K d mb room used fuse down (T ++ s :: R)) (more : Int) (hlen : s.b.length ≤ 67108864) (hu : (s.b.length : Int) ≤ used) (hu2 : used ≤ 67108864) :
    Calls Try.prog 46 #[dP d, .int .i64 s.n, .int .i64 more] w (TearAt w K d mb room used fuse down T R s more) := by
  have hs : s ∈ T ++ s :: R := by simp
  have hr := h.ri
  have hle := (h.sg s hs).le
  have hmx : max more 0 = ((more.toNat : Nat) : Int) := by omega
  have eS : ∀ s' : Sg, s'.n = s.n → upd (T ++ s :: R) s' = T ++ [s'] ++ R := fun s' e => by rw [upd_at hr e]; simp
  have eF : ((T ++ s :: R).filter fun t => !decide (t.n = s.n)) = T ++ [] ++ R := by rw [filter_at hr]; simp
  by_cases hc : s.l + more.toNat < s.b.length
  · have hkq : kq (ab s) more = s.l + more.toNat := by unfold kq ab; simp only; omega
    have hused : used - ((s.b.length : Int) - ((s.l + more.toNat : Nat) : Int)) = used - ((s.b.length : Int) - s.l - (more.toNat : Nat)) := by omega
    by_cases hk : s.k = true ∨ 0 < s.l + more.toNat
    · refine (tear_cut h hs more more.toNat hmx hc hk hlen hu hu2).mono ?_
      rintro e w' ⟨rfl, v, D, t, B⟩
      rw [eS ⟨s.n, s.g, v, s.b.take (s.l + more.toNat), s.l + more.toNat, true⟩ rfl] at D B
      refine ⟨rfl, [_], ?_, ?_, t, B⟩
      · unfold tornA; rw [hkq]; exact (if_pos hk).symm
      · rw [hkq, hused]; exact D
    · refine (tear_gone h hs more more.toNat hmx hc (by simpa using (not_or.1 hk).1) (by omega) hlen hu hu2).mono ?_
      rintro e w' ⟨rfl, D, t, B⟩
      rw [eF] at D B
      refine ⟨rfl, [], ?_, ?_, t, B⟩
      · unfold tornA; rw [hkq]; exact (if_neg hk).symm
      · rw [hkq, hused]; exact D
  · have hkq : kq (ab s) more = s.b.length := by unfold kq ab; simp only; omega
    have hused : used - ((s.b.length : Int) - (s.b.length : Nat)) = used := by omega
    by_cases hk : s.k = true ∨ 0 < s.b.length
    · refine (tear_keep h hs more (by omega) hk hlen).mono ?_
      rintro e w' ⟨rfl, D, t, B⟩
      rw [eS (settled s) rfl] at D B
      refine ⟨rfl, [_], ?_, ?_, t, B⟩
      · unfold tornA
        rw [hkq]
        refine Eq.trans ?_ (if_pos hk).symm
        show [(⟨s.n, s.b, s.b.length, true⟩ : As)] = [⟨s.n, s.b.take s.b.length, s.b.length, true⟩]
        rw [List.take_length]
      · rw [hkq, hused]; exact D
    · refine (tear_drop h hs more (by simpa using (not_or.1 hk).1) (List.eq_nil_of_length_eq_zero (by omega))).mono ?_
      rintro e w' ⟨rfl, D, t, B⟩
      rw [eF] at D B
      refine ⟨rfl, [], ?_, ?_, t, fun k hk => .inl (B k hk)⟩
      · unfold tornA; rw [hkq]; exact (if_neg hk).symm
      · rw [hkq, hused]; exact D
end
end Go.Proofs.Ytkkaehaoahpibaa
namespace Go.Proofs.Ytkkaehaoahpibaa
open Go.RowKit Go.Maps Go.BigFrame

theorem hasA_iff {M : List Sg} {n : Int} : hasA (M.map ab) n = true ↔ ∃ s ∈ M, s.n = n := by
  unfold hasA
  rw [List.any_map, List.any_eq_true]
  constructor
  · rintro ⟨s, hs, h⟩; exact ⟨s, hs, of_decide_eq_true h⟩
  · rintro ⟨s, hs, h⟩; exact ⟨s, hs, decide_eq_true h⟩
theorem hasA_not {M : List Sg} {n : Int} : hasA (M.map ab) n = false ↔ ∀ s ∈ M, s.n ≠ n := by
  rw [Bool.eq_false_iff, Ne, hasA_iff]
  exact ⟨fun h s hs e => h ⟨s, hs, e⟩, fun h ⟨s, hs, e⟩ => h s hs e⟩
theorem putA_there (p : List UInt8) {s s' : Sg} (e : ab s' = ⟨s.n, s.b ++ p, s.l, s.k⟩) : ∀ {T R : List Sg}, Rise (T ++ s :: R) → (T ++ s' :: R).map ab = putA s.n p ((T ++ s :: R).map ab)
  | [], R, _ => by
    show ab s' :: R.map ab = putA s.n p (ab s :: R.map ab)
    unfold putA
    rw [if_neg (by show ¬ s.n < s.n; omega), if_pos (by rfl), e]
    rfl
  | t :: T, R, h => by
    obtain ⟨h1, h2⟩ := List.pairwise_cons.1 h
    have h3 := h1 s (by simp)
    show ab t :: (T ++ s' :: R).map ab = putA s.n p (ab t :: (T ++ s :: R).map ab)
    unfold putA
    rw [if_neg (by show ¬ s.n < t.n; omega), if_neg (by show ¬ t.n = s.n; omega), putA_there p e h2]
theorem upd_not {M : List Sg} {s' : Sg} (h : ∀ t ∈ M, t.n ≠ s'.n) : upd M s' = M := map_keep M _ fun t ht => if_neg (h t ht)
theorem putA_new {n : Int} (p : List UInt8) {s s' : Sg} (hn : s.n = n) (e : ab s' = ⟨n, p, 0, false⟩) : ∀ {M : List Sg}, (∀ t ∈ M, t.n ≠ n) → (upd (ins s M) s').map ab = putA n p (M.map ab)
  | [], _ => by
    have hn' : s'.n = n := congrArg As.n e
    show [ab (if s.n = s'.n then s' else s)] = [_]
    rw [if_pos (hn.trans hn'.symm), e]
  | x :: r, h => by
    have hn' : s'.n = n := congrArg As.n e
    have hx := h x (List.mem_cons_self ..)
    have hr : ∀ t ∈ r, t.n ≠ n := fun t ht => h t (List.mem_cons_of_mem _ ht)
    unfold ins
    by_cases hlt : s.n < x.n
    · rw [if_pos hlt]
      show ab (if s.n = s'.n then s' else s) :: (upd (x :: r) s').map ab = putA n p (ab x :: r.map ab)
      rw [if_pos (hn.trans hn'.symm), upd_not (by rw [hn']; exact h), e]
      unfold putA
      rw [if_pos (by rw [← hn]; exact hlt)]
      rfl
    · rw [if_neg hlt]
      show ab (if x.n = s'.n then s' else x) :: (upd (ins s r) s').map ab = putA n p (ab x :: r.map ab)
      rw [if_neg (by rw [hn']; exact hx), putA_new p hn e hr]
      conv => rhs; unfold putA
      rw [if_neg (by show ¬ n < x.n; omega)]
      exact (if_neg hx).symm
theorem sync_upd {M : List Sg} (h : Rise M) {s : Sg} (hs : s ∈ M) : (upd M (settled s)).map ab = syncA s.n (M.map ab) := by
  unfold upd syncA
  rw [List.map_map, List.map_map]
  refine List.map_congr_left fun t ht => ?_
  show ab (if t.n = s.n then settled s else t) = if t.n = s.n then ⟨t.n, t.b, t.b.length, true⟩ else ab t
  by_cases e : t.n = s.n
  · rw [if_pos e, if_pos e, h.inj ht hs e]; rfl
  · rw [if_neg e, if_neg e]
theorem drop_filter (M : List Sg) (n : Int) : (M.filter fun t => !decide (t.n = n)).map ab = dropA n (M.map ab) := by
  unfold dropA
  rw [List.filter_map]
  rfl
theorem sum_split (T R : List Sg) (s : Sg) : sumA ((T ++ s :: R).map ab) = sumA ((T ++ R).map ab) + s.b.length := by
  rw [List.map_append, List.map_append, sumA_append, sumA_append, List.map_cons]
  show _ + (s.b.length + _) = _
  omega
/-- A disk at block d; its blocks are among B. -/
structure DD (w : World) (B : Nat → Prop) (d : Nat) (a : Ad) : Prop where
  ex : ∃ K mb M, Dk w K d mb a.room (sumA a.L : Nat) a.fuse a.down M ∧ M.map ab = a.L ∧ ∀ k, blD d mb M k → B k
  bt : ∀ k, B k → k < w.heap.size
  le : ((sumA a.L : Nat) : Int) ≤ a.room
  rm : a.room ≤ 67108864
  ln : a.L.length ≤ 1024
  f1 : -1 ≤ a.fuse
  f2 : a.fuse ≤ 9223372036854775807
def Dn (w : World) (B : Nat → Prop) (d : Nat) (r : Int) (a : Ad) (e : Ending) (w' : World) : Prop :=
  e = .returned (.int .i64 r) ∧ ∃ B', DD w' B' d a ∧ Tn B w w' ∧ ∀ k, B' k → B k ∨ w.heap.size ≤ k
section
variable {P B : Nat → Prop} {w w' : World} {d : Nat} {a a' : Ad} {n r : Int} {A : Option Addr} {m c K' : Nat} {p : List UInt8}
theorem DD.tn (h : DD w B d a) (t : Tn P w w') (hP : ∀ k, B k → ¬ P k) : DD w' B d a := by
  obtain ⟨K, mb, M, D, e, hb⟩ := h.ex
  exact ⟨⟨K, mb, M, D.tn t fun k hk => hP k (hb k hk), e, hb⟩, fun k hk => Nat.lt_of_lt_of_le (h.bt k hk) t.size, h.le, h.rm, h.ln, h.f1, h.f2⟩
theorem DD.below (h : DD w B d a) (hb : Below w.heap.size w w') : DD w' B d a := h.tn (Tn.ofNew (P := fun _ => False) hb) fun _ _ h => h
theorem DD.alloc (h : DD w B d a) (o : Obj) : DD (w.alloc o) B d a := h.below ((Below.refl _ _).alloc (Nat.le_refl _) _)
theorem DD.same (h : DD w B d a) (r : Int) : Dn w B d r a (.returned (.int .i64 r)) w := ⟨rfl, B, h, Tn.refl _ _, fun _ h => .inl h⟩
theorem DD.grew (h : DD w B d a) (r : Int) (hb : Below w.heap.size w w') : Dn w B d r a (.returned (.int .i64 r)) w' := ⟨rfl, B, h.below hb, Tn.ofNew hb, fun _ h => .inl h⟩
/-- A new state of the disk. -/
theorem DD.turned {K mb : Nat} {M M' : List Sg} (hb : ∀ k, blD d mb M k → B k) (D : Dk w' K d mb a'.room (sumA a'.L : Nat) a'.fuse a'.down M') (e : M'.map ab = a'.L) (t : Tn (blD d mb M) w w') (hB : ∀ k, blD d mb M' k → blD d mb M k ∨ w.heap.size ≤ k)
    (le : ((sumA a'.L : Nat) : Int) ≤ a'.room) (rm : a'.room ≤ 67108864) (ln : a'.L.length ≤ 1024) (f1 : -1 ≤ a'.fuse) (f2 : a'.fuse ≤ 9223372036854775807) (r : Int) : Dn w B d r a' (.returned (.int .i64 r)) w' :=
  ⟨rfl, blD d mb M', ⟨⟨K, mb, M', D, e, fun _ h => h⟩, fun _ hk => (D.top hk).2, le, rm, ln, f1, f2⟩, t.mono fun k _ hk => hb k hk, fun k hk => (hB k hk).imp (hb k) id⟩
theorem app_DD (h : DD w B d a) (hn2 : n ≤ 9223372036854775807) (hb : Bs w K' A c p) (hm : p.length = m) (hp : 0 < p.length → ∀ ad : Addr, A = some ad → ¬ B ad.block) (hr : appD a n p = (r, a')) :
    Calls Try.prog 19 #[dP d, .int .i64 n, .slice A m c] w (Dn w B d r a') := by
  obtain ⟨K, mb, M, D, e, hB⟩ := h.ex
  obtain ⟨room, fuse, down, L⟩ := a
  simp only at D e
  have h1 := h.le
  have h2 := h.rm
  have h3 := h.ln
  have h4 := h.f1
  have h5 := h.f2
  simp only at h1 h2 h3 h4 h5
  have hML : M.length = L.length := by rw [← e]; simp
  obtain ⟨g1, g2⟩ := fz_bd h4 h5
  unfold appD at hr
  simp only at hr
  cases down with
  | true =>
    rw [if_pos rfl] at hr
    cases hr
    refine (dapp_down D).mono ?_
    rintro e w' ⟨rfl, rfl⟩
    exact h.same 5
  | false =>
    rw [if_neg (by simp)] at hr
    by_cases c1 : n < 1
    · rw [if_pos c1] at hr
      cases hr
      refine (dapp_arg D c1).mono ?_
      rintro e w' ⟨rfl, rfl⟩
      exact h.same 1
    rw [if_neg c1] at hr
    by_cases c2 : room - (sumA L : Nat) < (p.length : Nat)
    · rw [if_pos c2] at hr
      cases hr
      refine (dapp_big D (by omega) (by omega) h1 h2 (by omega)).mono ?_
      rintro e w' ⟨rfl, hbl⟩
      exact h.grew 4 hbl
    rw [if_neg c2] at hr
    by_cases c3 : hasA L n = false ∧ 1024 ≤ L.length
    · rw [if_pos c3] at hr
      cases hr
      obtain ⟨c3, c4⟩ := c3
      rw [← e, hasA_not] at c3
      refine (dapp_many D (by omega) hn2 (by omega) h1 h2 (by omega) c3 (by omega) (by omega)).mono ?_
      rintro e w' ⟨rfl, hbl⟩
      exact h.grew 4 hbl
    rw [if_neg c3] at hr
    have hfit : fits M n := by
      cases hh : hasA L n with
      | true => rw [← e, hasA_iff] at hh; exact .inl hh
      | false =>
        have : ¬ 1024 ≤ L.length := fun h => c3 ⟨hh, h⟩
        rw [← e, hasA_not] at hh
        exact .inr ⟨hh, by omega⟩
    by_cases c4 : fuse = 0
    · rw [if_pos c4] at hr
      cases hr
      subst c4
      refine (dapp_dead D (by omega) hn2 (by omega) h1 h2 (by omega) hfit).mono ?_
      rintro e' w' ⟨rfl, D', t⟩
      exact DD.turned (a' := ⟨room, 0, true, L⟩) hB D' e (t.mono fun k _ e => .inl e) (fun _ h => .inl h) h1 h2 h3 (by simp only; omega) (by simp only; omega) 5
    rw [if_neg c4] at hr
    cases hr
    have hsum := sum_put n p L
    rcases hfit with ⟨s, hs, hsn⟩ | ⟨hno, hlt⟩
    · subst hsn
      obtain ⟨T, R, eM⟩ := List.append_of_mem hs
      have hslen : s.b.length ≤ sumA L := by rw [← e, eM, sum_split]; omega
      refine (dapp_there D hs (by omega) h1 h2 c4 h5 hb hm (by omega) (fun hl ad ea eb => hp hl ad ea (hB _ (.inl eb))) (by omega)).mono ?_
      rintro e' w' ⟨rfl, v, D', t, hB'⟩
      have hmap : (upd M ⟨s.n, s.g, v, s.b ++ p, s.l, s.k⟩).map ab = putA s.n p L := by
        have hr := D.ri
        rw [← e, eM] at *
        rw [upd_at hr (by rfl)]
        exact putA_there p rfl hr
      refine DD.turned (K := K) (a' := ⟨room, fz fuse, false, putA s.n p L⟩) hB ?_ hmap t hB' (by simp only; omega) h2 (by simp only; rw [← hmap]; simp [upd]; omega) g1 g2 0
      simp only
      rw [hsum, hm]
      exact_mod_cast D'
    · refine (dapp_new D (by omega) hn2 hno hlt (by omega) h1 h2 c4 h5 hb hm (by omega) (fun hl ad ea => ⟨fun eb => hp hl ad ea (hB _ (.inl eb)), fun eb => hp hl ad ea (hB _ (.inr (.inl eb)))⟩)).mono ?_
      rintro e' w' ⟨rfl, g, v, D', t, hB'⟩
      have hmap : (upd (ins (newSg n g) M) ⟨n, g, v, p, 0, false⟩).map ab = putA n p L := by rw [← e]; exact putA_new p rfl rfl hno
      have hlen := len_put n p L
      refine DD.turned (K := K) (a' := ⟨room, fz fuse, false, putA n p L⟩) hB ?_ hmap t hB' (by simp only; omega) h2 (by simp only; omega) g1 g2 0
      simp only
      rw [hsum, hm]
      exact_mod_cast D'
/-- Sync. -/
theorem sync_DD (h : DD w B d a) (hn1 : -9223372036854775808 ≤ n) (hn2 : n ≤ 9223372036854775807) (hr : opD syncA a n = (r, a')) :
    Calls Try.prog 21 #[dP d, .int .i64 n] w (Dn w B d r a') := by
  obtain ⟨K, mb, M, D, e, hB⟩ := h.ex
  obtain ⟨room, fuse, down, L⟩ := a
  simp only at D e
  have h1 := h.le
  have h2 := h.rm
  have h3 := h.ln
  have h4 := h.f1
  have h5 := h.f2
  simp only at h1 h2 h3 h4 h5
  obtain ⟨g1, g2⟩ := fz_bd h4 h5
  unfold opD at hr
  simp only at hr
  cases down with
  | true =>
    rw [if_pos rfl] at hr
    cases hr
    refine (sync_err (dP d) 5 (by decide) (dlook_down _ _ _ _ _ _ _ _ D n)).mono ?_
    rintro e w' ⟨rfl, rfl⟩
    exact h.same 5
  | false =>
    rw [if_neg (by simp)] at hr
    cases hh : hasA L n with
    | false =>
      rw [if_pos hh] at hr
      cases hr
      rw [← e, hasA_not] at hh
      refine (sync_err (dP d) 6 (by decide) (dlook_none _ _ _ _ _ _ _ _ D hn1 hn2 hh)).mono ?_
      rintro e w' ⟨rfl, rfl⟩
      exact h.same 6
    | true =>
      rw [if_neg (by simp [hh])] at hr
      rw [← e, hasA_iff] at hh
      obtain ⟨s, hs, rfl⟩ := hh
      by_cases c4 : fuse = 0
      · rw [if_pos c4] at hr
        cases hr
        subst c4
        refine (sync_dead D hs).mono ?_
        rintro e' w' ⟨rfl, D', t⟩
        exact DD.turned (a' := ⟨room, 0, true, L⟩) hB D' e (t.mono fun k _ e => .inl e) (fun _ h => .inl h) h1 h2 h3 (by simp only; omega) (by simp only; omega) 5
      · rw [if_neg c4] at hr
        cases hr
        refine (sync_ok D hs c4 h5).mono ?_
        rintro e' w' ⟨rfl, D', t, hB'⟩
        have hmap : (upd M (settled s)).map ab = syncA s.n L := by rw [← e]; exact sync_upd D.ri hs
        have hsum := sum_sync s.n L
        refine DD.turned (K := K) (a' := ⟨room, fz fuse, false, syncA s.n L⟩) hB ?_ hmap t hB' (by simp only; omega) h2 (by simp only; rw [← hmap]; simp [upd]; rw [← e] at h3; simpa using h3) g1 g2 0
        simp only
        rw [hsum]
        exact D'
/-- Drop. -/
theorem drop_DD (h : DD w B d a) (hn1 : -9223372036854775808 ≤ n) (hn2 : n ≤ 9223372036854775807) (hr : opD dropA a n = (r, a')) :
    Calls Try.prog 22 #[dP d, .int .i64 n] w (Dn w B d r a') := by
  obtain ⟨K, mb, M, D, e, hB⟩ := h.ex
  obtain ⟨room, fuse, down, L⟩ := a
  simp only at D e
  have h1 := h.le
  have h2 := h.rm
  have h3 := h.ln
  have h4 := h.f1
  have h5 := h.f2
  simp only at h1 h2 h3 h4 h5
  obtain ⟨g1, g2⟩ := fz_bd h4 h5
  unfold opD at hr
  simp only at hr
  cases down with
  | true =>
    rw [if_pos rfl] at hr
    cases hr
    refine (drop_err (dP d) 5 (by decide) (dlook_down _ _ _ _ _ _ _ _ D n)).mono ?_
    rintro e w' ⟨rfl, rfl⟩
    exact h.same 5
  | false =>
    rw [if_neg (by simp)] at hr
    cases hh : hasA L n with
    | false =>
      rw [if_pos hh] at hr
      cases hr
      rw [← e, hasA_not] at hh
      refine (drop_err (dP d) 6 (by decide) (dlook_none _ _ _ _ _ _ _ _ D hn1 hn2 hh)).mono ?_
      rintro e w' ⟨rfl, rfl⟩
      exact h.same 6
    | true =>
      rw [if_neg (by simp [hh])] at hr
      rw [← e, hasA_iff] at hh
      obtain ⟨s, hs, rfl⟩ := hh
      by_cases c4 : fuse = 0
      · rw [if_pos c4] at hr
        cases hr
        subst c4
        refine (drop_dead D hs).mono ?_
        rintro e' w' ⟨rfl, D', t⟩
        exact DD.turned (a' := ⟨room, 0, true, L⟩) hB D' e (t.mono fun k _ e => .inl e) (fun _ h => .inl h) h1 h2 h3 (by simp only; omega) (by simp only; omega) 5
      · rw [if_neg c4] at hr
        cases hr
        obtain ⟨T, R, eM⟩ := List.append_of_mem hs
        have hri := D.ri
        have hsum : sumA L = sumA (dropA s.n L) + s.b.length := by
          rw [← e, ← drop_filter]
          rw [eM] at hri ⊢
          rw [filter_at hri, sum_split]
        refine (drop_ok D hs c4 h5 (by omega) (by omega)).mono ?_
        rintro e' w' ⟨rfl, D', t, hB'⟩
        have hmap : (M.filter fun t => !decide (t.n = s.n)).map ab = dropA s.n L := by rw [← e]; exact drop_filter M s.n
        have hlen := len_drop s.n L
        refine DD.turned (K := K) (a' := ⟨room, fz fuse, false, dropA s.n L⟩) hB ?_ hmap t (fun k hk => .inl (hB' k hk)) (by simp only; omega) h2 (by simp only; omega) g1 g2 0
        simp only
        have : ((sumA L : Nat) : Int) - (s.b.length : Nat) = ((sumA (dropA s.n L) : Nat) : Int) := by omega
        rw [← this]
        exact D'
theorem fuse_DD (h : DD w B d a) (hn2 : n ≤ 9223372036854775807) (hr : fuseD a n = (r, a')) :
    Calls Try.prog 24 #[dP d, .int .i64 n] w (Dn w B d r a') := by
  obtain ⟨K, mb, M, D, e, hB⟩ := h.ex
  obtain ⟨room, fuse, down, L⟩ := a
  simp only at D e
  unfold fuseD at hr
  simp only at hr
  cases down with
  | true =>
    rw [if_pos rfl] at hr
    cases hr
    refine (fuse_down D).mono ?_
    rintro e w' ⟨rfl, rfl⟩
    exact h.same 5
  | false =>
    rw [if_neg (by simp)] at hr
    cases hr
    refine (fuse_ok D).mono ?_
    rintro e' w' ⟨rfl, D', t⟩
    exact DD.turned (a' := ⟨room, max n (-1), false, L⟩) hB D' e (t.mono fun k _ e => .inl e) (fun _ h => .inl h) h.le h.rm h.ln (by simp only; omega) (by simp only; omega) 0
theorem new_DD (x : Int) (h1 : 0 ≤ x) (h2 : x ≤ 67108864) (w : World) : Calls Try.prog 5 #[.int .i64 x] w fun e w' => e = .returned (.tuple #[dP (w.heap.size + 1), .int .i64 0]) ∧ (∃ B, DD w' B (w.heap.size + 1) ⟨x, -1, false, []⟩ ∧ ∀ k, B k → w.heap.size ≤ k) ∧ Below w.heap.size w w' := by
  refine (dnew_ok x h1 h2 w).mono ?_
  rintro e w' ⟨rfl, D, hb⟩
  refine ⟨rfl, ⟨blD (w.heap.size + 1) w.heap.size [], ⟨⟨_, _, [], D, rfl, fun _ h => h⟩, fun k hk => (D.top hk).2, by simpa [sumA] using h1, h2, by simp, by simp, by simp⟩, fun k hk => ?_⟩, hb⟩
  rcases hk with e | e | ⟨s, hs, _⟩
  · omega
  · omega
  · cases hs
theorem down_DD (h : DD w B d a) : Calls Try.prog 34 #[dP d] w fun e w' => e = .returned (.bool a.down) ∧ w' = w := by
  obtain ⟨K, mb, M, D, _, _⟩ := h.ex
  exact down_any D
theorem used_DD (h : DD w B d a) : Calls Try.prog 35 #[dP d] w fun e w' => e = .returned (.int .i64 (sumA a.L : Nat)) ∧ w' = w := by
  obtain ⟨K, mb, M, D, _, _⟩ := h.ex
  exact used_any D
theorem read_DD (h : DD w B d a) (hd : a.down = false) {x : As} (hx : x ∈ a.L) : Calls Try.prog 37 #[dP d, .int .i64 x.n] w fun e w' => ∃ A c, e = .returned (.tuple #[.slice A x.b.length c, .int .i64 0]) ∧ Ob w' w.heap.size (.slice A x.b.length c) x.b ∧ Below w.heap.size w w' := by
  obtain ⟨K, mb, M, D, e, hB⟩ := h.ex
  rw [hd] at D
  rw [← e] at hx
  obtain ⟨s, hs, rfl⟩ := List.mem_map.1 hx
  obtain ⟨T, R, eM⟩ := List.append_of_mem hs
  have hslen : s.b.length ≤ sumA a.L := by rw [← e, eM, sum_split]; omega
  have h1 := h.le
  have h2 := h.rm
  exact read_ok D hs (by omega)
theorem read_DDn (h : DD w B d a) (hn1 : -9223372036854775808 ≤ n) (hn2 : n ≤ 9223372036854775807) {v : Int} (hv : (a.down = true ∧ v = 5) ∨ (a.down = false ∧ hasA a.L n = false ∧ v = 6)) : Calls Try.prog 37 #[dP d, .int .i64 n] w fun e w' => e = .returned (.tuple #[.slice none 0 0, .int .i64 v]) ∧ w' = w := by
  obtain ⟨K, mb, M, D, e, hB⟩ := h.ex
  rcases hv with ⟨hd, rfl⟩ | ⟨hd, hh, rfl⟩
  · rw [hd] at D
    exact read_err (dP d) 5 (by decide) (dlook_down _ _ _ _ _ _ _ _ D n)
  · rw [hd] at D
    rw [← e, hasA_not] at hh
    exact read_err (dP d) 6 (by decide) (dlook_none _ _ _ _ _ _ _ _ D hn1 hn2 hh)
end
end Go.Proofs.Ytkkaehaoahpibaa
namespace Go.Proofs.Ytkkaehaoahpibaa
open Go.RowKit

theorem sum_mem {x : As} {L : List As} (h : x ∈ L) : x.b.length ≤ sumA L := by
  obtain ⟨T, R, rfl⟩ := List.append_of_mem h
  rw [sumA_append]
  simp only [sumA]
  omega
theorem so_addr {w : World} {K n cap : Nat} {T : TypeId} {A : Option Addr} {l : List Int} (h : So encI 1 w K T (.slice A n cap) l) (hl : 0 < l.length) : ∃ g, A = some ⟨g, 0, none⟩ := by
  rcases h.2 with ⟨_, h0⟩ | ⟨g, cap', cur, he, _⟩
  · omega
  · injection he with h1 _ _
    exact ⟨g, h1⟩
theorem so_slot {w : World} {K n cap h i : Nat} {T : TypeId} {l : List Int} {x : Int} (so : So encI 1 w K T (.slice (some ⟨h, 0, none⟩) n cap) l) (hi : l[i]? = some x) : w.cell? ⟨h, i, none⟩ = some (.int .i64 x) := by
  have h1 := World.ownsRow.cells (g := h) so rfl _ _ (flatMap_get encI_len l i x hi 0 (.int .i64 x) rfl)
  have e : (⟨h, 0, none⟩ : Addr).add (i * 1 + 0) = ⟨h, i, none⟩ := by unfold Addr.add; split <;> simp_all
  rwa [e] at h1
section
variable {w wx : World} {B : Nat → Prop} {d : Nat} {a : Ad} {room fuse : Int} {L : List As}
theorem segs_DD (h : DD wx B d a) (hd : a.down = false) : Calls Try.prog 26 #[dP d] wx fun e w' => ∃ v, e = .returned (.tuple #[v, .int .i64 0]) ∧ So encI 1 w' wx.heap.size 3 v (a.L.map As.n) ∧ Below wx.heap.size wx w' := by
  obtain ⟨K, mb, M, D, e, _⟩ := h.ex
  have hl : M.length ≤ 1024 := by have := h.ln; rw [← e, List.length_map] at this; exact this
  rw [hd] at D
  have e2 : M.map Sg.n = a.L.map As.n := by rw [← e, List.map_map]; rfl
  rw [← e2]
  exact segs_ok D hl
theorem segs_DDn (h : DD wx B d ⟨room, fuse, true, L⟩) : Calls Try.prog 26 #[dP d] wx fun e w' => e = .returned (.tuple #[.slice none 0 0, .int .i64 5]) ∧ w' = wx := by
  obtain ⟨K, mb, M, D, e, _⟩ := h.ex
  exact segs_down D
theorem own_block {k : Nat} {ad : Addr} {K n c : Nat} {l : List UInt8} {A9 : Option Addr} (ho : Ob wx K (.slice A9 n c) l) (hl : 0 < l.length) (e : A9 = some ad) (ek : ad.block = k) : K ≤ k ∧ (Value.slice A9 n c).ownBlock = some k := by
  have hn := ho.bs.2
  obtain ⟨g', e', h1, h2⟩ := ho.addr (by omega)
  rw [e'] at e
  cases e
  subst ek
  refine ⟨h1, ?_⟩
  rw [e']
  rfl
end
end Go.Proofs.Ytkkaehaoahpibaa
