/- A disk's tear, where bytes are lost: its walk. -/
import Derived.Test.YtpckbbjlihhpdaaDk7
namespace Go.Proofs.Ytpckbbjlihhpdaa
open Go.RowKit Go.Maps Go.BigFrame

section
variable {K d mb : Nat} {room used fuse : Int} {down : Bool} {M : List Sg} {w : World} {n : Int}
set_option maxRecDepth 100000 in
set_option maxHeartbeats 6400000 in
theorem tear_cut (h : Dk w K d mb room used fuse down M) {s : Sg} (hs : s ∈ M) (more : Int) (q : Nat) (hq : max more 0 = (q : Int)) (hlt : s.l + q < s.b.length) (hk : s.k = true ∨ 0 < s.l + q) (hlen : s.b.length ≤ 67108864) (hu : (s.b.length : Int) ≤ used) (hu2 : used ≤ 67108864) :
    Calls Try.prog 54 #[dP d, .int .i64 s.n, .int .i64 more] w fun e w' => e = .returned (.tuple #[]) ∧ ∃ v, Dk w' K d mb room (used - ((s.b.length : Int) - s.l - q)) fuse down (upd M ⟨s.n, s.g, v, s.b.take (s.l + q), s.l + q, true⟩) ∧ Tn (blD d mb M) w w' ∧ ∀ k, blD d mb (upd M ⟨s.n, s.g, v, s.b.take (s.l + q), s.l + q, true⟩) k → blD d mb M k ∨ w.heap.size ≤ k := by
  obtain ⟨sA, sc, hsv⟩ := h.formS hs
  have c2 := h.c2
  have hl := h.look hs
  have k0 := (h.sg s hs).c0
  have k1 := (h.sg s hs).c1
  have k2 := (h.sg s hs).c2
  have ob := (h.sg s hs).ob
  rw [hsv] at k0 ob
  have HB := Lib.hid ob.bs.1
  have hcap := ob.bs.1.le
  have hcm := ob.bs.1.max
  unfold maxLen at hcm
  have HD := Lib.hid h
  have hmin : min (q : Int) ((s.b.length : Int) - s.l) = (q : Int) := by omega
  have hd : decide ((q : Int) < (s.b.length : Int) - s.l) = true := by simp; omega
  have hd0 : (q : Int) < (s.b.length : Int) - s.l := by omega
  have hw1 : IntKind.i64.wrap ((s.b.length : Int) - ((s.b.length : Int) - s.l - q)) = (s.l : Int) + q := by rw [wrap_in (by omega) (by omega)]; omega
  have c1 := HD.out.c1
  have df := HD.out.fr 1
  have gf := (HD.out.sg s hs).fr 0
  have hgl := (HD.out.sg s hs).lt
  have hdl := HD.out.lt
  have hne : d ≠ s.g := fun e => (HD.out.of_ s hs s.g (.inl rfl)).1 e.symm
  have hne2 : s.g ≠ d := fun e => hne e.symm
  have h01 : (0 : Int) ≤ (s.l : Int) + q := by omega
  have h02 : (s.l : Int) + q ≤ (sc : Int) := by omega
  have h03 : ((s.l : Int) + (q : Int)).toNat = s.l + q := by omega
  have hw5 : IntKind.i64.wrap (used - ((s.b.length : Int) - s.l - q)) = used - ((s.b.length : Int) - s.l - q) := wrap_in (by omega) (by omega)
  obtain ⟨bt, hbt⟩ : ∃ bt, bt = s.b.take (s.l + q) := ⟨_, rfl⟩
  have hbl : bt.length = s.l + q := by rw [hbt]; simp; omega
  have HB2 := Lib.hid (HB.out.to (j := s.l + q) (by omega))
  rw [← hbt] at HB2
  have HBT := Lib.hid hbt
  clear h ob hbt
  cases hkk : s.k
  · have hp : 0 < s.l + q := by
      rcases hk with e | e
      · rw [hkk] at e; cases e
      · exact e
    have h0 : ((s.l : Int) + q == (0 : Int)) = false := by rw [beq_eq_false_iff_ne]; omega
    rw [hkk] at k2
    have HKK := Lib.hid hkk
    clear hk hkk
    go_enter Try.func54, Try.ntmps54
    go_wp2_with fail
    go_big_quiet (fail)
    clear hl
    go_wp2_with fail
    go_region_law (first
      | (go_simp; go_at_call 55; go_loud (refine (clone_any w.heap.size sA (s.l + q) sc bt _ hbl (HB2.out.drewN _) (Nat.le_refl _) (by omega)).mono ?_; rintro e w2 ⟨A2, cc, rfl, ob2, b2⟩; rw [hbl] at ob2; have y0 := kept b2 k0; have y1 := kept b2 k1; have y2 := kept b2 k2; have yf := (b2.frozen (p := ⟨s.g, 0, none⟩) hgl).trans gf; have e1 := kept b2 c1; have ef := (b2.frozen (p := ⟨d, 1, none⟩) hdl).trans df)))
    all_goals
      obtain ⟨D1, T1, B1⟩ := (HD.out.drewN _).cutS hs (j := s.l + q) (by omega) (by omega) rfl b2 (by rw [← HBT.out]; exact ob2)
      have D2 := D1.set1 (used - ((s.b.length : Int) - s.l - q))
      have hin : (⟨s.n, s.g, .slice A2 (s.l + q) cc, s.b.take (s.l + q), s.l, s.k⟩ : Sg) ∈ upd M ⟨s.n, s.g, .slice A2 (s.l + q) cc, s.b.take (s.l + q), s.l, s.k⟩ := mem_upd_self hs rfl
      have HD2 := Lib.hid D2
      have HT1 := Lib.hid T1
      have HB1 := Lib.hid B1
      have HIN := Lib.hid hin
      have x0 := (D2.sg _ hin).c0
      have x1 := (D2.sg _ hin).c1
      have x2 := (D2.sg _ hin).c2
      simp only at x0 x1 x2
      rw [HKK.out] at x2
      clear D1 D2 T1 B1 hin
      go_wp2_with fail
      refine (settle_any s.g A2 (s.l + q) cc _ x0 (fun o => (HD2.out.sg _ HIN.out).fr o) _ _ x1 x2).mono ?_
      rintro e w3 ⟨rfl, rfl⟩
      go_wp2
      go_end0
      obtain ⟨D3, T3, B3⟩ := HD2.out.settleS HIN.out (N := s.l + q) (by simp; omega)
      have hl3 : (s.b.take (s.l + q)).length = s.l + q := by simp; omega
      have e4 : upd (upd M ⟨s.n, s.g, .slice A2 (s.l + q) cc, s.b.take (s.l + q), s.l, s.k⟩) (settled ⟨s.n, s.g, .slice A2 (s.l + q) cc, s.b.take (s.l + q), s.l, s.k⟩) = upd M ⟨s.n, s.g, .slice A2 (s.l + q) cc, s.b.take (s.l + q), s.l + q, true⟩ := by
        rw [upd_upd _ (by rfl)]
        show upd M ⟨s.n, s.g, .slice A2 (s.l + q) cc, s.b.take (s.l + q), (s.b.take (s.l + q)).length, true⟩ = _
        rw [hl3]
      rw [e4] at D3 B3
      have hz : w.heap.size ≤ (w2.setCell ⟨s.g, 0, none⟩ (.slice A2 (s.l + q) cc)).heap.size := HT1.out.size
      refine ⟨rfl, _, D3, (((Tn.ofNew (P := blD d mb M) (below_drewN _ _ _)).thenQ HT1.out (fun _ _ e => .inr (.inr ⟨s, hs, e⟩))).thenQ (Tn.setCell _ d 1 _) (fun _ _ e => .inl e)).thenQ T3 (fun k hk e => ?_), fun k hk => ?_⟩
      · rcases e with e | e
        · exact .inr (.inr ⟨s, hs, .inl e⟩)
        · have h8 : w.heap.size ≤ k := (ob2.lt k e).1
          have h9 : k < w.heap.size := hk
          omega
      · rcases B3 k hk with e | e
        · exact HB1.out k e
        · exact .inr (Nat.le_trans hz (by simpa [World.setCell] using e))
  · rw [hkk] at k2
    have HKK := Lib.hid hkk
    clear hk hkk
    go_enter Try.func54, Try.ntmps54
    go_wp2_with fail
    go_big_quiet (fail)
    clear hl
    go_wp2_with fail
    go_region_law (first
      | (go_simp; go_at_call 55; go_loud (refine (clone_any w.heap.size sA (s.l + q) sc bt _ hbl (HB2.out.drewN _) (Nat.le_refl _) (by omega)).mono ?_; rintro e w2 ⟨A2, cc, rfl, ob2, b2⟩; rw [hbl] at ob2; have y0 := kept b2 k0; have y1 := kept b2 k1; have y2 := kept b2 k2; have yf := (b2.frozen (p := ⟨s.g, 0, none⟩) hgl).trans gf; have e1 := kept b2 c1; have ef := (b2.frozen (p := ⟨d, 1, none⟩) hdl).trans df)))
    all_goals
      obtain ⟨D1, T1, B1⟩ := (HD.out.drewN _).cutS hs (j := s.l + q) (by omega) (by omega) rfl b2 (by rw [← HBT.out]; exact ob2)
      have D2 := D1.set1 (used - ((s.b.length : Int) - s.l - q))
      have hin : (⟨s.n, s.g, .slice A2 (s.l + q) cc, s.b.take (s.l + q), s.l, s.k⟩ : Sg) ∈ upd M ⟨s.n, s.g, .slice A2 (s.l + q) cc, s.b.take (s.l + q), s.l, s.k⟩ := mem_upd_self hs rfl
      have HD2 := Lib.hid D2
      have HT1 := Lib.hid T1
      have HB1 := Lib.hid B1
      have HIN := Lib.hid hin
      have x0 := (D2.sg _ hin).c0
      have x1 := (D2.sg _ hin).c1
      have x2 := (D2.sg _ hin).c2
      simp only at x0 x1 x2
      rw [HKK.out] at x2
      clear D1 D2 T1 B1 hin
      go_wp2_with fail
      refine (settle_any s.g A2 (s.l + q) cc _ x0 (fun o => (HD2.out.sg _ HIN.out).fr o) _ _ x1 x2).mono ?_
      rintro e w3 ⟨rfl, rfl⟩
      go_wp2
      go_end0
      obtain ⟨D3, T3, B3⟩ := HD2.out.settleS HIN.out (N := s.l + q) (by simp; omega)
      have hl3 : (s.b.take (s.l + q)).length = s.l + q := by simp; omega
      have e4 : upd (upd M ⟨s.n, s.g, .slice A2 (s.l + q) cc, s.b.take (s.l + q), s.l, s.k⟩) (settled ⟨s.n, s.g, .slice A2 (s.l + q) cc, s.b.take (s.l + q), s.l, s.k⟩) = upd M ⟨s.n, s.g, .slice A2 (s.l + q) cc, s.b.take (s.l + q), s.l + q, true⟩ := by
        rw [upd_upd _ (by rfl)]
        show upd M ⟨s.n, s.g, .slice A2 (s.l + q) cc, s.b.take (s.l + q), (s.b.take (s.l + q)).length, true⟩ = _
        rw [hl3]
      rw [e4] at D3 B3
      have hz : w.heap.size ≤ (w2.setCell ⟨s.g, 0, none⟩ (.slice A2 (s.l + q) cc)).heap.size := HT1.out.size
      refine ⟨rfl, _, D3, (((Tn.ofNew (P := blD d mb M) (below_drewN _ _ _)).thenQ HT1.out (fun _ _ e => .inr (.inr ⟨s, hs, e⟩))).thenQ (Tn.setCell _ d 1 _) (fun _ _ e => .inl e)).thenQ T3 (fun k hk e => ?_), fun k hk => ?_⟩
      · rcases e with e | e
        · exact .inr (.inr ⟨s, hs, .inl e⟩)
        · have h8 : w.heap.size ≤ k := (ob2.lt k e).1
          have h9 : k < w.heap.size := hk
          omega
      · rcases B3 k hk with e | e
        · exact HB1.out k e
        · exact .inr (Nat.le_trans hz (by simpa [World.setCell] using e))
end
end Go.Proofs.Ytpckbbjlihhpdaa
