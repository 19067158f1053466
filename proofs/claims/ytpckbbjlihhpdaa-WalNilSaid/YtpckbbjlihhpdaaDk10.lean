/- A disk's tear, where all bytes are lost, and the segment. -/
import Derived.Test.YtpckbbjlihhpdaaDk8
namespace Go.Proofs.Ytpckbbjlihhpdaa
open Go.RowKit Go.Maps Go.BigFrame

section
variable {K d mb : Nat} {room used fuse : Int} {down : Bool} {M : List Sg} {w : World} {n : Int}
set_option maxRecDepth 100000 in
set_option maxHeartbeats 6400000 in
theorem tear_gone (h : Dk w K d mb room used fuse down M) {s : Sg} (hs : s ∈ M) (more : Int) (q : Nat) (hq : max more 0 = (q : Int)) (hlt : s.l + q < s.b.length) (hk : s.k = false) (hz0 : s.l + q = 0) (hlen : s.b.length ≤ 67108864) (hu : (s.b.length : Int) ≤ used) (hu2 : used ≤ 67108864) :
    Calls Try.prog 54 #[dP d, .int .i64 s.n, .int .i64 more] w fun e w' => e = .returned (.tuple #[]) ∧ Dk w' K d mb room (used - ((s.b.length : Int) - s.l - q)) fuse down (M.filter fun t => !decide (t.n = s.n)) ∧ Tn (blD d mb M) w w' ∧ ∀ k, blD d mb (M.filter fun t => !decide (t.n = s.n)) k → blD d mb M k ∨ w.heap.size ≤ k := by
  obtain ⟨sA, sc, hsv⟩ := h.formS hs
  have c2 := h.c2
  have hl := h.look hs
  have k0 := (h.sg s hs).c0
  have k1 := (h.sg s hs).c1
  have k2 := (h.sg s hs).c2
  have ob := (h.sg s hs).ob
  rw [hsv] at k0 ob
  have HB := Lib.hid ob.bs.1
  have hcap := ob.bs.1.le
  have hcm := ob.bs.1.max
  unfold maxLen at hcm
  have HD := Lib.hid h
  have hmin : min (q : Int) ((s.b.length : Int) - s.l) = (q : Int) := by omega
  have hd : decide ((q : Int) < (s.b.length : Int) - s.l) = true := by simp; omega
  have hd0 : (q : Int) < (s.b.length : Int) - s.l := by omega
  have hw1 : IntKind.i64.wrap ((s.b.length : Int) - ((s.b.length : Int) - s.l - q)) = (s.l : Int) + q := by rw [wrap_in (by omega) (by omega)]; omega
  have c1 := HD.out.c1
  have df := HD.out.fr 1
  have gf := (HD.out.sg s hs).fr 0
  have hgl := (HD.out.sg s hs).lt
  have hdl := HD.out.lt
  have hne : d ≠ s.g := fun e => (HD.out.of_ s hs s.g (.inl rfl)).1 e.symm
  have hne2 : s.g ≠ d := fun e => hne e.symm
  have h01 : (0 : Int) ≤ (s.l : Int) + q := by omega
  have h02 : (s.l : Int) + q ≤ (sc : Int) := by omega
  have h03 : ((s.l : Int) + (q : Int)).toNat = s.l + q := by omega
  have hw5 : IntKind.i64.wrap (used - ((s.b.length : Int) - s.l - q)) = used - ((s.b.length : Int) - s.l - q) := wrap_in (by omega) (by omega)
  obtain ⟨bt, hbt⟩ : ∃ bt, bt = s.b.take (s.l + q) := ⟨_, rfl⟩
  have hbl : bt.length = s.l + q := by rw [hbt]; simp; omega
  have HB2 := Lib.hid (HB.out.to (j := s.l + q) (by omega))
  rw [← hbt] at HB2
  have HBT := Lib.hid hbt
  clear h ob hbt
  rw [hk] at k2
  have HKK := Lib.hid hk
  have n1 := (HD.out.sg s hs).n1
  have n2 := (HD.out.sg s hs).n2
  have h0 : ((s.l : Int) + q == (0 : Int)) = true := by rw [beq_iff_eq]; omega
  clear hk hz0
  go_enter Try.func54, Try.ntmps54
  go_wp2_with fail
  go_big_quiet (fail)
  clear hl
  go_wp2_with fail
  go_region_law (first
    | (go_simp; go_at_call 55; go_loud (refine (clone_any w.heap.size sA (s.l + q) sc bt _ hbl (HB2.out.drewN _) (Nat.le_refl _) (by omega)).mono ?_; rintro e w2 ⟨A2, cc, rfl, ob2, b2⟩; rw [hbl] at ob2; have y0 := kept b2 k0; have y1 := kept b2 k1; have y2 := kept b2 k2; have yf := (b2.frozen (p := ⟨s.g, 0, none⟩) hgl).trans gf; have e1 := kept b2 c1; have ef := (b2.frozen (p := ⟨d, 1, none⟩) hdl).trans df)))
  all_goals
    obtain ⟨D1, T1, B1⟩ := (HD.out.drewN _).cutS hs (j := s.l + q) (by omega) (by omega) rfl b2 (by rw [← HBT.out]; exact ob2)
    have D2 := D1.set1 (used - ((s.b.length : Int) - s.l - q))
    have hin : (⟨s.n, s.g, .slice A2 (s.l + q) cc, s.b.take (s.l + q), s.l, s.k⟩ : Sg) ∈ upd M ⟨s.n, s.g, .slice A2 (s.l + q) cc, s.b.take (s.l + q), s.l, s.k⟩ := mem_upd_self hs rfl
    have HD2 := Lib.hid D2
    have HT1 := Lib.hid T1
    have HB1 := Lib.hid B1
    have HIN := Lib.hid hin
    have x0 := (D2.sg _ hin).c0
    have x1 := (D2.sg _ hin).c1
    have x2 := (D2.sg _ hin).c2
    simp only at x0 x1 x2
    rw [HKK.out] at x2
    clear D1 D2 T1 B1 hin
    have x3 := HD2.out.c2
    go_wp2_with (at_delete; go_loud (refine wpList_delete_own _ rfl _ _ 63 3 rfl 94 keyI Try.underlying63 ptrE mb _ _ rfl HD2.out.mp _ _ rfl (keyOf_int_mk Try.underlying3 (wf64 (by omega) n2)) ?_; intro w3 hown3 hturn3))
    obtain ⟨D3, B3⟩ := HD2.out.del s.n ((Tn.ofGrown hturn3.grown).mono fun k _ e => by injection e) hown3
    rw [filter_upd M ⟨s.n, s.g, .slice A2 (s.l + q) cc, s.b.take (s.l + q), s.l, s.k⟩] at D3 B3
    have hT1 := HT1.out
    refine bodyPost_ret (v := .tuple #[]) (by simp [results, Try.results54, go_sem]) rfl ⟨rfl, D3, (((Tn.ofNew (P := blD d mb M) (below_drewN _ _ _)).thenQ hT1 (fun _ _ e => .inr (.inr ⟨s, hs, e⟩))).thenQ (Tn.setCell _ d 1 _) (fun _ _ e => .inl e)).thenQ (Tn.ofGrown hturn3.grown) (fun k _ e => .inr (.inl (by injection e))), fun k hk => HB1.out k (B3 k hk)⟩
end
end Go.Proofs.Ytpckbbjlihhpdaa
