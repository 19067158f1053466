/- slices.MinFunc and slices.MaxFunc over samples by their numbers. -/
import Derived.Test.YtckbpajphfbaoaaTyG
import Derived.Deep.RegionLaw
namespace Go.Proofs.Ytckbpajphfbaoaa
open Go.RowKit

theorem cmp_lt (a b : Int) : decide (cmpN a b < 0) = ltI a b := by
  unfold cmpN ltI
  (repeat' split) <;> simp <;> omega
theorem cmp_gt (a b : Int) : decide (0 < cmpN a b) = gtI a b := by
  unfold cmpN gtI
  (repeat' split) <;> simp <;> omega
/-- The result's box and the box of the best one so far. -/
structure Bx2 (w wr : World) (m : Smp) : Prop where
  c0 : wr.cell? ⟨w.heap.size, 0, none⟩ = some (.int .i64 0)
  c1 : wr.cell? ⟨w.heap.size, 1, none⟩ = some (.int .i64 0)
  m0 : wr.cell? ⟨w.heap.size + 1, 0, none⟩ = some (.int .i64 m.1)
  m1 : wr.cell? ⟨w.heap.size + 1, 1, none⟩ = some (.int .i64 m.2)
  f0 : ∀ j, wr.frozen? ⟨w.heap.size, j, none⟩ = false
  f1 : ∀ j, wr.frozen? ⟨w.heap.size + 1, j, none⟩ = false
  bel : Below w.heap.size w wr
theorem Bx2.lt {w wr : World} {m : Smp} (h : Bx2 w wr m) : w.heap.size + 1 < wr.heap.size := World.block_lt_of_cell? wr _ h.m0
theorem Bx2.below {w wr w' : World} {m : Smp} (h : Bx2 w wr m) (hb : Below wr.heap.size wr w') : Bx2 w w' m :=
  ⟨kept hb h.c0, kept hb h.c1, kept hb h.m0, kept hb h.m1, fun j => (hb.frozen (p := ⟨w.heap.size, j, none⟩) (by have := h.lt; simp; omega)).trans (h.f0 j), fun j => (hb.frozen (p := ⟨w.heap.size + 1, j, none⟩) h.lt).trans (h.f1 j), h.bel.trans (hb.mono h.bel.size)⟩
theorem Bx2.start (w : World) (x0 x1 : Int) : Bx2 w ((w.alloc (.cells #[.int .i64 0, .int .i64 0] 46)).alloc (.cells #[.int .i64 x0, .int .i64 x1] 46)) (x0, x1) :=
  ⟨by simp [go_sem], by simp [go_sem], by simp [go_sem], by simp [go_sem], fun j => by simp [go_sem], fun j => by simp [go_sem], by go_grown⟩
theorem of_drew {w w1 : World} (h : Below w.drew.heap.size w.drew w1) : Below w.heap.size w w1 := ((Tn.drew (P := fun _ => False) w).below (Nat.le_refl _) (fun _ _ h => h.elim)).trans h
theorem Bx2.put {w wr : World} {m x : Smp} (h : Bx2 w wr m) : Bx2 w ((wr.setCell ⟨w.heap.size + 1, 0, none⟩ (.int .i64 x.1)).setCell ⟨w.heap.size + 1, 1, none⟩ (.int .i64 x.2)) x :=
  ⟨by simp [go_sem, h.c0], by simp [go_sem, h.c1], by simp [go_sem, h.m0], by simp [go_sem, h.m1], fun j => by simp [go_sem, h.f0], fun j => by simp [go_sem, h.f1], by have := h.bel; go_grown⟩
set_option maxRecDepth 100000 in
set_option maxHeartbeats 3200000 in
theorem min_any (K : Nat) (A : Option Addr) (n cap : Nat) (l : List Smp) (w : World) (hln : l.length = n) (hp : Sr encS 2 w K A cap l) (hK : K ≤ w.heap.size) (h0 : 0 < l.length) :
    Calls Try.prog 25 #[.slice A n cap, .func (.func 26) #[] #[]] w fun e w' => e = .returned (agS (bestN ltI l)) ∧ Below w.heap.size w w' := by
  subst hln
  have hle := hp.le
  have hmax := hp.max
  unfold maxLen at hmax
  obtain ⟨ad, rfl, hadK, c0, c1⟩ := s_cells hp h0
  rw [Nat.zero_mul, el_add_zero] at c0 c1
  have hadW : ad.block < w.heap.size := by omega
  have HP := Lib.hid hp
  have H1 : Hid (bestN ltI (l.take 1) = l[0]) := Lib.hid (by cases l with | nil => simp at h0 | cons x r => rfl)
  clear hp
  generalize hx0 : l[0] = x at *
  obtain ⟨x0, x1⟩ := x
  clear hx0
  simp only at c0 c1
  have i0 : ¬ (l.length : Int) < 1 := by omega
  go_enter Try.func25, Try.ntmps25
  go_wp2
  go_loopw [6] (fun i wr => ∃ t : Nat, 0 < t ∧ t ≤ l.length ∧ i = .int .i64 (t : Int) ∧ Bx2 w wr (bestN ltI (l.take t))) (fun i _ => l.length - (intOf i).toNat)
  case atStart => exact ⟨1, by omega, by omega, rfl, by rw [H1.out]; exact Bx2.start w x0 x1⟩
  case round =>
    obtain ⟨t, ht0, ht, rfl, B⟩ := hrel
    have z := B.lt
    have hbl := B.bel
    by_cases hlt : t < l.length
    · obtain ⟨ad2, e2, _, h1, h2⟩ := s_cells (HP.out.below (hbl.mono hK)) hlt
      cases e2
      have HX := Lib.hid (bestN_next ltI ht0 hlt)
      have HBX := Lib.hid B
      have m0 := B.m0
      have m1 := B.m1
      have f0 := B.f1 0
      have f1 := B.f1 1
      generalize bestN ltI (l.take t) = m at *
      generalize l[t] = x at *
      obtain ⟨ma, mb⟩ := m
      obtain ⟨xa, xb⟩ := x
      simp only at h1 h2 m0 m1
      have i1 : (t : Int) < l.length := by omega
      clear B
      cases hc : ltI xb mb with
      | true =>
        have HN : Hid (bestN ltI (l.take (t + 1)) = (xa, xb)) := Lib.hid (by rw [HX.out, hc]; rfl)
        have hd : decide (cmpN xb mb < 0) = true := by rw [cmp_lt]; exact hc
        have HB := Lib.hid (fun W => byNum_any (xa, xb) (ma, mb) W)
        generalize cmpN xb mb = c at *
        clear hc
        go_wp2_with fail
        go_region_law (first
          | (go_simp; go_at_call 26; refine (HB.out _).mono ?_; rintro e w1 ⟨rfl, hb1⟩))
        all_goals
          have hB1 := of_drew hb1
          have HB1 := Lib.hid (HBX.out.below hB1)
          have z1 := HB1.out.lt
          have g1 := kept hB1 h1
          have g2 := kept hB1 h2
          have n0 := HB1.out.m0
          have n1 := HB1.out.m1
          have e0 := HB1.out.f1 0
          have e1 := HB1.out.f1 1
          have HP1 := Lib.hid (HB1.out.put (x := (xa, xb)))
          clear hB1 hb1 h1 h2 m0 m1 f0 f1
          go_wp2
          go_roundw
          case rel => exact ⟨t + 1, by omega, by omega, by go_num, by rw [HN.out]; exact HP1.out⟩
          case measure => simp [intOf]; omega
      | false =>
        have HN : Hid (bestN ltI (l.take (t + 1)) = (ma, mb)) := Lib.hid (by rw [HX.out, hc]; rfl)
        have hd : decide (cmpN xb mb < 0) = false := by rw [cmp_lt]; exact hc
        have HB := Lib.hid (fun W => byNum_any (xa, xb) (ma, mb) W)
        generalize cmpN xb mb = c at *
        clear hc
        go_wp2_with fail
        go_region_law (first
          | (go_simp; go_at_call 26; refine (HB.out _).mono ?_; rintro e w1 ⟨rfl, hb1⟩))
        all_goals
          have hB1 := of_drew hb1
          have HB1 := Lib.hid (HBX.out.below hB1)
          have z1 := HB1.out.lt
          clear hB1 hb1 h1 h2 m0 m1 f0 f1
          go_wp2
          go_roundw
          case rel => exact ⟨t + 1, by omega, by omega, by go_num, by rw [HN.out]; exact HB1.out⟩
          case measure => simp [intOf]; omega
    · have hte : t = l.length := by omega
      subst hte
      rw [List.take_length] at B
      obtain ⟨m, hm⟩ : ∃ m, m = bestN ltI l := ⟨_, rfl⟩
      rw [← hm] at B
      have HM := Lib.hid hm
      clear hm
      have m0 := B.m0
      have m1 := B.m1
      have c0 := B.c0
      have c1 := B.c1
      have f0 := B.f0 0
      have f1 := B.f0 1
      clear B
      go_wp2
      exact bodyPost_ret (v := agS m) (by simp [results, Try.results25, go_sem, c0, c1]) rfl ⟨by rw [HM.out], by go_grown⟩
set_option maxRecDepth 100000 in
set_option maxHeartbeats 3200000 in
theorem max_any (K : Nat) (A : Option Addr) (n cap : Nat) (l : List Smp) (w : World) (hln : l.length = n) (hp : Sr encS 2 w K A cap l) (hK : K ≤ w.heap.size) (h0 : 0 < l.length) :
    Calls Try.prog 27 #[.slice A n cap, .func (.func 26) #[] #[]] w fun e w' => e = .returned (agS (bestN gtI l)) ∧ Below w.heap.size w w' := by
  subst hln
  have hle := hp.le
  have hmax := hp.max
  unfold maxLen at hmax
  obtain ⟨ad, rfl, hadK, c0, c1⟩ := s_cells hp h0
  rw [Nat.zero_mul, el_add_zero] at c0 c1
  have hadW : ad.block < w.heap.size := by omega
  have HP := Lib.hid hp
  have H1 : Hid (bestN gtI (l.take 1) = l[0]) := Lib.hid (by cases l with | nil => simp at h0 | cons x r => rfl)
  clear hp
  generalize hx0 : l[0] = x at *
  obtain ⟨x0, x1⟩ := x
  clear hx0
  simp only at c0 c1
  have i0 : ¬ (l.length : Int) < 1 := by omega
  go_enter Try.func27, Try.ntmps27
  go_wp2
  go_loopw [6] (fun i wr => ∃ t : Nat, 0 < t ∧ t ≤ l.length ∧ i = .int .i64 (t : Int) ∧ Bx2 w wr (bestN gtI (l.take t))) (fun i _ => l.length - (intOf i).toNat)
  case atStart => exact ⟨1, by omega, by omega, rfl, by rw [H1.out]; exact Bx2.start w x0 x1⟩
  case round =>
    obtain ⟨t, ht0, ht, rfl, B⟩ := hrel
    have z := B.lt
    have hbl := B.bel
    by_cases hlt : t < l.length
    · obtain ⟨ad2, e2, _, h1, h2⟩ := s_cells (HP.out.below (hbl.mono hK)) hlt
      cases e2
      have HX := Lib.hid (bestN_next gtI ht0 hlt)
      have HBX := Lib.hid B
      have m0 := B.m0
      have m1 := B.m1
      have f0 := B.f1 0
      have f1 := B.f1 1
      generalize bestN gtI (l.take t) = m at *
      generalize l[t] = x at *
      obtain ⟨ma, mb⟩ := m
      obtain ⟨xa, xb⟩ := x
      simp only at h1 h2 m0 m1
      have i1 : (t : Int) < l.length := by omega
      clear B
      cases hc : gtI xb mb with
      | true =>
        have HN : Hid (bestN gtI (l.take (t + 1)) = (xa, xb)) := Lib.hid (by rw [HX.out, hc]; rfl)
        have hd : decide (0 < cmpN xb mb) = true := by rw [cmp_gt]; exact hc
        have HB := Lib.hid (fun W => byNum_any (xa, xb) (ma, mb) W)
        generalize cmpN xb mb = c at *
        clear hc
        go_wp2_with fail
        go_region_law (first
          | (go_simp; go_at_call 26; refine (HB.out _).mono ?_; rintro e w1 ⟨rfl, hb1⟩))
        all_goals
          have hB1 := of_drew hb1
          have HB1 := Lib.hid (HBX.out.below hB1)
          have z1 := HB1.out.lt
          have g1 := kept hB1 h1
          have g2 := kept hB1 h2
          have n0 := HB1.out.m0
          have n1 := HB1.out.m1
          have e0 := HB1.out.f1 0
          have e1 := HB1.out.f1 1
          have HP1 := Lib.hid (HB1.out.put (x := (xa, xb)))
          clear hB1 hb1 h1 h2 m0 m1 f0 f1
          go_wp2
          go_roundw
          case rel => exact ⟨t + 1, by omega, by omega, by go_num, by rw [HN.out]; exact HP1.out⟩
          case measure => simp [intOf]; omega
      | false =>
        have HN : Hid (bestN gtI (l.take (t + 1)) = (ma, mb)) := Lib.hid (by rw [HX.out, hc]; rfl)
        have hd : decide (0 < cmpN xb mb) = false := by rw [cmp_gt]; exact hc
        have HB := Lib.hid (fun W => byNum_any (xa, xb) (ma, mb) W)
        generalize cmpN xb mb = c at *
        clear hc
        go_wp2_with fail
        go_region_law (first
          | (go_simp; go_at_call 26; refine (HB.out _).mono ?_; rintro e w1 ⟨rfl, hb1⟩))
        all_goals
          have hB1 := of_drew hb1
          have HB1 := Lib.hid (HBX.out.below hB1)
          have z1 := HB1.out.lt
          clear hB1 hb1 h1 h2 m0 m1 f0 f1
          go_wp2
          go_roundw
          case rel => exact ⟨t + 1, by omega, by omega, by go_num, by rw [HN.out]; exact HB1.out⟩
          case measure => simp [intOf]; omega
    · have hte : t = l.length := by omega
      subst hte
      rw [List.take_length] at B
      obtain ⟨m, hm⟩ : ∃ m, m = bestN gtI l := ⟨_, rfl⟩
      rw [← hm] at B
      have HM := Lib.hid hm
      clear hm
      have m0 := B.m0
      have m1 := B.m1
      have c0 := B.c0
      have c1 := B.c1
      have f0 := B.f0 0
      have f1 := B.f0 1
      clear B
      go_wp2
      exact bodyPost_ret (v := agS m) (by simp [results, Try.results27, go_sem, c0, c1]) rfl ⟨by rw [HM.out], by go_grown⟩
end Go.Proofs.Ytckbpajphfbaoaa
