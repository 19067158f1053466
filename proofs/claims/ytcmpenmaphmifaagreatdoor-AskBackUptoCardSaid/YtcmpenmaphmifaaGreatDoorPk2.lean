/- The program's ahead: with how many samples ahead of a time a list begins; its spans. -/
import Derived.Test.YtcmpenmaphmifaaGreatDoorPk1
import Derived.Deep.RegionLaw
import Derived.Deep.CutBlock
import Derived.BigQuiet
namespace Go.Proofs.YtcmpenmaphmifaaGreatDoor
open Go.RowKit

theorem cmp_lt (a b : Int) : decide (cmpN a b < 0) = ltI a b := by
  unfold cmpN ltI
  (repeat' split) <;> simp <;> omega
theorem cmp_gt (a b : Int) : decide (0 < cmpN a b) = gtI a b := by
  unfold cmpN gtI
  (repeat' split) <;> simp <;> omega
/-- The result's box and the box of the best one so far. -/
structure Bx2 (w wr : World) (m : Smp) : Prop where
  c0 : wr.cell? ⟨w.heap.size, 0, none⟩ = some (.int .i64 0)
  c1 : wr.cell? ⟨w.heap.size, 1, none⟩ = some (.int .i64 0)
  m0 : wr.cell? ⟨w.heap.size + 1, 0, none⟩ = some (.int .i64 m.1)
  m1 : wr.cell? ⟨w.heap.size + 1, 1, none⟩ = some (.int .i64 m.2)
  f0 : ∀ j, wr.frozen? ⟨w.heap.size, j, none⟩ = false
  f1 : ∀ j, wr.frozen? ⟨w.heap.size + 1, j, none⟩ = false
  bel : Below w.heap.size w wr
theorem Bx2.lt {w wr : World} {m : Smp} (h : Bx2 w wr m) : w.heap.size + 1 < wr.heap.size := World.block_lt_of_cell? wr _ h.m0
theorem Bx2.below {w wr w' : World} {m : Smp} (h : Bx2 w wr m) (hb : Below wr.heap.size wr w') : Bx2 w w' m :=
  ⟨kept hb h.c0, kept hb h.c1, kept hb h.m0, kept hb h.m1, fun j => (hb.frozen (p := ⟨w.heap.size, j, none⟩) (by have := h.lt; simp; omega)).trans (h.f0 j), fun j => (hb.frozen (p := ⟨w.heap.size + 1, j, none⟩) h.lt).trans (h.f1 j), h.bel.trans (hb.mono h.bel.size)⟩
theorem Bx2.start (w : World) (x0 x1 : Int) : Bx2 w ((w.alloc (.cells #[.int .i64 0, .int .i64 0] 203)).alloc (.cells #[.int .i64 x0, .int .i64 x1] 203)) (x0, x1) :=
  ⟨by simp [go_sem], by simp [go_sem], by simp [go_sem], by simp [go_sem], fun j => by simp [go_sem], fun j => by simp [go_sem], by go_grown⟩
theorem of_drew {w w1 : World} (h : Below w.drew.heap.size w.drew w1) : Below w.heap.size w w1 := ((Tn.drew (P := fun _ => False) w).below (Nat.le_refl _) (fun _ _ h => h.elim)).trans h
theorem Bx2.put {w wr : World} {m x : Smp} (h : Bx2 w wr m) : Bx2 w ((wr.setCell ⟨w.heap.size + 1, 0, none⟩ (.int .i64 x.1)).setCell ⟨w.heap.size + 1, 1, none⟩ (.int .i64 x.2)) x :=
  ⟨by simp [go_sem, h.c0], by simp [go_sem, h.c1], by simp [go_sem, h.m0], by simp [go_sem, h.m1], fun j => by simp [go_sem, h.f0], fun j => by simp [go_sem, h.f1], by have := h.bel; go_grown⟩
set_option maxRecDepth 100000 in
set_option maxHeartbeats 3200000 in
theorem min_any (K : Nat) (A : Option Addr) (n cap : Nat) (l : List Smp) (w : World) (hln : l.length = n) (hp : Sr encSm 2 w K A cap l) (hK : K ≤ w.heap.size) (h0 : 0 < l.length) :
    Calls Tryz.prog 154 #[.slice A n cap, .func (.func 155) #[] #[]] w fun e w' => e = .returned (agS (bestN ltI l)) ∧ Below w.heap.size w w' := by
  subst hln
  have hle := hp.le
  have hmax := hp.max
  unfold maxLen at hmax
  obtain ⟨ad, rfl, hadK, c0, c1⟩ := s_cells hp h0
  rw [Nat.zero_mul, el_add_zero] at c0 c1
  have hadW : ad.block < w.heap.size := by omega
  have HP := Lib.hid hp
  have H1 : Hid (bestN ltI (l.take 1) = l[0]) := Lib.hid (by cases l with | nil => simp at h0 | cons x r => rfl)
  clear hp
  generalize hx0 : l[0] = x at *
  obtain ⟨x0, x1⟩ := x
  clear hx0
  simp only at c0 c1
  have i0 : ¬ (l.length : Int) < 1 := by omega
  go_enter Tryz.func154, Tryz.ntmps154
  go_wp2
  go_loopw [6] (fun i wr => ∃ t : Nat, 0 < t ∧ t ≤ l.length ∧ i = .int .i64 (t : Int) ∧ Bx2 w wr (bestN ltI (l.take t))) (fun i _ => l.length - (intOf i).toNat)
  case atStart => exact ⟨1, by omega, by omega, rfl, by rw [H1.out]; exact Bx2.start w x0 x1⟩
  case round =>
    obtain ⟨t, ht0, ht, rfl, B⟩ := hrel
    have z := B.lt
    have hbl := B.bel
    by_cases hlt : t < l.length
    · obtain ⟨ad2, e2, _, h1, h2⟩ := s_cells (HP.out.below (hbl.mono hK)) hlt
      cases e2
      have HX := Lib.hid (bestN_next ltI ht0 hlt)
      have HBX := Lib.hid B
      have m0 := B.m0
      have m1 := B.m1
      have f0 := B.f1 0
      have f1 := B.f1 1
      generalize bestN ltI (l.take t) = m at *
      generalize l[t] = x at *
      obtain ⟨ma, mb⟩ := m
      obtain ⟨xa, xb⟩ := x
      simp only at h1 h2 m0 m1
      have i1 : (t : Int) < l.length := by omega
      clear B
      cases hc : ltI xb mb with
      | true =>
        have HN : Hid (bestN ltI (l.take (t + 1)) = (xa, xb)) := Lib.hid (by rw [HX.out, hc]; rfl)
        have hd : decide (cmpN xb mb < 0) = true := by rw [cmp_lt]; exact hc
        have HB := Lib.hid (fun W => byNum_any (xa, xb) (ma, mb) W)
        generalize cmpN xb mb = c at *
        clear hc
        go_wp2_with fail
        go_region_law (first
          | (go_simp; go_at_call 155; refine (HB.out _).mono ?_; rintro e w1 ⟨rfl, hb1⟩))
        all_goals
          have hB1 := of_drew hb1
          have HB1 := Lib.hid (HBX.out.below hB1)
          have z1 := HB1.out.lt
          have g1 := kept hB1 h1
          have g2 := kept hB1 h2
          have n0 := HB1.out.m0
          have n1 := HB1.out.m1
          have e0 := HB1.out.f1 0
          have e1 := HB1.out.f1 1
          have HP1 := Lib.hid (HB1.out.put (x := (xa, xb)))
          clear hB1 hb1 h1 h2 m0 m1 f0 f1
          go_wp2
          go_roundw
          case rel => exact ⟨t + 1, by omega, by omega, by go_num, by rw [HN.out]; exact HP1.out⟩
          case measure => simp [intOf]; omega
      | false =>
        have HN : Hid (bestN ltI (l.take (t + 1)) = (ma, mb)) := Lib.hid (by rw [HX.out, hc]; rfl)
        have hd : decide (cmpN xb mb < 0) = false := by rw [cmp_lt]; exact hc
        have HB := Lib.hid (fun W => byNum_any (xa, xb) (ma, mb) W)
        generalize cmpN xb mb = c at *
        clear hc
        go_wp2_with fail
        go_region_law (first
          | (go_simp; go_at_call 155; refine (HB.out _).mono ?_; rintro e w1 ⟨rfl, hb1⟩))
        all_goals
          have hB1 := of_drew hb1
          have HB1 := Lib.hid (HBX.out.below hB1)
          have z1 := HB1.out.lt
          clear hB1 hb1 h1 h2 m0 m1 f0 f1
          go_wp2
          go_roundw
          case rel => exact ⟨t + 1, by omega, by omega, by go_num, by rw [HN.out]; exact HB1.out⟩
          case measure => simp [intOf]; omega
    · have hte : t = l.length := by omega
      subst hte
      rw [List.take_length] at B
      obtain ⟨m, hm⟩ : ∃ m, m = bestN ltI l := ⟨_, rfl⟩
      rw [← hm] at B
      have HM := Lib.hid hm
      clear hm
      have m0 := B.m0
      have m1 := B.m1
      have c0 := B.c0
      have c1 := B.c1
      have f0 := B.f0 0
      have f1 := B.f0 1
      clear B
      go_wp2
      exact bodyPost_ret (v := agS m) (by simp [results, Tryz.results154, go_sem, c0, c1]) rfl ⟨by rw [HM.out], by go_grown⟩
set_option maxRecDepth 100000 in
set_option maxHeartbeats 3200000 in
theorem max_any (K : Nat) (A : Option Addr) (n cap : Nat) (l : List Smp) (w : World) (hln : l.length = n) (hp : Sr encSm 2 w K A cap l) (hK : K ≤ w.heap.size) (h0 : 0 < l.length) :
    Calls Tryz.prog 156 #[.slice A n cap, .func (.func 155) #[] #[]] w fun e w' => e = .returned (agS (bestN gtI l)) ∧ Below w.heap.size w w' := by
  subst hln
  have hle := hp.le
  have hmax := hp.max
  unfold maxLen at hmax
  obtain ⟨ad, rfl, hadK, c0, c1⟩ := s_cells hp h0
  rw [Nat.zero_mul, el_add_zero] at c0 c1
  have hadW : ad.block < w.heap.size := by omega
  have HP := Lib.hid hp
  have H1 : Hid (bestN gtI (l.take 1) = l[0]) := Lib.hid (by cases l with | nil => simp at h0 | cons x r => rfl)
  clear hp
  generalize hx0 : l[0] = x at *
  obtain ⟨x0, x1⟩ := x
  clear hx0
  simp only at c0 c1
  have i0 : ¬ (l.length : Int) < 1 := by omega
  go_enter Tryz.func156, Tryz.ntmps156
  go_wp2
  go_loopw [6] (fun i wr => ∃ t : Nat, 0 < t ∧ t ≤ l.length ∧ i = .int .i64 (t : Int) ∧ Bx2 w wr (bestN gtI (l.take t))) (fun i _ => l.length - (intOf i).toNat)
  case atStart => exact ⟨1, by omega, by omega, rfl, by rw [H1.out]; exact Bx2.start w x0 x1⟩
  case round =>
    obtain ⟨t, ht0, ht, rfl, B⟩ := hrel
    have z := B.lt
    have hbl := B.bel
    by_cases hlt : t < l.length
    · obtain ⟨ad2, e2, _, h1, h2⟩ := s_cells (HP.out.below (hbl.mono hK)) hlt
      cases e2
      have HX := Lib.hid (bestN_next gtI ht0 hlt)
      have HBX := Lib.hid B
      have m0 := B.m0
      have m1 := B.m1
      have f0 := B.f1 0
      have f1 := B.f1 1
      generalize bestN gtI (l.take t) = m at *
      generalize l[t] = x at *
      obtain ⟨ma, mb⟩ := m
      obtain ⟨xa, xb⟩ := x
      simp only at h1 h2 m0 m1
      have i1 : (t : Int) < l.length := by omega
      clear B
      cases hc : gtI xb mb with
      | true =>
        have HN : Hid (bestN gtI (l.take (t + 1)) = (xa, xb)) := Lib.hid (by rw [HX.out, hc]; rfl)
        have hd : decide (0 < cmpN xb mb) = true := by rw [cmp_gt]; exact hc
        have HB := Lib.hid (fun W => byNum_any (xa, xb) (ma, mb) W)
        generalize cmpN xb mb = c at *
        clear hc
        go_wp2_with fail
        go_region_law (first
          | (go_simp; go_at_call 155; refine (HB.out _).mono ?_; rintro e w1 ⟨rfl, hb1⟩))
        all_goals
          have hB1 := of_drew hb1
          have HB1 := Lib.hid (HBX.out.below hB1)
          have z1 := HB1.out.lt
          have g1 := kept hB1 h1
          have g2 := kept hB1 h2
          have n0 := HB1.out.m0
          have n1 := HB1.out.m1
          have e0 := HB1.out.f1 0
          have e1 := HB1.out.f1 1
          have HP1 := Lib.hid (HB1.out.put (x := (xa, xb)))
          clear hB1 hb1 h1 h2 m0 m1 f0 f1
          go_wp2
          go_roundw
          case rel => exact ⟨t + 1, by omega, by omega, by go_num, by rw [HN.out]; exact HP1.out⟩
          case measure => simp [intOf]; omega
      | false =>
        have HN : Hid (bestN gtI (l.take (t + 1)) = (ma, mb)) := Lib.hid (by rw [HX.out, hc]; rfl)
        have hd : decide (0 < cmpN xb mb) = false := by rw [cmp_gt]; exact hc
        have HB := Lib.hid (fun W => byNum_any (xa, xb) (ma, mb) W)
        generalize cmpN xb mb = c at *
        clear hc
        go_wp2_with fail
        go_region_law (first
          | (go_simp; go_at_call 155; refine (HB.out _).mono ?_; rintro e w1 ⟨rfl, hb1⟩))
        all_goals
          have hB1 := of_drew hb1
          have HB1 := Lib.hid (HBX.out.below hB1)
          have z1 := HB1.out.lt
          clear hB1 hb1 h1 h2 m0 m1 f0 f1
          go_wp2
          go_roundw
          case rel => exact ⟨t + 1, by omega, by omega, by go_num, by rw [HN.out]; exact HB1.out⟩
          case measure => simp [intOf]; omega
    · have hte : t = l.length := by omega
      subst hte
      rw [List.take_length] at B
      obtain ⟨m, hm⟩ : ∃ m, m = bestN gtI l := ⟨_, rfl⟩
      rw [← hm] at B
      have HM := Lib.hid hm
      clear hm
      have m0 := B.m0
      have m1 := B.m1
      have c0 := B.c0
      have c1 := B.c1
      have f0 := B.f0 0
      have f1 := B.f0 1
      clear B
      go_wp2
      exact bodyPost_ret (v := agS m) (by simp [results, Tryz.results156, go_sem, c0, c1]) rfl ⟨by rw [HM.out], by go_grown⟩
end Go.Proofs.YtcmpenmaphmifaaGreatDoor
namespace Go.Proofs.YtcmpenmaphmifaaGreatDoor
open Go.RowKit

def ToldP (w : World) (p : Int × Int) (e : Ending) (w' : World) : Prop := e = .returned (.tuple #[.int .i64 p.1, .int .i64 p.2]) ∧ Below w.heap.size w w'
set_option maxRecDepth 100000 in
set_option maxHeartbeats 3200000 in
theorem told_any (op : Int) (K : Nat) (A : Option Addr) (n cap : Nat) (l : List Smp) (w : World) (hln : l.length = n) (hp : Sr encSm 2 w K A cap l) (hK : K ≤ w.heap.size) (h0 : 0 < l.length) (hl : l.length ≤ 65536) (hok : ∀ x ∈ l, Sok x) :
    Calls Tryz.prog 135 #[.int .i64 op, .slice A n cap] w (ToldP w (toldB op l)) := by
  have HS := Lib.hid (fun W (h : Below w.heap.size w W) => sum_any K A n cap l W hln (hp.below (h.mono hK)) (Nat.le_trans hK h.size) hl hok)
  have HM := Lib.hid (fun W (h : Below w.heap.size w W) => min_any K A n cap l W hln (hp.below (h.mono hK)) (Nat.le_trans hK h.size) h0)
  have HX := Lib.hid (fun W (h : Below w.heap.size w W) => max_any K A n cap l W hln (hp.below (h.mono hK)) (Nat.le_trans hK h.size) h0)
  have HR := Lib.hid (Below.refl w.heap.size w)
  by_cases h1 : op = 1
  · subst h1
    have e : toldB 1 l = rangeB (sumI l) := rfl
    rw [e]
    clear e
    generalize rangeB (sumI l) = p at *
    go_enter Tryz.func135, Tryz.ntmps135
    go_wp2_with (go_at_call 153; refine (HS.out _ HR.out).mono ?_; rintro e w1 ⟨rfl, hb1⟩)
    go_ret2
    exact ⟨rfl, hb1⟩
  by_cases h2 : op = 2
  · subst h2
    have e : toldB 2 l = ((l.length : Int), 0) := rfl
    rw [e]
    subst hln
    clear e HS HM HX h1
    go_enter Tryz.func135, Tryz.ntmps135
    go_wp2
    go_ret2
    exact ⟨rfl, HR.out⟩
  by_cases h3 : op = 3
  · subst h3
    have e : toldB 3 l = ((bestN ltI l).2, 0) := rfl
    rw [e]
    clear e h1 h2
    generalize bestN ltI l = m at *
    obtain ⟨ma, mb⟩ := m
    have hfd : ∀ W, (Instr.field 203 (agS (ma, mb)) 1).run Tryz.prog W = .ok (.int .i64 mb) W := fun _ => by kernel_rfl
    simp only
    go_enter Tryz.func135, Tryz.ntmps135
    go_wp2_with (go_at_call 154; refine (HM.out _ HR.out).mono ?_; rintro e w1 ⟨rfl, hb1⟩)
    go_ret2
    exact ⟨rfl, hb1⟩
  by_cases h4 : op = 4
  · subst h4
    have e : toldB 4 l = ((bestN gtI l).2, 0) := rfl
    rw [e]
    clear e h1 h2 h3
    generalize bestN gtI l = m at *
    obtain ⟨ma, mb⟩ := m
    have hfd : ∀ W, (Instr.field 203 (agS (ma, mb)) 1).run Tryz.prog W = .ok (.int .i64 mb) W := fun _ => by kernel_rfl
    simp only
    go_enter Tryz.func135, Tryz.ntmps135
    go_wp2_with (go_at_call 156; refine (HX.out _ HR.out).mono ?_; rintro e w1 ⟨rfl, hb1⟩)
    go_ret2
    exact ⟨rfl, hb1⟩
  · have e : toldB op l = rangeB (lastI l - firstI l) := by unfold toldB; rw [if_neg h1, if_neg h2, if_neg h3, if_neg h4]
    rw [e]
    have hle := hp.le
    have hmax := hp.max
    unfold maxLen at hmax
    subst hln
    obtain ⟨ad, rfl, _, c0, c1⟩ := s_cells hp h0
    obtain ⟨ad2, e2, _, d0, d1⟩ := s_cells hp (i := l.length - 1) (by omega)
    cases e2
    rw [Nat.zero_mul, el_add_zero] at c0 c1
    have hf : firstI l = l[0].2 := by unfold firstI; rw [List.getD_eq_getElem?_getD, List.getElem?_eq_getElem h0]; rfl
    have hla : lastI l = l[l.length - 1].2 := by unfold lastI; rw [List.getD_eq_getElem?_getD, List.getElem?_eq_getElem (by omega)]; rfl
    have ok0 := hok _ (List.getElem_mem h0)
    have ok1 := hok _ (List.getElem_mem (show l.length - 1 < l.length by omega))
    rw [hf, hla]
    clear hf hla e HS HM HX
    generalize l[0] = x at *
    generalize l[l.length - 1] = y at *
    obtain ⟨x0, x1⟩ := x
    obtain ⟨y0, y1⟩ := y
    simp only at c0 c1 d0 d1
    have HG := Lib.hid (fun W => growth_any x1 y1 ok0.n0 ok0.n1 ok1.n0 ok1.n1 W)
    simp only
    generalize rangeB (y1 - x1) = p at *
    obtain ⟨n, hn⟩ : ∃ n : Nat, n = l.length - 1 := ⟨_, rfl⟩
    rw [← hn] at d0 d1
    have i1 : (l.length : Int) - 1 = (n : Int) := by omega
    have iw : IntKind.i64.wrap (n : Int) = (n : Int) := wrapI _ (by omega) (by omega)
    have i2 : (0 : Int) < l.length := by omega
    have i3 : (n : Int) < l.length := by omega
    have b1 : (op == 1) = false := by simpa using h1
    have b2 : (op == 2) = false := by simpa using h2
    have b3 : (op == 3) = false := by simpa using h3
    have b4 : (op == 4) = false := by simpa using h4
    clear ok0 ok1 hok hp hn h1 h2 h3 h4
    go_enter Tryz.func135, Tryz.ntmps135
    go_wp2_with fail
    go_region_law (first
      | (go_simp; go_at_call 157; refine (HG.out _).mono ?_; rintro e w1 ⟨rfl, rfl⟩))
    all_goals
      go_wp2
      go_ret2
      exact ⟨rfl, (Tn.drew (P := fun _ => False) w).below (Nat.le_refl _) (fun _ _ h => h.elim)⟩
end Go.Proofs.YtcmpenmaphmifaaGreatDoor
namespace Go.Proofs.YtcmpenmaphmifaaGreatDoor
open Go.RowKit

def okB (op : Int) (n : Nat) : Bool := decide (1 ≤ op) && decide (op ≤ 5) && decide ((n : Int) ≤ 65536)
theorem bad_ok (op : Int) (l : List Smp) : badB op l = !okB op l.length := rfl
set_option maxHeartbeats 800000 in
theorem isRight_any (op : Int) (A : Option Addr) (n cap : Nat) (w : World) : Calls Tryz.prog 100 #[.int .i64 op, .slice A n cap] w fun e w' => e = .returned (.bool (okB op n)) ∧ w' = w := by
  cases h1 : decide (1 ≤ op) <;> cases h2 : decide (op ≤ 5) <;> cases h3 : decide ((n : Int) ≤ 65536)
  all_goals
    unfold okB
    rw [h1, h2, h3]
    go_enter Tryz.func100, Tryz.ntmps100
    go_wp2
    go_ret
    exact ⟨rfl, rfl⟩
def FoldP (w : World) (p : Int × Bool × Int) (e : Ending) (w' : World) : Prop := e = .returned (.tuple #[.int .i64 p.1, .bool p.2.1, .int .i64 p.2.2]) ∧ Below w.heap.size w w'
set_option maxRecDepth 100000 in
set_option maxHeartbeats 1600000 in
theorem fold_any (op : Int) (K : Nat) (A : Option Addr) (n cap : Nat) (l : List Smp) (w : World) (hln : l.length = n) (hp : Sr encSm 2 w K A cap l) (hK : K ≤ w.heap.size) (hok : ∀ x ∈ l, Sok x) :
    Calls Tryz.prog 104 #[.int .i64 op, .slice A n cap] w (FoldP w (foldB op l)) := by
  subst hln
  cases hb : okB op l.length with
  | false =>
    have e : foldB op l = (0, false, 1) := if_pos (by rw [bad_ok, hb]; rfl)
    rw [e]
    have HR := Lib.hid (fun W => hb ▸ isRight_any op A l.length cap W)
    clear e hb hp hok
    go_enter Tryz.func104, Tryz.ntmps104
    go_wp2_with (go_at_call 100; refine (HR.out _).mono ?_; rintro e w1 ⟨rfl, rfl⟩)
    go_ret3
    exact ⟨rfl, Below.refl _ _⟩
  | true =>
    have HR := Lib.hid (fun W => hb ▸ isRight_any op A l.length cap W)
    have hnb : ¬ badB op l = true := by rw [bad_ok, hb]; simp
    have hle : l.length ≤ 65536 := by
      unfold okB at hb
      simp at hb
      omega
    by_cases h0 : l = []
    · subst h0
      have e : foldB op [] = (0, (op == 2), 0) := by unfold foldB; rw [if_neg hnb, if_pos rfl]
      rw [e]
      clear e hb hp hok hnb
      go_enter Tryz.func104, Tryz.ntmps104
      go_wp2_with (go_at_call 100; refine (HR.out _).mono ?_; rintro e w1 ⟨rfl, rfl⟩)
      go_ret3
      exact ⟨rfl, Below.refl _ _⟩
    · have hpos : 0 < l.length := by cases l with | nil => exact absurd rfl h0 | cons x r => simp
      have e : foldB op l = ((toldB op l).1, ((toldB op l).2 == 0), (toldB op l).2) := by unfold foldB; rw [if_neg hnb, if_neg h0]
      rw [e]
      have HT := Lib.hid (fun W (h : W = w) => told_any op K A l.length cap l W rfl (h ▸ hp) (h ▸ hK) hpos hle hok)
      generalize toldB op l = p at *
      obtain ⟨p1, p2⟩ := p
      simp only
      have i0 : ((l.length : Int) == 0) = false := beq_eq_false_iff_ne.2 (by omega)
      have i1 : ¬ l.length = 0 := by omega
      clear e hb hp hok hnb h0
      go_enter Tryz.func104, Tryz.ntmps104
      go_wp2_with (first
        | (go_at_call 100; refine (HR.out _).mono ?_; rintro e w1 ⟨rfl, rfl⟩)
        | (go_at_call 135; refine (HT.out _ rfl).mono ?_; rintro e w2 ⟨rfl, hb2⟩))
      go_ret3
      exact ⟨rfl, hb2⟩
end Go.Proofs.YtcmpenmaphmifaaGreatDoor
namespace Go.Proofs.YtcmpenmaphmifaaGreatDoor
open Go.RowKit Go.BigFrame

theorem u64_of (t : Int) : ∃ U : Nat, IntKind.u64.wrap t = (U : Int) ∧ U < 18446744073709551616 := by
  refine ⟨(t % 18446744073709551616).toNat, ?_, by omega⟩
  simp [IntKind.wrap, IntKind.bits, IntKind.signed]
  omega
theorem elemSm : Tryz.prog.elem 167 = 203 := by unfold Program.elem; rw [Tryz.underlying167]
theorem undS : Tryz.prog.underlying 167 = some (.slice (Tryz.prog.elem 167)) := by rw [elemSm]; exact Tryz.underlying167
theorem szS : ∀ w, (sizeOf (Tryz.prog.elem 167)).run Tryz.prog w = .ok 2 w := fun _ => by kernel_rfl
/-- What Delta tells of a list that isn't empty, nor too long. -/
theorem delta_is {l : List Smp} (h0 : 0 < l.length) (h1 : l.length ≤ 65536) : foldB 5 l = ((rangeB (lastI l - firstI l)).1, ((rangeB (lastI l - firstI l)).2 == 0), (rangeB (lastI l - firstI l)).2) := by
  have hb : ¬ badB 5 l = true := by
    unfold badB
    simp
    omega
  have hn : ¬ l = [] := by rintro rfl; simp at h0
  unfold foldB
  rw [if_neg hb, if_neg hn]
  rfl
theorem range_cases (x : Int) : (rangeB x = (x, 0) ∧ -9223372036854775808 ≤ x ∧ x ≤ 9223372036854775807) ∨ rangeB x = (0, 20) := by
  unfold rangeB
  split
  · exact .inl ⟨rfl, by assumption⟩
  · exact .inr rfl
theorem first_take {l : List Smp} {k : Nat} : firstI (l.take (k + 1)) = firstI l := by cases l <;> simp [firstI]
theorem last_take {l : List Smp} {k : Nat} (h : k < l.length) : lastI (l.take (k + 1)) = (l.getD k (0, 0)).2 := by
  unfold lastI
  rw [List.length_take, show min (k + 1) l.length - 1 = k by omega, List.getD_eq_getElem?_getD, List.getD_eq_getElem?_getD, List.getElem?_take, if_pos (by omega)]
theorem first_drop {l : List Smp} {k : Nat} : firstI (l.drop k) = (l.getD k (0, 0)).2 := by
  unfold firstI
  rw [List.getD_eq_getElem?_getD, List.getD_eq_getElem?_getD, List.getElem?_drop, Nat.add_zero]
theorem last_drop {l : List Smp} {k : Nat} (h : k < l.length) : lastI (l.drop k) = lastI l := by
  unfold lastI
  rw [List.length_drop, List.getD_eq_getElem?_getD, List.getD_eq_getElem?_getD, List.getElem?_drop, show k + (l.length - k - 1) = l.length - 1 by omega]

end Go.Proofs.YtcmpenmaphmifaaGreatDoor
namespace Go.Proofs.YtcmpenmaphmifaaGreatDoor
open Go.RowKit

/-- With how many samples ahead of a time a list begins. -/
def ah (l : List Smp) (T : Int) : Nat := (l.takeWhile fun s => decide (s.1 < T)).length
theorem ah_le (l : List Smp) (T : Int) : ah l T ≤ l.length := by
  have := congrArg List.length (List.takeWhile_append_dropWhile (p := fun s : Smp => decide (s.1 < T)) (l := l))
  rw [List.length_append] at this
  unfold ah
  omega
theorem ah_at {l : List Smp} {T : Int} {k : Nat} (hk : k < l.length) (h : ∀ j (hj : j < k), l[j].1 < T) (hx : ¬ l[k].1 < T) : ah l T = k := by
  induction l generalizing k with
  | nil => simp at hk
  | cons x l ih =>
    cases k with
    | zero =>
      simp only [List.getElem_cons_zero] at hx
      unfold ah
      rw [List.takeWhile_cons, if_neg (by simpa using hx)]
      rfl
    | succ k =>
      have h0 := h 0 (by omega)
      simp only [List.getElem_cons_zero] at h0
      have := ih (k := k) (by simpa using hk) (fun j hj => by have := h (j + 1) (by omega); simpa using this) (by simpa using hx)
      unfold ah at this ⊢
      rw [List.takeWhile_cons, if_pos (by simpa using h0), List.length_cons, this]
theorem ah_all {l : List Smp} {T : Int} (h : ∀ j (hj : j < l.length), l[j].1 < T) : ah l T = l.length := by
  induction l with
  | nil => rfl
  | cons x l ih =>
    have h0 := h 0 (by simp)
    simp only [List.getElem_cons_zero] at h0
    have := ih fun j hj => by have := h (j + 1) (by simp; omega); simpa using this
    unfold ah at this ⊢
    rw [List.takeWhile_cons, if_pos (by simpa using h0), List.length_cons, this, List.length_cons]
set_option maxHeartbeats 800000 in
theorem ahead1_any (x : Smp) (b : Nat) (T : Int) (w : World) (h : w.cell? ⟨b, 0, none⟩ = some (.int .i64 T)) :
    Calls Tryz.prog 134 #[agS x, .pointer (some ⟨b, 0, none⟩)] w fun e w' => e = .returned (.bool (decide (T ≤ x.1))) ∧ Below w.heap.size w w' := by
  have hb := World.block_lt_of_cell? w _ h
  go_enter Tryz.func134, Tryz.ntmps134
  go_wp2
  go_ret
  exact ⟨rfl, by go_grown⟩
/-- What IndexFunc tells. -/
def ixI (l : List Smp) (T : Int) : Int := if ah l T = l.length then -1 else (ah l T : Int)
set_option maxRecDepth 100000 in
set_option maxHeartbeats 1600000 in
theorem index_any (K : Nat) (A : Option Addr) (n cap : Nat) (l : List Smp) (b : Nat) (T : Int) (w : World) (hln : l.length = n) (hp : Sr encSm 2 w K A cap l) (hK : K ≤ w.heap.size) (h : w.cell? ⟨b, 0, none⟩ = some (.int .i64 T)) :
    Calls Tryz.prog 133 #[.slice A n cap, .func (.func 134) #[] #[.pointer (some ⟨b, 0, none⟩)]] w fun e w' => e = .returned (.int .i64 (ixI l T)) ∧ Below w.heap.size w w' := by
  subst hln
  have hle := hp.le
  have hmax := hp.max
  unfold maxLen at hmax
  go_enter Tryz.func133, Tryz.ntmps133
  go_wp2
  go_loopw [8] (fun i wr => ∃ (k : Nat), k ≤ l.length ∧ i = .int .i64 k ∧ Hid (∀ j (hj : j < l.length), j < k → l[j].1 < T) ∧ Below w.heap.size w wr) (fun i _ => l.length - (intOf i).toNat)
  case atStart => exact ⟨0, Nat.zero_le _, rfl, Lib.hid (fun j _ h => absurd h (by omega)), Below.refl _ _⟩
  case round =>
    obtain ⟨k, hk, rfl, HJ, hbl⟩ := hrel
    have z := hbl.size
    have hc := kept hbl h
    by_cases hlt : k < l.length
    · obtain ⟨ad, rfl, hadK, h1, h2⟩ := s_cells (hp.below (hbl.mono hK)) hlt
      have HX : Hid (∀ x, l[k] = x → (∀ (hx : T ≤ x.1), ixI l T = (k : Int)) ∧ (¬ T ≤ x.1 → ∀ j (hj : j < l.length), j < k + 1 → l[j].1 < T)) := Lib.hid (fun x hx => ⟨fun hT => by
          have e : ah l T = k := ah_at hlt (fun j hj => HJ.out j (by omega) hj) (by rw [hx]; omega)
          unfold ixI
          rw [e, if_neg (by omega)], fun hT j hj hjk => by
          by_cases e : j = k
          · subst e; rw [hx]; omega
          · exact HJ.out j hj (by omega)⟩)
      generalize hxx : l[k] = x at *
      have HXX := Lib.hid (HX.out x rfl)
      clear HX hxx
      obtain ⟨xn, xv⟩ := x
      simp only at h1 h2
      have HA := Lib.hid (ahead1_any (xn, xv) b T wr hc)
      cases hd : decide (T ≤ xn) with
      | true =>
        have HA2 : Hid (Calls Tryz.prog 134 #[agS (xn, xv), .pointer (some ⟨b, 0, none⟩)] wr fun e w' => e = .returned (.bool true) ∧ Below wr.heap.size wr w') := Lib.hid (by have := HA.out; simp only [hd] at this; exact this)
        have HI := Lib.hid (HXX.out.1 (of_decide_eq_true hd))
        clear HA hd
        go_wp2_with (go_at_call 134; refine HA2.out.mono ?_; rintro e w1 ⟨rfl, hb1⟩)
        go_ret
        exact ⟨ret_int HI.out.symm, hbl.trans (hb1.mono z)⟩
      | false =>
        have HA2 : Hid (Calls Tryz.prog 134 #[agS (xn, xv), .pointer (some ⟨b, 0, none⟩)] wr fun e w' => e = .returned (.bool false) ∧ Below wr.heap.size wr w') := Lib.hid (by have := HA.out; simp only [hd] at this; exact this)
        have HI := Lib.hid (HXX.out.2 (of_decide_eq_false hd))
        clear HA hd
        go_wp2_with (go_at_call 134; refine HA2.out.mono ?_; rintro e w1 ⟨rfl, hb1⟩)
        go_roundw
        case rel => exact ⟨k + 1, by omega, by go_num, Lib.hid HI.out, hbl.trans (hb1.mono z)⟩
        case measure => simp [intOf]; omega
    · have hkl : k = l.length := by omega
      subst hkl
      have HI : Hid (ixI l T = -1) := Lib.hid (if_pos (ah_all fun j hj => HJ.out j hj hj))
      go_wp2
      go_ret
      exact ⟨ret_int HI.out.symm, hbl⟩
set_option maxHeartbeats 800000 in
theorem ahead_any (K : Nat) (A : Option Addr) (n cap : Nat) (l : List Smp) (T : Int) (w : World) (hln : l.length = n) (hp : Sr encSm 2 w K A cap l) (hK : K ≤ w.heap.size) :
    Calls Tryz.prog 103 #[.slice A n cap, .int .i64 T] w fun e w' => e = .returned (.int .i64 (ah l T : Nat)) ∧ Below w.heap.size w w' := by
  subst hln
  have HI := Lib.hid (fun W (h : Sr encSm 2 W K A cap l) (hW : K ≤ W.heap.size) (hc : W.cell? ⟨w.heap.size, 0, none⟩ = some (.int .i64 T)) => index_any K A l.length cap l w.heap.size T W rfl h hW hc)
  have hs := fun o => hp.alloc hK o
  by_cases h0 : ah l T = l.length
  · have e : ixI l T = -1 := if_pos h0
    rw [h0]
    rw [e] at HI
    clear e h0
    go_enter Tryz.func103, Tryz.ntmps103
    go_wp2_with (go_at_call 133; refine (HI.out _ (hs _) (by simp; omega) (by simp [go_sem])).mono ?_; rintro e w1 ⟨rfl, hb1⟩)
    go_ret
    exact ⟨rfl, via hb1 (by go_grown) (by simp)⟩
  · have e : ixI l T = (ah l T : Int) := if_neg h0
    rw [e] at HI
    generalize ah l T = q at *
    clear e h0
    go_enter Tryz.func103, Tryz.ntmps103
    go_wp2_with (go_at_call 133; refine (HI.out _ (hs _) (by simp; omega) (by simp [go_sem])).mono ?_; rintro e w1 ⟨rfl, hb1⟩)
    go_ret
    exact ⟨rfl, via hb1 (by go_grown) (by simp)⟩
def spanB (a b : Int) : Bool := decide (0 ≤ a) && decide (a ≤ b) && decide (b ≤ 4611686018427387904)
set_option maxHeartbeats 800000 in
theorem isSpan_any (a b : Int) (w : World) : Calls Tryz.prog 101 #[.int .i64 a, .int .i64 b] w fun e w' => e = .returned (.bool (spanB a b)) ∧ w' = w := by
  cases h1 : decide (0 ≤ a) <;> cases h2 : decide (a ≤ b) <;> cases h3 : decide (b ≤ 4611686018427387904)
  all_goals
    unfold spanB
    rw [h1, h2, h3]
    go_enter Tryz.func101, Tryz.ntmps101
    go_wp2
    go_ret
    exact ⟨rfl, rfl⟩
def longB (a b s : Int) : Bool := decide (1024 ≤ (b - a - 1).tdiv s)
set_option maxHeartbeats 800000 in
theorem isLong_any (a b s : Int) (h : spanB a b = true) (hs : 1 ≤ s) (hs2 : s ≤ 9223372036854775807) (w : World) : Calls Tryz.prog 102 #[.int .i64 a, .int .i64 b, .int .i64 s] w fun e w' => e = .returned (.bool (longB a b s)) ∧ w' = w := by
  unfold spanB at h
  simp at h
  have h1 := wrapI (b - a) (by omega) (by omega)
  have h2 := wrapI (b - a - 1) (by omega) (by omega)
  have h0 : ¬ s = 0 := by omega
  have h00 : (s == 0) = false := beq_eq_false_iff_ne.2 h0
  obtain ⟨d, hd⟩ : ∃ d, b - a - 1 = d := ⟨_, rfl⟩
  have e1 : wrap64 (b - a - 1) = d := by unfold wrap64; omega
  have e2 : -1 ≤ d ∧ d ≤ 4611686018427387904 := by omega
  unfold longB
  rw [hd]
  clear h1 h2
  go_enter Tryz.func102, Tryz.ntmps102
  go_wp2
  go_ret
  exact ⟨rfl, rfl⟩
end Go.Proofs.YtcmpenmaphmifaaGreatDoor
