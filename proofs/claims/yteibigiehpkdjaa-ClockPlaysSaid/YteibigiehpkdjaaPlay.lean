/- ClockPlays: the loop. -/
import Derived.Test.YteibigiehpkdjaaPair
import Derived.Test.YteibigiehpkdjaaOps
import Derived.Test.YteibigiehpkdjaaRegion
import Derived.Test.YteibigiehpkdjaaLet1
import Derived.Test.YteibigiehpkdjaaAwake
namespace Go.Proofs.Yteibigiehpkdjaa
open Go.RowKit


theorem OpAt.below {w w' : World} {b o : Nat} (h : OpAt w b o) (hb : Below w.heap.size w w') : OpAt w' b o := by
  obtain ⟨k, ph, x, y, z, h1, h2, h3, h4, h5, c0, c1, c2, c3, c4⟩ := h
  exact ⟨k, ph, x, y, z, h1, h2, h3, h4, h5, kept hb c0, kept hb c1, kept hb c2, kept hb c3, kept hb c4⟩

/-- Steps in memory. -/
def OpsIn (w : World) (p : Option Addr) (len : Nat) : Prop := ∀ i, i < len → ∃ b o, p = some ⟨b, o, none⟩ ∧ OpAt w b (o + i * 5)

theorem Clk.drew {w : World} {b : Nat} {off up mk lw lt : Int} (h : Clk w b off up mk lw lt) : Clk w.drew b off up mk lw lt := ⟨h.c0, h.c1, h.c2, h.c3, h.c4, h.c5, h.f⟩
theorem Ck6.drew {w : World} {b : Nat} {x y off up mk : Int} (h : Ck6 w b x y off up mk) : Ck6 w.drew b x y off up mk := h
theorem St3.drew {w : World} {b : Nat} {x y z : Int} (h : St3 w b x y z) : St3 w.drew b x y z := h
theorem Free.drew {w : World} {b : Nat} (h : Free w b) : Free w.drew b := h
theorem Clk.keep {w w' : World} {b : Nat} {off up mk lw lt : Int} (hb : Below w.heap.size w w') (h : Clk w b off up mk lw lt) : Clk w' b off up mk lw lt := h.below hb
theorem Ck6.keep {w w' : World} {b : Nat} {x y off up mk : Int} (hb : Below w.heap.size w w') (h : Ck6 w b x y off up mk) : Ck6 w' b x y off up mk := h.below hb
theorem Free.keep {w w' : World} {b : Nat} {v : Value} (hb : Below w.heap.size w w') (h : Free w b) (hc : w.cell? ⟨b, 0, none⟩ = some v) : Free w' b := h.below (World.block_lt_of_cell? w _ hc) hb
theorem Free.keep6 {w w' : World} {b : Nat} {x y off up mk : Int} (hb : Below w.heap.size w w') (h : Free w b) (hc : Ck6 w b x y off up mk) : Free w' b := h.below hc.lt hb
theorem bkeep {a w w' : World} (hb : Below w.heap.size w w') (h : Below a.heap.size a w) : Below a.heap.size a w' := via hb h h.size

theorem fits_yes (off up : Int) (h : newOk off up = true) (w : World) : Calls Try.prog 22 #[.int .i64 off, .int .i64 up] w fun e w' => e = .returned (.bool true) ∧ w = w' := by
  have := fits_any off up w
  rw [h] at this
  exact this
theorem fits_no (off up : Int) (h : newOk off up = false) (w : World) : Calls Try.prog 22 #[.int .i64 off, .int .i64 up] w fun e w' => e = .returned (.bool false) ∧ w = w' := by
  have := fits_any off up w
  rw [h] at this
  exact this

/-- What holds at each round's head: both clocks hold the same. -/
def PlayRel (w : World) (b pm len : Nat) (off mk : Int) (i : Value) (wr : World) : Prop :=
  ∃ (k : Nat) (up lw lt : Int), k ≤ len ∧ i = .int .i64 k ∧ Clk wr b off up mk lw lt ∧ (0 ≤ lt ∧ lt ≤ 4294967295) ∧ (0 ≤ lw ∧ lw ≤ 4611686018427387904) ∧ (0 ≤ up ∧ up ≤ 4611686018427387904) ∧ Ck6 wr pm lw lt off up mk ∧ Free wr pm ∧ w.heap.size ≤ pm ∧ b < pm ∧ Below w.heap.size w wr

set_option maxRecDepth 100000 in
set_option maxHeartbeats 8000000 in
theorem plays_loop (off up0 mk : Int) (hok : newOk off up0 = true) (p : Option Addr) (len cap : Nat) (w : World) (hl : len ≤ cap) (hc : cap ≤ 9223372036854775807) (hops : OpsIn w p len) :
    Calls Try.prog 7 #[.int .i64 off, .int .i64 up0, .int .u32 mk, .slice p len cap] w fun e w' => e = .returned (.bool true) ∧ Below w.heap.size w w' := by
  have HO := Lib.hid hops
  have hok' : 0 ≤ off ∧ off ≤ 1099511627776 ∧ 0 ≤ up0 ∧ up0 ≤ 4611686018427387904 := by simpa [newOk] using hok
  have HOK := Lib.hid hok'
  clear hops hok'
  go_enter Try.func7, Try.ntmps7
  go_wp2_with fail
  refine (new_yes off up0 mk hok _).mono ?_
  rintro e w1 ⟨b, rfl, hb1, lB1, hk1⟩
  have HK1 := Lib.hid hk1
  have HB1 := Lib.hid lB1
  have z1 := lB1.size
  clear hk1 lB1
  go_wp2_with fail
  refine (fits_yes off up0 hok _).mono ?_
  rintro e w1' ⟨rfl, rfl⟩
  go_wp2_with fail
  refine (awake_any _).mono ?_
  rintro e w2 ⟨rfl, lB2⟩
  have HK2 := Lib.hid (HK1.out.below lB2)
  have HB2 := Lib.hid (HB1.out.trans (lB2.mono z1))
  have z2 := lB2.size
  clear lB2
  go_wp2_with fail
  refine (rnew_any off up0 mk _).mono ?_
  rintro e wn ⟨rfl, lBn⟩
  have HKn := Lib.hid (HK2.out.below lBn)
  have zn := lBn.size
  have HBn := Lib.hid (HB2.out.trans (lBn.mono (by omega)))
  have HBP := Lib.hid (show b < wn.heap.size from HKn.out.lt)
  have HBW := Lib.hid hb1
  clear lBn
  go_wp2_with fail
  go_loopw [56] (fun i wr => PlayRel w b wn.heap.size len off mk i wr) (fun i _ => len - (intOf i).toNat)
  case atStart =>
    have t0 := (Below.refl wn.heap.size wn).alloc (Nat.le_refl _) (.cells #[.int .i64 up0, .int .u32 4294967295, .int .u32 0, .int .i64 off, .int .i64 up0, .int .u32 mk] 48)
    exact ⟨0, up0, up0, 4294967295, Nat.zero_le _, rfl, HKn.out.below t0, ⟨by decide, by decide⟩, HOK.out.2.2, HOK.out.2.2, ⟨by simp, by simp, by simp, by simp, by simp, by simp⟩, fun j => by simp, by have := HBn.out.size; omega, HBP.out, HBn.out.alloc HBn.out.size _⟩
  case round =>
    obtain ⟨k, up, lw, lt, hk, rfl, hC, ⟨l0, l1⟩, ⟨q0, q1⟩, hu, hK, hF, hpw, hbp, hB⟩ := hrel
    have HC := Lib.hid hC
    have HK := Lib.hid hK
    have HF := Lib.hid hF
    have HB := Lib.hid hB
    have hbr := hC.lt
    have hwr := hB.size
    have hpr := hK.lt
    have hpb : wn.heap.size ≠ b := by omega
    clear hC hF
    by_cases hlt : k < len
    · obtain ⟨bo, oo, rfl, hop⟩ := HO.out k hlt
      obtain ⟨kd, ph, iw, it, im, ⟨kd0, kd1⟩, ⟨ph0, ph1⟩, ⟨iw0, iw1⟩, ⟨it0, it1⟩, ⟨im0, im1⟩, o0, o1, o2, o3, o4⟩ := hop.below hB
      have hkc : k < cap := by omega
      have hsb : wr.heap.size + 1 ≠ b := by omega
      have hob : wr.heap.size ≠ b := by omega
      clear hop hB hK
      by_cases k0 : kd = 0
      · subst k0
        obtain ⟨X, Y, Z, E, lw', lt', hb, hN, hR⟩ := now_pair b off up mk lw lt ph l0 l1 q0 q1 hu.2
        have HN := Lib.hid hN
        have HR := Lib.hid hR
        clear hN hR
        go_wp2_with fail
        refine (HN.out _ (HC.out.below (((Below.refl wr.heap.size wr).alloc (Nat.le_refl _) _).alloc (by simp) _))).mono ?_
        rintro e w3 ⟨rfl, ho, hc3⟩
        have oB : Only b wr w3 := (((Only.refl b wr).alloc _).alloc _).trans ho
        have g1 : w3.cell? ⟨wr.heap.size, 1, none⟩ = some (.int .i64 ph) := ho.cell hob (by simp)
        have m0 : w3.cell? ⟨wr.heap.size + 1, 0, none⟩ = some (.int .i64 0) := ho.cell hsb (by simp)
        have m1 : w3.cell? ⟨wr.heap.size + 1, 1, none⟩ = some (.int .u32 0) := ho.cell hsb (by simp)
        have m2 : w3.cell? ⟨wr.heap.size + 1, 2, none⟩ = some (.int .u32 0) := ho.cell hsb (by simp)
        have f0 : Free w3 (wr.heap.size + 1) := fun j => ho.frz hsb (by simp) (by simp)
        have K3 : Ck6 w3 (wn.heap.size) lw lt off up mk := HK.out.only oB hpb
        have F3 : Free w3 (wn.heap.size) := HF.out.only HK.out.lt oB hpb
        have h3 : wr.heap.size + 1 < w3.heap.size := World.block_lt_of_cell? w3 _ m0
        have h30 : wr.heap.size < w3.heap.size := by omega
        have HC3 := Lib.hid hc3
        have HO3 := Lib.hid oB
        have HM := Lib.hid (show St3 w3 (wr.heap.size + 1) 0 0 0 from ⟨m0, m1, m2⟩)
        have HFM := Lib.hid f0
        have HK3 := Lib.hid K3
        have HF3 := Lib.hid F3
        have u3 := K3.lt
        have ⟨n0, n1, n2, n3, n4, n5⟩ := K3
        clear ho hc3 oB f0 F3 K3 o0 o1 o2 o3 o4
        go_wp2_with fail
        refine (HR.out _).mono ?_
        rintro e w4 ⟨rfl, lb⟩
        have u4 := lb.size
        (try simp at u4)
        have t0 : w4.cell? ⟨w3.heap.size, 0, none⟩ = some (.int .i64 X) := kept lb (by simp)
        have t1 : w4.cell? ⟨w3.heap.size, 1, none⟩ = some (.int .u32 Y) := kept lb (by simp)
        have t2 : w4.cell? ⟨w3.heap.size, 2, none⟩ = some (.int .u32 Z) := kept lb (by simp)
        have lb3 : Below w3.heap.size w3 w4 := via lb ((Below.refl _ _).alloc (Nat.le_refl _) _) (by simp)
        have HC4 := Lib.hid (HC3.out.below lb3)
        have HO4 := Lib.hid (HO3.out.trans (Only.of_below (b := b) lb3))
        have HM4 := Lib.hid (HM.out.below lb3)
        have HFM4 := Lib.hid (HFM.out.below h3 lb3)
        have HK4 := Lib.hid (HK3.out.below lb3)
        have HF4 := Lib.hid (HF3.out.below u3 lb3)
        have fm : Free w4 (wr.heap.size + 1) := HFM4.out
        have fp : Free w4 (wn.heap.size) := HF4.out
        have ⟨p0, p1, p2⟩ := HM4.out
        have ⟨n0', n1', n2', n3', n4', n5'⟩ := HK4.out
        have y0 := fm 0
        have y1 := fm 1
        have y2 := fm 2
        have x0 := fp 0
        have x1 := fp 1
        have x2 := fp 2
        have x3 := fp 3
        have x4 := fp 4
        have x5 := fp 5
        clear lb lb3 fm fp n0 n1 n2 n3 n4 n5 m0 m1 m2 g1
        go_wp2_with fail
        generalize hW : (World.setCell _ _ _ : World) = W'
        have hWs : W' = set6 (set3 w4 (wr.heap.size + 1) (.int .i64 X) (.int .u32 Y) (.int .u32 Z)) (wn.heap.size) lw' lt' off up mk := hW.symm
        have hne : wr.heap.size + 1 ≠ w3.heap.size := by omega
        have hne2 : wn.heap.size ≠ w3.heap.size := by omega
        have hne3 : wr.heap.size + 1 ≠ wn.heap.size := by omega
        have hne4 : wn.heap.size ≠ wr.heap.size + 1 := by omega
        have r0 : St3 W' (w3.heap.size) X Y Z := hWs ▸ ((show St3 w4 (w3.heap.size) X Y Z from ⟨t0, t1, t2⟩).s3 hne).s6 hne2
        have r1 : St3 W' (wr.heap.size + 1) X Y Z := hWs ▸ (HM4.out.put).s6 hne4
        have rK : Ck6 W' (wn.heap.size) lw' lt' off up mk := hWs ▸ (HK4.out.s3 hne3).put
        have rC : Clk W' b off up mk lw' lt' := hWs ▸ (HC4.out.set3 hsb).s6 hpb
        have rF : Free W' (wn.heap.size) := hWs ▸ (HF4.out.s3).s6
        have rO : Below w.heap.size w W' := hWs ▸ set6_below (set3_below (HB.out.trans (HO4.out.below HBW.out HB.out.size)) (by omega)) hpw
        have q7 : w3.heap.size < W'.heap.size := r0.lt
        have q8 : wr.heap.size + 1 < W'.heap.size := by omega
        obtain ⟨t0, t1, t2⟩ := r0
        obtain ⟨p0, p1, p2⟩ := r1
        clear hW hWs HC4 HO4 HM4 HFM4 HK4 HF4 y0 y1 y2 x0 x1 x2 x3 x4 x5
        apply region_vals (fun w' => w'.cell? ⟨w3.heap.size, 0, none⟩ = some (.int .i64 X) ∧ w'.cell? ⟨w3.heap.size, 1, none⟩ = some (.int .u32 Y) ∧ w'.cell? ⟨w3.heap.size, 2, none⟩ = some (.int .u32 Z) ∧ w'.cell? ⟨wr.heap.size + 1, 0, none⟩ = some (.int .i64 X) ∧ w'.cell? ⟨wr.heap.size + 1, 1, none⟩ = some (.int .u32 Y) ∧ w'.cell? ⟨wr.heap.size + 1, 2, none⟩ = some (.int .u32 Z) ∧ Clk w' b off up mk lw' lt' ∧ Ck6 w' (wn.heap.size) lw' lt' off up mk ∧ Free w' (wn.heap.size) ∧ Below w.heap.size w w') [.agg #[.int .i64 X, .int .u32 Y, .int .u32 Z], .agg #[.int .i64 X, .int .u32 Y, .int .u32 Z], .agg #[.int .i64 X, .int .u32 Y, .int .u32 Z], .bool false, .bool false, .int .i64 E, .int .i64 E, .bool false, .bool false]
        case hm => kernel_rfl
        case hf => kernel_rfl
        case hQ => exact (by intro c x y w e h; exact And.intro (e.symm.trans (And.left h)) (And.right h))
        case hF => simp only [putAll, Act.put, List.setIfInBounds_toArray, List.set_cons_zero, List.set_cons_succ, Nat.reduceAdd, List.getD_cons_zero, List.getD_cons_succ]; rfl
        case h0 => (((try dsimp only); go_split_ands; (repeat' with_reducible apply And.intro) <;> first | assumption | (with_reducible apply keptD; with_reducible assumption) | (with_reducible apply Clk.drew; with_reducible assumption) | (with_reducible apply Ck6.drew; with_reducible assumption) | (with_reducible apply Free.drew; with_reducible assumption) | (with_reducible apply Below.drew; with_reducible assumption) | (apply kept; assumption; with_reducible assumption) | (apply Clk.keep; assumption; with_reducible assumption) | (apply Ck6.keep; assumption; with_reducible assumption) | (apply Free.keep; assumption; with_reducible assumption; with_reducible assumption) | (apply Free.keep6; assumption; with_reducible assumption; with_reducible assumption) | (apply bkeep; assumption; with_reducible assumption)))
        case hstep =>
          repeat' (first | exact AllOps.nil | apply AllOps.cons)
          all_goals
            intro wx hS K hK
            simp only [Act.put, List.setIfInBounds_toArray, List.set_cons_zero, List.set_cons_succ, Nat.reduceAdd, List.getD_cons_zero, List.getD_cons_succ] at hK ⊢
            have HK := Lib.hid hK
            have HS := Lib.hid hS
            clear hK
            go_split_ands
            first
              | (go_simp; (first | (refine HK.out _ _ ?_ ?_; (first | rfl | fail); exact HS.out) | (go_at_call 18; refine (from_any _ _ _ _).mono ?_; rintro e w1 ⟨rfl, hb⟩; refine HK.out _ _ ?_ ?_; (first | rfl | fail); (((try dsimp only); go_split_ands; (repeat' with_reducible apply And.intro) <;> first | assumption | (with_reducible apply keptD; with_reducible assumption) | (with_reducible apply Clk.drew; with_reducible assumption) | (with_reducible apply Ck6.drew; with_reducible assumption) | (with_reducible apply Free.drew; with_reducible assumption) | (with_reducible apply Below.drew; with_reducible assumption) | (apply kept; assumption; with_reducible assumption) | (apply Clk.keep; assumption; with_reducible assumption) | (apply Ck6.keep; assumption; with_reducible assumption) | (apply Free.keep; assumption; with_reducible assumption; with_reducible assumption) | (apply Free.keep6; assumption; with_reducible assumption; with_reducible assumption) | (apply bkeep; assumption; with_reducible assumption)))) | fail))
        case hend =>
          intro wx hS
          go_split_ands
          rename_i e0 e1 e2 e3 e4 e5 eC eK eF eB
          have ⟨u0, u1, u2, u3, u4, u5⟩ := eK
          go_wp2_with fail
          apply region_vals (fun w' => w'.cell? ⟨wn.heap.size, 0, none⟩ = some (.int .i64 lw') ∧ w'.cell? ⟨wn.heap.size, 1, none⟩ = some (.int .u32 lt') ∧ w'.cell? ⟨wn.heap.size, 2, none⟩ = some (.int .u32 0) ∧ w'.cell? ⟨wn.heap.size, 3, none⟩ = some (.int .i64 off) ∧ w'.cell? ⟨wn.heap.size, 4, none⟩ = some (.int .i64 up) ∧ w'.cell? ⟨wn.heap.size, 5, none⟩ = some (.int .u32 mk) ∧ Clk w' b off up mk lw' lt' ∧ Free w' (wn.heap.size) ∧ Below w.heap.size w w') [.pointer (some ⟨b, 0, none⟩), .int .i64 up, .pointer (some ⟨wn.heap.size, 4, none⟩), .int .i64 up, .bool false, .bool false, .pointer (some ⟨b, 0, none⟩), .agg #[.int .i64 lw', .int .u32 lt', .int .u32 0], .agg #[.int .i64 lw', .int .u32 lt', .int .u32 0], .pointer (some ⟨wn.heap.size, 0, none⟩), .agg #[.int .i64 lw', .int .u32 lt', .int .u32 0], .bool false, .bool false]
          case hm => kernel_rfl
          case hf => kernel_rfl
          case hQ => exact (by intro c x y w e h; exact And.intro (e.symm.trans (And.left h)) (And.right h))
          case hF => simp only [putAll, Act.put, List.setIfInBounds_toArray, List.set_cons_zero, List.set_cons_succ, Nat.reduceAdd, List.getD_cons_zero, List.getD_cons_succ]; rfl
          case h0 => (((try dsimp only); go_split_ands; (repeat' with_reducible apply And.intro) <;> first | assumption | (with_reducible apply keptD; with_reducible assumption) | (with_reducible apply Clk.drew; with_reducible assumption) | (with_reducible apply Ck6.drew; with_reducible assumption) | (with_reducible apply Free.drew; with_reducible assumption) | (with_reducible apply Below.drew; with_reducible assumption) | (apply kept; assumption; with_reducible assumption) | (apply Clk.keep; assumption; with_reducible assumption) | (apply Ck6.keep; assumption; with_reducible assumption) | (apply Free.keep; assumption; with_reducible assumption; with_reducible assumption) | (apply Free.keep6; assumption; with_reducible assumption; with_reducible assumption) | (apply bkeep; assumption; with_reducible assumption)))
          case hstep =>
            repeat' (first | exact AllOps.nil | apply AllOps.cons)
            all_goals
              intro wx hS K hK
              simp only [Act.put, List.setIfInBounds_toArray, List.set_cons_zero, List.set_cons_succ, Nat.reduceAdd, List.getD_cons_zero, List.getD_cons_succ] at hK ⊢
              have HK := Lib.hid hK
              have HS := Lib.hid hS
              clear hK
              go_split_ands
              first
                | (go_simp; (first | (refine HK.out _ _ ?_ ?_; (first | rfl | fail); exact HS.out) | (go_at_call 31; refine (upper_below _ _ _ _ _ _ _ (by assumption)).mono ?_; rintro e w1 ⟨rfl, hb⟩; refine HK.out _ _ ?_ ?_; (first | rfl | fail); (((try dsimp only); go_split_ands; (repeat' with_reducible apply And.intro) <;> first | assumption | (with_reducible apply keptD; with_reducible assumption) | (with_reducible apply Clk.drew; with_reducible assumption) | (with_reducible apply Ck6.drew; with_reducible assumption) | (with_reducible apply Free.drew; with_reducible assumption) | (with_reducible apply Below.drew; with_reducible assumption) | (apply kept; assumption; with_reducible assumption) | (apply Clk.keep; assumption; with_reducible assumption) | (apply Ck6.keep; assumption; with_reducible assumption) | (apply Free.keep; assumption; with_reducible assumption; with_reducible assumption) | (apply Free.keep6; assumption; with_reducible assumption; with_reducible assumption) | (apply bkeep; assumption; with_reducible assumption)))) | (go_at_call 32; refine (clast_any _ _ _ _ _ _ _ (by assumption)).mono ?_; rintro e w1 ⟨rfl, hb⟩; refine HK.out _ _ ?_ ?_; (first | rfl | fail); (((try dsimp only); go_split_ands; (repeat' with_reducible apply And.intro) <;> first | assumption | (with_reducible apply keptD; with_reducible assumption) | (with_reducible apply Clk.drew; with_reducible assumption) | (with_reducible apply Ck6.drew; with_reducible assumption) | (with_reducible apply Free.drew; with_reducible assumption) | (with_reducible apply Below.drew; with_reducible assumption) | (apply kept; assumption; with_reducible assumption) | (apply Clk.keep; assumption; with_reducible assumption) | (apply Ck6.keep; assumption; with_reducible assumption) | (apply Free.keep; assumption; with_reducible assumption; with_reducible assumption) | (apply Free.keep6; assumption; with_reducible assumption; with_reducible assumption) | (apply bkeep; assumption; with_reducible assumption)))) | (go_at_call 18; refine (from_any _ _ _ _).mono ?_; rintro e w1 ⟨rfl, hb⟩; refine HK.out _ _ ?_ ?_; (first | rfl | fail); (((try dsimp only); go_split_ands; (repeat' with_reducible apply And.intro) <;> first | assumption | (with_reducible apply keptD; with_reducible assumption) | (with_reducible apply Clk.drew; with_reducible assumption) | (with_reducible apply Ck6.drew; with_reducible assumption) | (with_reducible apply Free.drew; with_reducible assumption) | (with_reducible apply Below.drew; with_reducible assumption) | (apply kept; assumption; with_reducible assumption) | (apply Clk.keep; assumption; with_reducible assumption) | (apply Ck6.keep; assumption; with_reducible assumption) | (apply Free.keep; assumption; with_reducible assumption; with_reducible assumption) | (apply Free.keep6; assumption; with_reducible assumption; with_reducible assumption) | (apply bkeep; assumption; with_reducible assumption)))) | fail))
          case hend =>
            intro wx hS
            go_split_ands
            rename_i e0 e1 e2 e3 e4 e5 eC eF eB
            go_wp2
            go_roundw
            case rel => exact ⟨k + 1, up, lw', lt', by omega, by go_num, eC, ⟨by omega, by omega⟩, ⟨by omega, by omega⟩, ⟨by omega, by omega⟩, ⟨e0, e1, e2, e3, e4, e5⟩, eF, hpw, hbp, eB⟩
            case measure => simp [intOf]; omega
      · have k0' : (kd == 0) = false := by simpa using k0
        clear k0
        by_cases k1 : kd = 1
        · subst k1
          obtain ⟨X, Y, Z, E, lw', lt', hb, hN, hR⟩ := upd_pair b off up mk lw lt ph iw it im l0 l1 q0 q1 hu.2 HOK.out.1 it0 it1 im0 im1
          have HN := Lib.hid hN
          have HR := Lib.hid hR
          clear hN hR
          have hF1 : Free ((wr.alloc (.cells #[.int .i64 1, .int .i64 ph, .int .i64 iw, .int .u32 it, .int .u32 im] 51)).alloc (.cells #[.int .i64 0, .int .u32 0, .int .u32 0] 24)) (wr.heap.size + 1) := fun j => by simp [go_sem]
          have hA1 : Below wr.heap.size wr ((wr.alloc (.cells #[.int .i64 1, .int .i64 ph, .int .i64 iw, .int .u32 it, .int .u32 im] 51)).alloc (.cells #[.int .i64 0, .int .u32 0, .int .u32 0] 24)) := ((Below.refl wr.heap.size wr).alloc (Nat.le_refl _) _).alloc (by simp) _
          have HF1 := Lib.hid hF1
          have HA1 := Lib.hid hA1
          clear hF1 hA1
          go_wp2_with fail
          apply region_invA (Let1 (fun w' => w'.cell? ⟨wr.heap.size, 0, none⟩ = some (.int .i64 1) ∧ w'.cell? ⟨wr.heap.size, 1, none⟩ = some (.int .i64 ph) ∧ w'.cell? ⟨wr.heap.size, 2, none⟩ = some (.int .i64 iw) ∧ w'.cell? ⟨wr.heap.size, 3, none⟩ = some (.int .u32 it) ∧ w'.cell? ⟨wr.heap.size, 4, none⟩ = some (.int .u32 im) ∧ St3 w' (wr.heap.size + 1) 0 0 0 ∧ Ck6 w' (wn.heap.size) lw lt off up mk ∧ Free w' (wr.heap.size + 1) ∧ Free w' (wn.heap.size) ∧ Only b wr w') (fun w' => Clk w' b off up mk lw lt) (fun w' => Clk w' b off up mk lw' lt') (wr.heap.size + 1 + 1) 6 10 (fun j => ([.pointer (some ⟨b, 0, none⟩), .pointer (some ⟨wr.heap.size, 1, none⟩), .int .i64 ph, .pointer (some ⟨wr.heap.size, 2, none⟩), .agg #[.int .i64 iw, .int .u32 it, .int .u32 im], .agg #[.int .i64 iw, .int .u32 it, .int .u32 im], .tuple #[.agg #[.int .i64 X, .int .u32 Y, .int .u32 Z], .int .i64 E], .tuple #[.agg #[.int .i64 X, .int .u32 Y, .int .u32 Z], .int .i64 E], .agg #[.int .i64 X, .int .u32 Y, .int .u32 Z], .int .i64 E, undef, undef, .int .i64 E] : List Value).getD j undef) (X, Y, Z))
          case hm => kernel_rfl
          case hf => kernel_rfl
          case hQ => exact (by intro c x y w e h; exact And.intro (e.symm.trans (And.left h)) (And.right h))
          case hF => intro vs; simp only [putAll, Act.put, List.setIfInBounds_toArray, List.set_cons_zero, List.set_cons_succ, Nat.reduceAdd]; rfl
          case h0 =>
            exact ⟨⟨by simp [go_sem], by simp [go_sem], by simp [go_sem], by simp [go_sem], by simp [go_sem], ⟨by simp [go_sem], by simp [go_sem], by simp [go_sem]⟩, (HK.out.below HA1.out).drew, HF1.out.drew, (HF.out.below HK.out.lt HA1.out).drew, (Only.of_below HA1.out).drew⟩, fun _ => (HC.out.below HA1.out).drew, (fun h => by cases h), by simp, (fun j _ _ h => by cases h), (fun h => by cases h), fun h => by cases h⟩
          case hstep =>
            clear HK HF HC HF1 HA1
            repeat' (first | exact AllOps.nil | apply AllOps.cons)
            · intro l vs wx hJ hl hd K hK
              simp only [Act.put, List.setIfInBounds_toArray, List.set_cons_zero, List.set_cons_succ] at hK ⊢
              have HK := Lib.hid hK
              have HJ := Lib.hid hJ
              clear hK hJ hd
              go_simp
              exact HK.out _ _ (HJ.out.value (by omega) (by omega) (by omega) rfl (Below.refl _ _) HJ.out.s id id)
            · intro l vs wx hJ hl hd K hK
              simp only [Act.put, List.setIfInBounds_toArray, List.set_cons_zero, List.set_cons_succ, Nat.reduceAdd] at hK ⊢
              have HK := Lib.hid hK
              have HJ := Lib.hid hJ
              clear hK hJ hd
              go_simp
              exact HK.out _ _ (HJ.out.value (by omega) (by omega) (by omega) rfl (Below.refl _ _) HJ.out.s id id)
            · intro l vs wx hJ hl hd K hK
              simp [depsOf, AllL, Region.binds, List.filterMap] at hd
              have h1 : l 1 = true := by simp_all
              have e1 : vs 1 = .pointer (some ⟨wr.heap.size, 1, none⟩) := hJ.v 1 (by omega) (by omega) h1
              obtain ⟨s0, s1, s2, s3, s4, sA, sB, sC, sD, sE⟩ := hJ.s
              simp only [Act.put, List.setIfInBounds_toArray, List.set_cons_zero, List.set_cons_succ, Nat.reduceAdd, e1] at hK ⊢
              have HK := Lib.hid hK
              have HJ := Lib.hid hJ
              clear hK hJ hd sA sB sC sD sE
              go_simp
              exact HK.out _ _ (HJ.out.value (by omega) (by omega) (by omega) rfl (Below.refl _ _) HJ.out.s id id)
            · intro l vs wx hJ hl hd K hK
              simp only [Act.put, List.setIfInBounds_toArray, List.set_cons_zero, List.set_cons_succ, Nat.reduceAdd] at hK ⊢
              have HK := Lib.hid hK
              have HJ := Lib.hid hJ
              clear hK hJ hd
              go_simp
              exact HK.out _ _ (HJ.out.value (by omega) (by omega) (by omega) rfl (Below.refl _ _) HJ.out.s id id)
            · intro l vs wx hJ hl hd K hK
              simp [depsOf, AllL, Region.binds, List.filterMap] at hd
              have h3 : l 3 = true := by simp_all
              have e3 : vs 3 = .pointer (some ⟨wr.heap.size, 2, none⟩) := hJ.v 3 (by omega) (by omega) h3
              obtain ⟨s0, s1, s2, s3, s4, sA, sB, sC, sD, sE⟩ := hJ.s
              simp only [Act.put, List.setIfInBounds_toArray, List.set_cons_zero, List.set_cons_succ, Nat.reduceAdd, e3] at hK ⊢
              have HK := Lib.hid hK
              have HJ := Lib.hid hJ
              clear hK hJ hd sA sB sC sD sE
              go_simp
              exact HK.out _ _ (HJ.out.value (by omega) (by omega) (by omega) rfl (Below.refl _ _) HJ.out.s id id)
            · intro l vs wx hJ hl hd K hK
              simp [depsOf, AllL, Region.binds, List.filterMap] at hd
              have h4 : l 4 = true := by simp_all
              have e4 : vs 4 = .agg #[.int .i64 iw, .int .u32 it, .int .u32 im] := hJ.v 4 (by omega) (by omega) h4
              simp only [Act.put, List.setIfInBounds_toArray, List.set_cons_zero, List.set_cons_succ, Nat.reduceAdd, e4] at hK ⊢
              have HK := Lib.hid hK
              have HJ := Lib.hid hJ
              clear hK hJ hd
              go_simp
              refine (to_any _ _ _ _).mono ?_
              rintro e w1 ⟨rfl, hb⟩
              obtain ⟨s0, s1, s2, s3, s4, sA, sB, sC, sD, sE⟩ := HJ.out.s
              exact HK.out _ _ (HJ.out.value (by omega) (by omega) (by omega) rfl hb ⟨kept hb s0, kept hb s1, kept hb s2, kept hb s3, kept hb s4, sA.below hb, sB.below hb, sC.below sA.lt hb, sD.below sB.lt hb, sE.trans (Only.of_below hb)⟩ (fun h => h.below hb) (fun h => h.below hb))
            · intro l vs wx hJ hl hd K hK
              simp [depsOf, AllL, Region.binds, List.filterMap] at hd
              have h0 : l 0 = true := by simp_all
              have h2 : l 2 = true := by simp_all
              have h5 : l 5 = true := by simp_all
              have e0 : vs 0 = .pointer (some ⟨b, 0, none⟩) := hJ.v 0 (by omega) (by omega) h0
              have e2 : vs 2 = .int .i64 ph := hJ.v 2 (by omega) (by omega) h2
              have e5 : vs 5 = .agg #[.int .i64 iw, .int .u32 it, .int .u32 im] := hJ.v 5 (by omega) (by omega) h5
              simp only [Act.put, List.setIfInBounds_toArray, List.set_cons_zero, List.set_cons_succ, Nat.reduceAdd, e0, e2, e5] at hK ⊢
              have HK := Lib.hid hK
              have HJ := Lib.hid hJ
              have HL := Lib.hid hl
              clear hK hJ hd hl
              go_simp
              refine (HN.out _ (HJ.out.s0 HL.out)).mono ?_
              rintro e w1 ⟨rfl, ho, hc⟩
              obtain ⟨s0, s1, s2, s3, s4, sA, sB, sC, sD, sE⟩ := HJ.out.s
              exact HK.out _ _ (HJ.out.turn HL.out (by omega) (by omega) (by omega) rfl ho ⟨ho.cell hob s0, ho.cell hob s1, ho.cell hob s2, ho.cell hob s3, ho.cell hob s4, sA.only ho hsb, sB.only ho hpb, sC.only sA.lt ho hsb, sD.only sB.lt ho hpb, sE.trans ho⟩ hc)
            · intro l vs wx hJ hl hd K hK
              simp [depsOf, AllL, Region.binds, List.filterMap] at hd
              have h6 : l 6 = true := by simp_all
              have e6 : vs 6 = .tuple #[.agg #[.int .i64 X, .int .u32 Y, .int .u32 Z], .int .i64 E] := hJ.v 6 (by omega) (by omega) h6
              simp only [Act.put, List.setIfInBounds_toArray, List.set_cons_zero, List.set_cons_succ, Nat.reduceAdd, e6] at hK ⊢
              have HK := Lib.hid hK
              have HJ := Lib.hid hJ
              clear hK hJ hd
              go_simp
              exact HK.out _ _ (HJ.out.value (by omega) (by omega) (by omega) rfl (Below.refl _ _) HJ.out.s id id)
            · intro l vs wx hJ hl hd K hK
              simp [depsOf, AllL, Region.binds, List.filterMap] at hd
              have h7 : l 7 = true := by simp_all
              have e7 : vs 7 = .tuple #[.agg #[.int .i64 X, .int .u32 Y, .int .u32 Z], .int .i64 E] := hJ.v 7 (by omega) (by omega) h7
              simp only [Act.put, List.setIfInBounds_toArray, List.set_cons_zero, List.set_cons_succ, Nat.reduceAdd, e7] at hK ⊢
              have HK := Lib.hid hK
              have HJ := Lib.hid hJ
              clear hK hJ hd
              go_simp
              exact HK.out _ _ (HJ.out.value (by omega) (by omega) (by omega) rfl (Below.refl _ _) HJ.out.s id id)
            · intro l vs wx hJ hl hd K hK
              simp [depsOf, AllL, Region.binds, List.filterMap] at hd
              have h7 : l 7 = true := by simp_all
              have e7 : vs 7 = .tuple #[.agg #[.int .i64 X, .int .u32 Y, .int .u32 Z], .int .i64 E] := hJ.v 7 (by omega) (by omega) h7
              simp only [Act.put, List.setIfInBounds_toArray, List.set_cons_zero, List.set_cons_succ, Nat.reduceAdd, e7] at hK ⊢
              have HK := Lib.hid hK
              have HJ := Lib.hid hJ
              clear hK hJ hd
              go_simp
              exact HK.out _ _ (HJ.out.value (by omega) (by omega) (by omega) rfl (Below.refl _ _) HJ.out.s id id)
            · intro l vs wx hJ hl hd K hK
              simp only [Act.put, List.setIfInBounds_toArray, List.set_cons_zero, List.set_cons_succ, Nat.reduceAdd] at hK ⊢
              have HK := Lib.hid hK
              have HJ := Lib.hid hJ
              have HL := Lib.hid hl
              clear hK hJ hd hl
              go_simp
              have hb := (Below.refl wx.heap.size wx).alloc (Nat.le_refl _) (.cells #[.int .i64 0, .int .u32 0, .int .u32 0] 26)
              obtain ⟨s0, s1, s2, s3, s4, sA, sB, sC, sD, sE⟩ := HJ.out.s
              exact HK.out _ _ (HJ.out.made (by omega) HL.out ⟨kept hb s0, kept hb s1, kept hb s2, kept hb s3, kept hb s4, sA.below hb, sB.below hb, sC.below sA.lt hb, sD.below sB.lt hb, sE.trans (Only.of_below hb)⟩ (fun h => h.below hb) (fun h => h.below hb))
            · intro l vs wx hJ hl hd K hK
              simp [depsOf, AllL, Region.binds, List.filterMap] at hd
              have h10 : l 10 = true := by simp_all
              have h8 : l 8 = true := by simp_all
              have h6 : l 6 = true := by simp_all
              have e8 : vs 8 = .agg #[.int .i64 X, .int .u32 Y, .int .u32 Z] := hJ.v 8 (by omega) (by omega) h8
              obtain ⟨n, e10, hNn, hnw, hRm⟩ := hJ.p h10
              obtain ⟨u0, r0⟩ := Option.isSome_iff_exists.1 (hRm 0 (by omega)).1
              obtain ⟨u1, r1⟩ := Option.isSome_iff_exists.1 (hRm 1 (by omega)).1
              obtain ⟨u2, r2⟩ := Option.isSome_iff_exists.1 (hRm 2 (by omega)).1
              have f0 := (hRm 0 (by omega)).2
              have f1 := (hRm 1 (by omega)).2
              have f2 := (hRm 2 (by omega)).2
              simp only [Act.put, Nat.reduceAdd, e8, e10] at hK ⊢
              have HK := Lib.hid hK
              have HJ := Lib.hid hJ
              have H10 := Lib.hid h10
              have H6 := Lib.hid h6
              have E10 := Lib.hid e10
              have HNn := Lib.hid hNn
              clear hK hJ hd e8 e10 h10 h8 h6 hl hNn hRm hnw
              go_simp
              obtain ⟨s0, s1, s2, s3, s4, sA, sB, sC, sD, sE⟩ := HJ.out.s
              have nO : n ≠ wr.heap.size := by have := HNn.out; omega
              have nO1 : n ≠ wr.heap.size + 1 := by have := HNn.out; omega
              have nP : n ≠ wn.heap.size := by have := HNn.out; omega
              have nb : n ≠ b := by have := HNn.out; omega
              exact HK.out undef _ (HJ.out.put (by omega) H10.out H6.out E10.out ⟨set3_cell nO s0, set3_cell nO s1, set3_cell nO s2, set3_cell nO s3, set3_cell nO s4, sA.s3 nO1, sB.s3 nP, sC.s3, sD.s3, ((sE.setCell (.inr (by have := HNn.out; exact Nat.le_trans (by omega) this)) _).setCell (.inr (by have := HNn.out; exact Nat.le_trans (by omega) this)) _).setCell (.inr (by have := HNn.out; exact Nat.le_trans (by omega) this)) _⟩ (fun h => h.set3 nb))
            · intro l vs wx hJ hl hd K hK
              simp [depsOf, AllL, Region.binds, List.filterMap] at hd
              have h9 : l 9 = true := by simp_all
              have e9 : vs 9 = .int .i64 E := hJ.v 9 (by omega) (by omega) h9
              simp only [Act.put, List.setIfInBounds_toArray, List.set_cons_zero, List.set_cons_succ, Nat.reduceAdd, e9] at hK ⊢
              have HK := Lib.hid hK
              have HJ := Lib.hid hJ
              clear hK hJ hd
              go_simp
              exact HK.out _ _ (HJ.out.value (by omega) (by omega) (by omega) rfl (Below.refl _ _) HJ.out.s id id)
          case hend =>
            intro l vs w3 hall hJ
            obtain ⟨n, e10, hNn, hnw, _⟩ := hJ.p (hall 10 (by decide))
            obtain ⟨t0, t1, t2⟩ := (hJ.h (hall 11 (by decide))).2.2 n e10
            have e0 : vs 0 = .pointer (some ⟨b, 0, none⟩) := hJ.v 0 (by omega) (by omega) (hall 0 (by decide))
            have e1 : vs 1 = .pointer (some ⟨wr.heap.size, 1, none⟩) := hJ.v 1 (by omega) (by omega) (hall 1 (by decide))
            have e2 : vs 2 = .int .i64 ph := hJ.v 2 (by omega) (by omega) (hall 2 (by decide))
            have e3 : vs 3 = .pointer (some ⟨wr.heap.size, 2, none⟩) := hJ.v 3 (by omega) (by omega) (hall 3 (by decide))
            have e4 : vs 4 = .agg #[.int .i64 iw, .int .u32 it, .int .u32 im] := hJ.v 4 (by omega) (by omega) (hall 4 (by decide))
            have e5 : vs 5 = .agg #[.int .i64 iw, .int .u32 it, .int .u32 im] := hJ.v 5 (by omega) (by omega) (hall 5 (by decide))
            have e6 : vs 6 = .tuple #[.agg #[.int .i64 X, .int .u32 Y, .int .u32 Z], .int .i64 E] := hJ.v 6 (by omega) (by omega) (hall 6 (by decide))
            have e7 : vs 7 = .tuple #[.agg #[.int .i64 X, .int .u32 Y, .int .u32 Z], .int .i64 E] := hJ.v 7 (by omega) (by omega) (hall 7 (by decide))
            have e8 : vs 8 = .agg #[.int .i64 X, .int .u32 Y, .int .u32 Z] := hJ.v 8 (by omega) (by omega) (hall 8 (by decide))
            have e9 : vs 9 = .int .i64 E := hJ.v 9 (by omega) (by omega) (hall 9 (by decide))
            have e12 : vs 12 = .int .i64 E := hJ.v 12 (by omega) (by omega) (hall 12 (by decide))
            have HC3 := Lib.hid (hJ.s1 (hall 6 (by decide)))
            obtain ⟨s0, s1, s2, s3, s4, sA, sB, sC, sD, sE⟩ := hJ.s
            have u3 := sB.lt
            have h3 := sA.lt
            have HO3 := Lib.hid sE
            have HM := Lib.hid sA
            have HK3 := Lib.hid sB
            have HFM := Lib.hid sC
            have HF3 := Lib.hid sD
            have HT3 := Lib.hid (show St3 w3 n X Y Z from ⟨t0, t1, t2⟩)
            have ⟨n0, n1, n2, n3, n4, n5⟩ := sB
            simp only [e0, e1, e2, e3, e4, e5, e6, e7, e8, e9, e10, e12]
            clear hJ hall e0 e1 e2 e3 e4 e5 e6 e7 e8 e9 e10 e12 sA sB sC sD sE HK HF HC HF1 HA1 o0 o1 o2 o3 o4
            go_wp2_with fail
            refine (HR.out _).mono ?_
            rintro e w4 ⟨rfl, lb⟩
            have u4 := lb.size
            have HC4 := Lib.hid (HC3.out.below lb)
            have HO4 := Lib.hid (HO3.out.trans (Only.of_below (b := b) lb))
            have HM4 := Lib.hid (HM.out.below lb)
            have HFM4 := Lib.hid (HFM.out.below h3 lb)
            have HK4 := Lib.hid (HK3.out.below lb)
            have HF4 := Lib.hid (HF3.out.below u3 lb)
            obtain ⟨t0, t1, t2⟩ := HT3.out.below lb
            have fm : Free w4 (wr.heap.size + 1) := HFM4.out
            have fp : Free w4 (wn.heap.size) := HF4.out
            have ⟨p0, p1, p2⟩ := HM4.out
            have ⟨n0', n1', n2', n3', n4', n5'⟩ := HK4.out
            have y0 := fm 0
            have y1 := fm 1
            have y2 := fm 2
            have x0 := fp 0
            have x1 := fp 1
            have x2 := fp 2
            have x3 := fp 3
            have x4 := fp 4
            have x5 := fp 5
            clear lb fm fp n0 n1 n2 n3 n4 n5 s0 s1 s2 s3 s4 HC3 HO3 HM HFM HK3 HF3 HT3
            go_wp2_with fail
            generalize hW : (World.setCell _ _ _ : World) = W'
            have hWs : W' = set6 (set3 w4 (wr.heap.size + 1) (.int .i64 X) (.int .u32 Y) (.int .u32 Z)) (wn.heap.size) lw' lt' off up mk := hW.symm
            have hne : wr.heap.size + 1 ≠ n := by omega
            have hne2 : wn.heap.size ≠ n := by omega
            have hne3 : wr.heap.size + 1 ≠ wn.heap.size := by omega
            have hne4 : wn.heap.size ≠ wr.heap.size + 1 := by omega
            have r0 : St3 W' (n) X Y Z := hWs ▸ ((show St3 w4 (n) X Y Z from ⟨t0, t1, t2⟩).s3 hne).s6 hne2
            have r1 : St3 W' (wr.heap.size + 1) X Y Z := hWs ▸ (HM4.out.put).s6 hne4
            have rK : Ck6 W' (wn.heap.size) lw' lt' off up mk := hWs ▸ (HK4.out.s3 hne3).put
            have rC : Clk W' b off up mk lw' lt' := hWs ▸ (HC4.out.set3 hsb).s6 hpb
            have rF : Free W' (wn.heap.size) := hWs ▸ (HF4.out.s3).s6
            have rO : Below w.heap.size w W' := hWs ▸ set6_below (set3_below (HB.out.trans (HO4.out.below HBW.out HB.out.size)) (by omega)) hpw
            have q7 : n < W'.heap.size := r0.lt
            have q8 : wr.heap.size + 1 < W'.heap.size := by omega
            obtain ⟨t0, t1, t2⟩ := r0
            obtain ⟨p0, p1, p2⟩ := r1
            clear hW hWs HC4 HO4 HM4 HFM4 HK4 HF4 y0 y1 y2 x0 x1 x2 x3 x4 x5
            apply region_vals (fun w' => w'.cell? ⟨n, 0, none⟩ = some (.int .i64 X) ∧ w'.cell? ⟨n, 1, none⟩ = some (.int .u32 Y) ∧ w'.cell? ⟨n, 2, none⟩ = some (.int .u32 Z) ∧ w'.cell? ⟨wr.heap.size + 1, 0, none⟩ = some (.int .i64 X) ∧ w'.cell? ⟨wr.heap.size + 1, 1, none⟩ = some (.int .u32 Y) ∧ w'.cell? ⟨wr.heap.size + 1, 2, none⟩ = some (.int .u32 Z) ∧ Clk w' b off up mk lw' lt' ∧ Ck6 w' (wn.heap.size) lw' lt' off up mk ∧ Free w' (wn.heap.size) ∧ Below w.heap.size w w') [.agg #[.int .i64 X, .int .u32 Y, .int .u32 Z], .agg #[.int .i64 X, .int .u32 Y, .int .u32 Z], .agg #[.int .i64 X, .int .u32 Y, .int .u32 Z], .bool false, .bool false, .int .i64 E, .int .i64 E, .bool false, .bool false]
            case hm => kernel_rfl
            case hf => kernel_rfl
            case hQ => exact (by intro c x y w e h; exact And.intro (e.symm.trans (And.left h)) (And.right h))
            case hF => simp only [putAll, Act.put, List.setIfInBounds_toArray, List.set_cons_zero, List.set_cons_succ, Nat.reduceAdd, List.getD_cons_zero, List.getD_cons_succ]; rfl
            case h0 => (((try dsimp only); go_split_ands; (repeat' with_reducible apply And.intro) <;> first | assumption | (with_reducible apply keptD; with_reducible assumption) | (with_reducible apply Clk.drew; with_reducible assumption) | (with_reducible apply Ck6.drew; with_reducible assumption) | (with_reducible apply Free.drew; with_reducible assumption) | (with_reducible apply Below.drew; with_reducible assumption) | (apply kept; assumption; with_reducible assumption) | (apply Clk.keep; assumption; with_reducible assumption) | (apply Ck6.keep; assumption; with_reducible assumption) | (apply Free.keep; assumption; with_reducible assumption; with_reducible assumption) | (apply Free.keep6; assumption; with_reducible assumption; with_reducible assumption) | (apply bkeep; assumption; with_reducible assumption)))
            case hstep =>
              repeat' (first | exact AllOps.nil | apply AllOps.cons)
              all_goals
                intro wx hS K hK
                simp only [Act.put, List.setIfInBounds_toArray, List.set_cons_zero, List.set_cons_succ, Nat.reduceAdd, List.getD_cons_zero, List.getD_cons_succ] at hK ⊢
                have HK := Lib.hid hK
                have HS := Lib.hid hS
                clear hK
                go_split_ands
                first
                  | (go_simp; (first | (refine HK.out _ _ ?_ ?_; (first | rfl | fail); exact HS.out) | (go_at_call 18; refine (from_any _ _ _ _).mono ?_; rintro e w1 ⟨rfl, hb⟩; refine HK.out _ _ ?_ ?_; (first | rfl | fail); (((try dsimp only); go_split_ands; (repeat' with_reducible apply And.intro) <;> first | assumption | (with_reducible apply keptD; with_reducible assumption) | (with_reducible apply Clk.drew; with_reducible assumption) | (with_reducible apply Ck6.drew; with_reducible assumption) | (with_reducible apply Free.drew; with_reducible assumption) | (with_reducible apply Below.drew; with_reducible assumption) | (apply kept; assumption; with_reducible assumption) | (apply Clk.keep; assumption; with_reducible assumption) | (apply Ck6.keep; assumption; with_reducible assumption) | (apply Free.keep; assumption; with_reducible assumption; with_reducible assumption) | (apply Free.keep6; assumption; with_reducible assumption; with_reducible assumption) | (apply bkeep; assumption; with_reducible assumption)))) | fail))
            case hend =>
              intro wx hS
              go_split_ands
              rename_i e0 e1 e2 e3 e4 e5 eC eK eF eB
              have ⟨u0, u1, u2, u3, u4, u5⟩ := eK
              go_wp2_with fail
              apply region_vals (fun w' => w'.cell? ⟨wn.heap.size, 0, none⟩ = some (.int .i64 lw') ∧ w'.cell? ⟨wn.heap.size, 1, none⟩ = some (.int .u32 lt') ∧ w'.cell? ⟨wn.heap.size, 2, none⟩ = some (.int .u32 0) ∧ w'.cell? ⟨wn.heap.size, 3, none⟩ = some (.int .i64 off) ∧ w'.cell? ⟨wn.heap.size, 4, none⟩ = some (.int .i64 up) ∧ w'.cell? ⟨wn.heap.size, 5, none⟩ = some (.int .u32 mk) ∧ Clk w' b off up mk lw' lt' ∧ Free w' (wn.heap.size) ∧ Below w.heap.size w w') [.pointer (some ⟨b, 0, none⟩), .int .i64 up, .pointer (some ⟨wn.heap.size, 4, none⟩), .int .i64 up, .bool false, .bool false, .pointer (some ⟨b, 0, none⟩), .agg #[.int .i64 lw', .int .u32 lt', .int .u32 0], .agg #[.int .i64 lw', .int .u32 lt', .int .u32 0], .pointer (some ⟨wn.heap.size, 0, none⟩), .agg #[.int .i64 lw', .int .u32 lt', .int .u32 0], .bool false, .bool false]
              case hm => kernel_rfl
              case hf => kernel_rfl
              case hQ => exact (by intro c x y w e h; exact And.intro (e.symm.trans (And.left h)) (And.right h))
              case hF => simp only [putAll, Act.put, List.setIfInBounds_toArray, List.set_cons_zero, List.set_cons_succ, Nat.reduceAdd, List.getD_cons_zero, List.getD_cons_succ]; rfl
              case h0 => (((try dsimp only); go_split_ands; (repeat' with_reducible apply And.intro) <;> first | assumption | (with_reducible apply keptD; with_reducible assumption) | (with_reducible apply Clk.drew; with_reducible assumption) | (with_reducible apply Ck6.drew; with_reducible assumption) | (with_reducible apply Free.drew; with_reducible assumption) | (with_reducible apply Below.drew; with_reducible assumption) | (apply kept; assumption; with_reducible assumption) | (apply Clk.keep; assumption; with_reducible assumption) | (apply Ck6.keep; assumption; with_reducible assumption) | (apply Free.keep; assumption; with_reducible assumption; with_reducible assumption) | (apply Free.keep6; assumption; with_reducible assumption; with_reducible assumption) | (apply bkeep; assumption; with_reducible assumption)))
              case hstep =>
                repeat' (first | exact AllOps.nil | apply AllOps.cons)
                all_goals
                  intro wx hS K hK
                  simp only [Act.put, List.setIfInBounds_toArray, List.set_cons_zero, List.set_cons_succ, Nat.reduceAdd, List.getD_cons_zero, List.getD_cons_succ] at hK ⊢
                  have HK := Lib.hid hK
                  have HS := Lib.hid hS
                  clear hK
                  go_split_ands
                  first
                    | (go_simp; (first | (refine HK.out _ _ ?_ ?_; (first | rfl | fail); exact HS.out) | (go_at_call 31; refine (upper_below _ _ _ _ _ _ _ (by assumption)).mono ?_; rintro e w1 ⟨rfl, hb⟩; refine HK.out _ _ ?_ ?_; (first | rfl | fail); (((try dsimp only); go_split_ands; (repeat' with_reducible apply And.intro) <;> first | assumption | (with_reducible apply keptD; with_reducible assumption) | (with_reducible apply Clk.drew; with_reducible assumption) | (with_reducible apply Ck6.drew; with_reducible assumption) | (with_reducible apply Free.drew; with_reducible assumption) | (with_reducible apply Below.drew; with_reducible assumption) | (apply kept; assumption; with_reducible assumption) | (apply Clk.keep; assumption; with_reducible assumption) | (apply Ck6.keep; assumption; with_reducible assumption) | (apply Free.keep; assumption; with_reducible assumption; with_reducible assumption) | (apply Free.keep6; assumption; with_reducible assumption; with_reducible assumption) | (apply bkeep; assumption; with_reducible assumption)))) | (go_at_call 32; refine (clast_any _ _ _ _ _ _ _ (by assumption)).mono ?_; rintro e w1 ⟨rfl, hb⟩; refine HK.out _ _ ?_ ?_; (first | rfl | fail); (((try dsimp only); go_split_ands; (repeat' with_reducible apply And.intro) <;> first | assumption | (with_reducible apply keptD; with_reducible assumption) | (with_reducible apply Clk.drew; with_reducible assumption) | (with_reducible apply Ck6.drew; with_reducible assumption) | (with_reducible apply Free.drew; with_reducible assumption) | (with_reducible apply Below.drew; with_reducible assumption) | (apply kept; assumption; with_reducible assumption) | (apply Clk.keep; assumption; with_reducible assumption) | (apply Ck6.keep; assumption; with_reducible assumption) | (apply Free.keep; assumption; with_reducible assumption; with_reducible assumption) | (apply Free.keep6; assumption; with_reducible assumption; with_reducible assumption) | (apply bkeep; assumption; with_reducible assumption)))) | (go_at_call 18; refine (from_any _ _ _ _).mono ?_; rintro e w1 ⟨rfl, hb⟩; refine HK.out _ _ ?_ ?_; (first | rfl | fail); (((try dsimp only); go_split_ands; (repeat' with_reducible apply And.intro) <;> first | assumption | (with_reducible apply keptD; with_reducible assumption) | (with_reducible apply Clk.drew; with_reducible assumption) | (with_reducible apply Ck6.drew; with_reducible assumption) | (with_reducible apply Free.drew; with_reducible assumption) | (with_reducible apply Below.drew; with_reducible assumption) | (apply kept; assumption; with_reducible assumption) | (apply Clk.keep; assumption; with_reducible assumption) | (apply Ck6.keep; assumption; with_reducible assumption) | (apply Free.keep; assumption; with_reducible assumption; with_reducible assumption) | (apply Free.keep6; assumption; with_reducible assumption; with_reducible assumption) | (apply bkeep; assumption; with_reducible assumption)))) | fail))
              case hend =>
                intro wx hS
                go_split_ands
                rename_i e0 e1 e2 e3 e4 e5 eC eF eB
                go_wp2
                go_roundw
                case rel => exact ⟨k + 1, up, lw', lt', by omega, by go_num, eC, ⟨by omega, by omega⟩, ⟨by omega, by omega⟩, ⟨by omega, by omega⟩, ⟨e0, e1, e2, e3, e4, e5⟩, eF, hpw, hbp, eB⟩
                case measure => simp [intOf]; omega
        · have k1' : (kd == 1) = false := by simpa using k1
          clear k1
          obtain ⟨E, up', hu', hN, hR⟩ := raise_pair b off up mk lw lt ph hu.1 hu.2
          have HN := Lib.hid hN
          have HR := Lib.hid hR
          have ⟨n0, n1, n2, n3, n4, n5⟩ := HK.out
          clear hN hR
          go_wp2_with fail
          refine (HR.out _).mono ?_
          rintro e w3 ⟨rfl, lb⟩
          have u4 := lb.size
          (try simp at u4)
          have hA1 : Below wr.heap.size wr w3 := via lb (((Below.refl wr.heap.size wr).alloc (Nat.le_refl _) _).alloc (by simp) _) (by simp; omega)
          have g1 : w3.cell? ⟨wr.heap.size, 1, none⟩ = some (.int .i64 ph) := kept lb (by simp)
          have HC3 := Lib.hid (HC.out.below hA1)
          have HK3 := Lib.hid (HK.out.below hA1)
          have HF3 := Lib.hid (HF.out.below hpr hA1)
          have HB3 := Lib.hid (via hA1 HB.out HB.out.size)
          have fp : Free w3 (wn.heap.size) := HF3.out
          have ⟨n0', n1', n2', n3', n4', n5'⟩ := HK3.out
          have x0 := fp 0
          have x1 := fp 1
          have x2 := fp 2
          have x3 := fp 3
          have x4 := fp 4
          have x5 := fp 5
          clear lb fp hA1 n0 n1 n2 n3 n4 n5 o0 o1 o2 o3 o4
          go_wp2_with fail
          generalize hV : (World.setCell _ _ _ : World) = V
          have hVs : V = set6 w3 (wn.heap.size) lw lt off up' mk := hV.symm
          have rC : Clk V b off up mk lw lt := hVs ▸ HC3.out.s6 hpb
          have rK : Ck6 V (wn.heap.size) lw lt off up' mk := hVs ▸ HK3.out.put
          have rF : Free V (wn.heap.size) := hVs ▸ HF3.out.s6
          have rB : Below w.heap.size w V := hVs ▸ set6_below HB3.out hpw
          clear hV hVs HC3 HK3 HF3 HB3 x0 x1 x2 x3 x4 x5 n0' n1' n2' n3' n4' n5'
          refine (HN.out _ rC).mono ?_
          rintro e w4 ⟨rfl, ho, eC⟩
          have eK := rK.only ho hpb
          have eF := rF.only rK.lt ho hpb
          have eB : Below w.heap.size w w4 := rB.trans (ho.below HBW.out rB.size)
          clear ho rC rK rF rB
          have ⟨u0, u1, u2, u3, u4, u5⟩ := eK
          go_wp2_with fail
          apply region_vals (fun w' => w'.cell? ⟨wn.heap.size, 0, none⟩ = some (.int .i64 lw) ∧ w'.cell? ⟨wn.heap.size, 1, none⟩ = some (.int .u32 lt) ∧ w'.cell? ⟨wn.heap.size, 2, none⟩ = some (.int .u32 0) ∧ w'.cell? ⟨wn.heap.size, 3, none⟩ = some (.int .i64 off) ∧ w'.cell? ⟨wn.heap.size, 4, none⟩ = some (.int .i64 up') ∧ w'.cell? ⟨wn.heap.size, 5, none⟩ = some (.int .u32 mk) ∧ Clk w' b off up' mk lw lt ∧ Free w' (wn.heap.size) ∧ Below w.heap.size w w') [.pointer (some ⟨b, 0, none⟩), .int .i64 up', .pointer (some ⟨wn.heap.size, 4, none⟩), .int .i64 up', .bool false, .bool false, .pointer (some ⟨b, 0, none⟩), .agg #[.int .i64 lw, .int .u32 lt, .int .u32 0], .agg #[.int .i64 lw, .int .u32 lt, .int .u32 0], .pointer (some ⟨wn.heap.size, 0, none⟩), .agg #[.int .i64 lw, .int .u32 lt, .int .u32 0], .bool false, .bool false]
          case hm => kernel_rfl
          case hf => kernel_rfl
          case hQ => exact (by intro c x y w e h; exact And.intro (e.symm.trans (And.left h)) (And.right h))
          case hF => simp only [putAll, Act.put, List.setIfInBounds_toArray, List.set_cons_zero, List.set_cons_succ, Nat.reduceAdd, List.getD_cons_zero, List.getD_cons_succ]; rfl
          case h0 => (((try dsimp only); go_split_ands; (repeat' with_reducible apply And.intro) <;> first | assumption | (with_reducible apply keptD; with_reducible assumption) | (with_reducible apply Clk.drew; with_reducible assumption) | (with_reducible apply Ck6.drew; with_reducible assumption) | (with_reducible apply Free.drew; with_reducible assumption) | (with_reducible apply Below.drew; with_reducible assumption) | (apply kept; assumption; with_reducible assumption) | (apply Clk.keep; assumption; with_reducible assumption) | (apply Ck6.keep; assumption; with_reducible assumption) | (apply Free.keep; assumption; with_reducible assumption; with_reducible assumption) | (apply Free.keep6; assumption; with_reducible assumption; with_reducible assumption) | (apply bkeep; assumption; with_reducible assumption)))
          case hstep =>
            repeat' (first | exact AllOps.nil | apply AllOps.cons)
            all_goals
              intro wx hS K hK
              simp only [Act.put, List.setIfInBounds_toArray, List.set_cons_zero, List.set_cons_succ, Nat.reduceAdd, List.getD_cons_zero, List.getD_cons_succ] at hK ⊢
              have HK := Lib.hid hK
              have HS := Lib.hid hS
              clear hK
              go_split_ands
              first
                | (go_simp; (first | (refine HK.out _ _ ?_ ?_; (first | rfl | fail); exact HS.out) | (go_at_call 31; refine (upper_below _ _ _ _ _ _ _ (by assumption)).mono ?_; rintro e w1 ⟨rfl, hb⟩; refine HK.out _ _ ?_ ?_; (first | rfl | fail); (((try dsimp only); go_split_ands; (repeat' with_reducible apply And.intro) <;> first | assumption | (with_reducible apply keptD; with_reducible assumption) | (with_reducible apply Clk.drew; with_reducible assumption) | (with_reducible apply Ck6.drew; with_reducible assumption) | (with_reducible apply Free.drew; with_reducible assumption) | (with_reducible apply Below.drew; with_reducible assumption) | (apply kept; assumption; with_reducible assumption) | (apply Clk.keep; assumption; with_reducible assumption) | (apply Ck6.keep; assumption; with_reducible assumption) | (apply Free.keep; assumption; with_reducible assumption; with_reducible assumption) | (apply Free.keep6; assumption; with_reducible assumption; with_reducible assumption) | (apply bkeep; assumption; with_reducible assumption)))) | (go_at_call 32; refine (clast_any _ _ _ _ _ _ _ (by assumption)).mono ?_; rintro e w1 ⟨rfl, hb⟩; refine HK.out _ _ ?_ ?_; (first | rfl | fail); (((try dsimp only); go_split_ands; (repeat' with_reducible apply And.intro) <;> first | assumption | (with_reducible apply keptD; with_reducible assumption) | (with_reducible apply Clk.drew; with_reducible assumption) | (with_reducible apply Ck6.drew; with_reducible assumption) | (with_reducible apply Free.drew; with_reducible assumption) | (with_reducible apply Below.drew; with_reducible assumption) | (apply kept; assumption; with_reducible assumption) | (apply Clk.keep; assumption; with_reducible assumption) | (apply Ck6.keep; assumption; with_reducible assumption) | (apply Free.keep; assumption; with_reducible assumption; with_reducible assumption) | (apply Free.keep6; assumption; with_reducible assumption; with_reducible assumption) | (apply bkeep; assumption; with_reducible assumption)))) | (go_at_call 18; refine (from_any _ _ _ _).mono ?_; rintro e w1 ⟨rfl, hb⟩; refine HK.out _ _ ?_ ?_; (first | rfl | fail); (((try dsimp only); go_split_ands; (repeat' with_reducible apply And.intro) <;> first | assumption | (with_reducible apply keptD; with_reducible assumption) | (with_reducible apply Clk.drew; with_reducible assumption) | (with_reducible apply Ck6.drew; with_reducible assumption) | (with_reducible apply Free.drew; with_reducible assumption) | (with_reducible apply Below.drew; with_reducible assumption) | (apply kept; assumption; with_reducible assumption) | (apply Clk.keep; assumption; with_reducible assumption) | (apply Ck6.keep; assumption; with_reducible assumption) | (apply Free.keep; assumption; with_reducible assumption; with_reducible assumption) | (apply Free.keep6; assumption; with_reducible assumption; with_reducible assumption) | (apply bkeep; assumption; with_reducible assumption)))) | fail))
          case hend =>
            intro wx hS
            go_split_ands
            rename_i e0 e1 e2 e3 e4 e5 eC eF eB
            go_wp2
            go_roundw
            case rel => exact ⟨k + 1, up', lw, lt, by omega, by go_num, eC, ⟨by omega, by omega⟩, ⟨by omega, by omega⟩, ⟨by omega, by omega⟩, ⟨e0, e1, e2, e3, e4, e5⟩, eF, hpw, hbp, eB⟩
            case measure => simp [intOf]; omega
    · go_wp2
      go_ret
      exact ⟨rfl, HB.out⟩

end Go.Proofs.Yteibigiehpkdjaa
