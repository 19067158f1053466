/- ClockRestarts: two clocks, one behind the other. -/
import Derived.Test.YteibigiehpkdjaaGiven
import Derived.Test.YteibigiehpkdjaaRegion
namespace Go.Proofs.Yteibigiehpkdjaa
open Go.RowKit


theorem OpAt.below {w w' : World} {b o : Nat} (h : OpAt w b o) (hb : Below w.heap.size w w') : OpAt w' b o := by
  obtain ⟨k, ph, x, y, z, h1, h2, h3, h4, h5, c0, c1, c2, c3, c4⟩ := h
  exact ⟨k, ph, x, y, z, h1, h2, h3, h4, h5, kept hb c0, kept hb c1, kept hb c2, kept hb c3, kept hb c4⟩

/-- Steps in memory. -/
def OpsIn (w : World) (p : Option Addr) (len : Nat) : Prop := ∀ i, i < len → ∃ b o, p = some ⟨b, o, none⟩ ∧ OpAt w b (o + i * 5)

/-- The first clock's rounds. -/
def R1 (w : World) (b pw len : Nat) (off : Int) (hd i : Value) (wr : World) : Prop :=
  ∃ (k : Nat) (h : Bool) (up lw lt wa wb wm : Int), k ≤ len ∧ i = .int .i64 k ∧ hd = .bool h ∧ Clk wr b off up 1 lw lt ∧ (0 ≤ lt ∧ lt ≤ 4294967295) ∧ (0 ≤ up ∧ up ≤ 4611686018427387904) ∧ (0 ≤ wb ∧ wb ≤ 4294967295) ∧ (h = true → wa ≤ up) ∧
    wr.cell? ⟨pw, 0, none⟩ = some (.int .i64 wa) ∧ wr.cell? ⟨pw, 1, none⟩ = some (.int .u32 wb) ∧ wr.cell? ⟨pw, 2, none⟩ = some (.int .u32 wm) ∧ (∀ j, wr.frozen? ⟨pw, j, none⟩ = false) ∧ Below w.heap.size w wr

/-- The second clock's rounds. -/
def R2 (w : World) (b pw len : Nat) (off mk U wa wb wm : Int) (i : Value) (wr : World) : Prop :=
  ∃ (k : Nat) (up lw lt : Int), k ≤ len ∧ i = .int .i64 k ∧ Clk wr b off up mk lw lt ∧ (0 ≤ lt ∧ lt ≤ 4294967295) ∧ up ≤ 4611686018427387904 ∧ (U < lw ∨ U = lw ∧ lt = 4294967295) ∧
    wr.cell? ⟨pw, 0, none⟩ = some (.int .i64 wa) ∧ wr.cell? ⟨pw, 1, none⟩ = some (.int .u32 wb) ∧ wr.cell? ⟨pw, 2, none⟩ = some (.int .u32 wm) ∧ Below w.heap.size w wr

set_option maxRecDepth 100000 in
set_option maxHeartbeats 4000000 in
theorem restarts_loops (off up0 mk : Int) (hm0 : 0 ≤ mk) (hm1 : mk ≤ 4294967295) (hok : newOk off up0 = true) (p1 p2 : Option Addr) (len1 cap1 len2 cap2 : Nat) (w : World) (hl1 : len1 ≤ cap1) (hc1 : cap1 ≤ 9223372036854775807) (hl2 : len2 ≤ cap2) (hc2 : cap2 ≤ 9223372036854775807) (h1 : OpsIn w p1 len1) (h2 : OpsIn w p2 len2) :
    Calls Try.prog 9 #[.int .i64 off, .int .i64 up0, .slice p1 len1 cap1, .slice p2 len2 cap2, .int .u32 mk] w fun e w' => e = .returned (.bool true) ∧ Below w.heap.size w w' := by
  have H1 := Lib.hid h1
  have H2 := Lib.hid h2
  have hok' : 0 ≤ off ∧ off ≤ 1099511627776 ∧ 0 ≤ up0 ∧ up0 ≤ 4611686018427387904 := by simpa [newOk] using hok
  have HOK := Lib.hid hok'
  clear h1 h2 hok'
  go_enter Try.func9, Try.ntmps9
  go_wp2_with fail
  refine (new_yes off up0 1 hok _).mono ?_
  rintro e w1 ⟨b, rfl, hb1, lB1, hk1⟩
  have HK1 := Lib.hid hk1
  have HB1 := Lib.hid lB1
  have z1 := lB1.size
  clear hk1 lB1
  go_wp2_with fail
  refine (awake_any _).mono ?_
  rintro e w2 ⟨rfl, lB2⟩
  have HK2 := Lib.hid (HK1.out.below lB2)
  have HB2 := Lib.hid (HB1.out.trans (lB2.mono z1))
  have z2 := lB2.size
  clear lB2
  go_wp2_with fail
  have HBP := Lib.hid (show b < w2.heap.size from HK2.out.lt)
  have HBW := Lib.hid hb1
  go_loopw [14, 45] (fun hd i wr => R1 w b w2.heap.size len1 off hd i wr) (fun _ i _ => len1 - (intOf i).toNat)
  case atStart =>
    have hk2 := HK2.out.below ((Below.refl w2.heap.size w2).alloc (Nat.le_refl _) (.cells #[.int .i64 0, .int .u32 0, .int .u32 0] 26))
    refine ⟨0, false, up0, up0, 4294967295, 0, 0, 0, Nat.zero_le _, rfl, rfl, hk2, ⟨by decide, by decide⟩, HOK.out.2.2, ⟨by decide, by decide⟩, (fun h => by cases h), by simp, by simp, by simp, (fun j => by simp), ?_⟩
    exact HB2.out.alloc (by have := HB2.out.size; omega) _
  case round =>
    obtain ⟨k, h, up, lw, lt, wa, wb, wm, hk, rfl, rfl, hC, ⟨l0, l1⟩, ⟨u0, u1⟩, ⟨v0, v1⟩, hw, p0, p1', p2', pf, hB⟩ := hrel
    have HC := Lib.hid hC
    have HW := Lib.hid hw
    clear hC hw
    have hpr : w2.heap.size < wr.heap.size := World.block_lt_of_cell? wr _ p0
    have hwr := hB.size
    have hbp : w2.heap.size ≠ b := Ne.symm (by have := HBP.out; omega)
    by_cases hlt : k < len1
    · obtain ⟨bo, oo, rfl, hop⟩ := H1.out k hlt
      obtain ⟨kd, ph, iw, it, im, ⟨kd0, kd1⟩, ⟨ph0, ph1⟩, ⟨iw0, iw1⟩, ⟨it0, it1⟩, ⟨im0, im1⟩, o0, o1, o2, o3, o4⟩ := hop.below hB
      have hkc : k < cap1 := by omega
      have hbr := HC.out.lt
      go_wp2_with fail
      refine (given_any b off up 1 lw lt kd ph iw it im l0 l1 u1 it0 it1 im0 im1 _ (HC.out.below ((Below.refl wr.heap.size wr).alloc (Nat.le_refl _) _))).mono ?_
      rintro e w3 ⟨X, Y, Z, E, up', lw', lt', rfl, ⟨⟨y0, y1⟩, uu, uu1, hcase⟩, ho, hc3⟩
      have HC3 := Lib.hid hc3
      have oB : Only b wr w3 := ((Only.refl b wr).alloc _).trans ho
      have q0 : w3.cell? ⟨w2.heap.size, 0, none⟩ = some (.int .i64 wa) := oB.cell hbp p0
      have q1 : w3.cell? ⟨w2.heap.size, 1, none⟩ = some (.int .u32 wb) := oB.cell hbp p1'
      have q2 : w3.cell? ⟨w2.heap.size, 2, none⟩ = some (.int .u32 wm) := oB.cell hbp p2'
      have qf : ∀ j, w3.frozen? ⟨w2.heap.size, j, none⟩ = false := fun j => oB.frz hbp hpr (pf j)
      have f0 := qf 0
      have f1 := qf 1
      have f2 := qf 2
      have hp3 : w2.heap.size < w3.heap.size := World.block_lt_of_cell? w3 _ q0
      have hb3 := HC3.out.lt
      have HQ := Lib.hid qf
      have lBw := Lib.hid (hB.trans (oB.below HBW.out hwr))
      have hz3 := lBw.out.size
      clear qf ho hc3 p0 p1' p2' o0 o1 o2 o3 o4 pf oB hB hop
      rcases hcase with ⟨rfl, hX, hY, hZ, hU, hAu, hlex⟩ | ⟨hE, hX, hY, hZ, hU, hV⟩
      · obtain rfl := hX.symm
        obtain rfl := hY.symm
        obtain rfl := hZ.symm
        obtain rfl := hU.symm
        clear hlex
        go_wp2
        go_roundw
        case rel =>
          have t0 := (Below.refl (set3 w3 w2.heap.size (.int .i64 lw') (.int .u32 lt') (.int .u32 1)).heap.size (set3 w3 w2.heap.size (.int .i64 lw') (.int .u32 lt') (.int .u32 1))).alloc (Nat.le_refl _) (.cells #[.int .i64 lw', .int .u32 lt', .int .u32 1] 26)
          have t1 : Below w.heap.size w (set3 w3 w2.heap.size (.int .i64 lw') (.int .u32 lt') (.int .u32 1)) := set3_below lBw.out (by have := HB2.out.size; omega)
          exact ⟨k + 1, true, up, lw', lt', lw', lt', 1, by omega, by go_num, rfl, (HC3.out.set3 hbp).below t0, ⟨y0, y1⟩, ⟨u0, u1⟩, ⟨y0, y1⟩, (fun _ => hAu), kept t0 (set3_at0 q0), kept t0 (set3_at1 q1), kept t0 (set3_at2 q2), frz_below t0 (set3_at0 q0) (fun j => set3_frozen (HQ.out j)), t1.alloc t1.size _⟩
        case measure => simp [intOf]; omega
      · have hE1 : (E == 0) = false := by simpa using hE
        obtain rfl := hX.symm
        obtain rfl := hY.symm
        obtain rfl := hZ.symm
        obtain rfl := hU.symm
        obtain rfl := hV.symm
        clear hE
        go_wp2
        go_roundw
        case rel =>
          have t0 := (Below.refl w3.heap.size w3).alloc (Nat.le_refl _) (.cells #[.int .i64 0, .int .u32 0, .int .u32 0] 26)
          exact ⟨k + 1, h, up', lw, lt, wa, wb, wm, by omega, by go_num, rfl, HC3.out.below t0, ⟨l0, l1⟩, ⟨by omega, uu1⟩, ⟨v0, v1⟩, (fun hh => by have := HW.out hh; omega), kept t0 q0, kept t0 q1, kept t0 q2, frz_below t0 q0 HQ.out, lBw.out.alloc lBw.out.size _⟩
        case measure => simp [intOf]; omega
    · have hbr := HC.out.lt
      have HB := Lib.hid hB
      have HF := Lib.hid pf
      clear pf hB
      go_wp2_with fail
      refine (upper_any b off up 1 lw lt _ HC.out).mono ?_
      rintro e w3 ⟨rfl, rfl⟩
      go_wp2_with fail
      refine (new_yes off up mk (by simp [newOk]; have := HOK.out; omega) _).mono ?_
      rintro e w4 ⟨b2, rfl, hb2, lB4, hk4⟩
      have q0 : w4.cell? ⟨w2.heap.size, 0, none⟩ = some (.int .i64 wa) := kept lB4 p0
      have q1 : w4.cell? ⟨w2.heap.size, 1, none⟩ = some (.int .u32 wb) := kept lB4 p1'
      have q2 : w4.cell? ⟨w2.heap.size, 2, none⟩ = some (.int .u32 wm) := kept lB4 p2'
      have HB4 := Lib.hid (via lB4 HB.out HB.out.size)
      have HK4 := Lib.hid hk4
      have hbp2 : w2.heap.size ≠ b2 := by omega
      clear p0 p1' p2' lB4 hk4
      go_wp2_with fail
      go_loopw [76] (fun i wx => R2 w b2 w2.heap.size len2 off mk up wa wb wm i wx) (fun i _ => len2 - (intOf i).toNat)
      case atStart => exact ⟨0, up, up, 4294967295, Nat.zero_le _, rfl, HK4.out, ⟨by decide, by decide⟩, u1, .inr ⟨rfl, rfl⟩, q0, q1, q2, HB4.out⟩
      case round =>
        clear q0 q1 q2
        obtain ⟨k2, up2, lw2, lt2, hk2, rfl, hC2, ⟨m0, m1⟩, u2, hinv, p0, p1', p2', hB2⟩ := hrel
        have HC2 := Lib.hid hC2
        have HI := Lib.hid hinv
        clear hC2 hinv
        have hwx := hB2.size
        by_cases hlt2 : k2 < len2
        · obtain ⟨bo, oo, rfl, hop⟩ := H2.out k2 hlt2
          obtain ⟨kd, ph, iw, it, im, ⟨kd0, kd1⟩, ⟨ph0, ph1⟩, ⟨iw0, iw1⟩, ⟨it0, it1⟩, ⟨im0, im1⟩, o0, o1, o2, o3, o4⟩ := hop.below hB2
          have hkc : k2 < cap2 := by omega
          go_wp2_with fail
          refine (given_any b2 off up2 mk lw2 lt2 kd ph iw it im m0 m1 u2 it0 it1 im0 im1 _ (HC2.out.below ((Below.refl wr.heap.size wr).alloc (Nat.le_refl _) _))).mono ?_
          rintro e w5 ⟨X, Y, Z, E, up', lw', lt', rfl, ⟨⟨y0, y1⟩, uu, uu1, hcase⟩, ho, hc5⟩
          have oB : Only b2 wr w5 := ((Only.refl b2 wr).alloc _).trans ho
          have q0 : w5.cell? ⟨w2.heap.size, 0, none⟩ = some (.int .i64 wa) := oB.cell hbp2 p0
          have q1 : w5.cell? ⟨w2.heap.size, 1, none⟩ = some (.int .u32 wb) := oB.cell hbp2 p1'
          have q2 : w5.cell? ⟨w2.heap.size, 2, none⟩ = some (.int .u32 wm) := oB.cell hbp2 p2'
          have HC5 := Lib.hid hc5
          have lBw := Lib.hid (hB2.trans (oB.below (by omega) hwx))
          have hz5 := lBw.out.size
          clear ho hc5 p0 p1' p2' o0 o1 o2 o3 o4 oB hB2 hop
          go_wp2_with fail
          generalize hW5 : World.alloc w5 _ = W5
          have t0 : Below w5.heap.size w5 W5 := hW5 ▸ (Below.refl w5.heap.size w5).alloc (Nat.le_refl _) _
          have r0 : W5.cell? ⟨w5.heap.size, 0, none⟩ = some (.int .i64 X) := by rw [← hW5]; simp
          have r1 : W5.cell? ⟨w5.heap.size, 1, none⟩ = some (.int .u32 Y) := by rw [← hW5]; simp
          have r2 : W5.cell? ⟨w5.heap.size, 2, none⟩ = some (.int .u32 Z) := by rw [← hW5]; simp
          have r3 : W5.cell? ⟨w2.heap.size, 0, none⟩ = some (.int .i64 wa) := kept t0 q0
          have r4 : W5.cell? ⟨w2.heap.size, 1, none⟩ = some (.int .u32 wb) := kept t0 q1
          have r5 : W5.cell? ⟨w2.heap.size, 2, none⟩ = some (.int .u32 wm) := kept t0 q2
          have r6 : Clk W5 b2 off up' mk lw' lt' := HC5.out.below t0
          have r7 : Below w.heap.size w W5 := via t0 lBw.out lBw.out.size
          clear hW5 t0 q0 q1 q2
          rcases hcase with ⟨rfl, hX, hY, hZ, hU, hAu, hlex⟩ | ⟨hE, hX, hY, hZ, hU, hV⟩
          · obtain rfl := hX.symm
            obtain rfl := hY.symm
            obtain rfl := hZ.symm
            obtain rfl := hU.symm
            have hinv2 : up < lw' := by have := HI.out; omega
            have HI2 := Lib.hid hinv2
            clear hlex hinv2
            cases h
            · skip
              apply region_vals (fun w' => w'.cell? ⟨w2.heap.size, 0, none⟩ = some (.int .i64 wa) ∧ w'.cell? ⟨w2.heap.size, 1, none⟩ = some (.int .u32 wb) ∧ w'.cell? ⟨w2.heap.size, 2, none⟩ = some (.int .u32 wm) ∧ w'.cell? ⟨w5.heap.size, 0, none⟩ = some (.int .i64 lw') ∧ w'.cell? ⟨w5.heap.size, 1, none⟩ = some (.int .u32 lt') ∧ w'.cell? ⟨w5.heap.size, 2, none⟩ = some (.int .u32 mk) ∧ Clk w' b2 off up2 mk lw' lt' ∧ Below w.heap.size w w') [.int .i64 0, .bool true, .bool true, .bool false, .bool false, .bool false, undef, undef, undef, undef, undef, .bool false]
              case hm => kernel_rfl
              case hf => kernel_rfl
              case hQ => exact (by intro c x y w e h; exact And.intro (e.symm.trans (And.left h)) (And.right h))
              case hF => simp only [putAll, Act.put, List.setIfInBounds_toArray, List.set_cons_zero, List.set_cons_succ, Nat.reduceAdd, List.getD_cons_zero, List.getD_cons_succ]; rfl
              case h0 => (((try dsimp only); go_split_ands; (repeat' apply And.intro) <;> first | assumption | (apply keptD; assumption) | (apply kept; assumption; assumption) | (apply via; assumption; assumption; apply Below.size; assumption) | (apply Clk.below; assumption; assumption) | (apply Clk.below; assumption; apply Below.drew; exact Below.refl _ _) | (apply Below.drew; assumption) | (apply frz_below; assumption; assumption; assumption)))
              case hstep =>
                repeat' (first | exact AllOps.nil | apply AllOps.cons)
                all_goals
                  intro wx hS K hK
                  simp only [Act.put, List.setIfInBounds_toArray, List.set_cons_zero, List.set_cons_succ, Nat.reduceAdd, List.getD_cons_zero, List.getD_cons_succ] at hK ⊢
                  have HK := Lib.hid hK
                  have HS := Lib.hid hS
                  clear hK
                  go_split_ands
                  first
                    | (go_simp; (first | (refine HK.out _ _ ?_ ?_; (first | rfl | rw [hcmp]); exact HS.out) | (go_at_call 19; refine (last_any _ _ _ _).mono ?_; rintro e w1 ⟨rfl, hb⟩; refine HK.out _ _ ?_ ?_; (first | rfl | rw [hcmp]); (((try dsimp only); go_split_ands; (repeat' apply And.intro) <;> first | assumption | (apply keptD; assumption) | (apply kept; assumption; assumption) | (apply via; assumption; assumption; apply Below.size; assumption) | (apply Clk.below; assumption; assumption) | (apply Clk.below; assumption; apply Below.drew; exact Below.refl _ _) | (apply Below.drew; assumption) | (apply frz_below; assumption; assumption; assumption)))) | (go_at_call 14; refine (compare_any _ _ _ _ _ _ (by omega) (by omega) (by omega) (by omega) (by omega) (by omega) (by omega) (by omega) _).mono ?_; rintro e w1 ⟨rfl, hb⟩; refine HK.out _ _ ?_ ?_; (first | rfl | rw [hcmp]); (((try dsimp only); go_split_ands; (repeat' apply And.intro) <;> first | assumption | (apply keptD; assumption) | (apply kept; assumption; assumption) | (apply via; assumption; assumption; apply Below.size; assumption) | (apply Clk.below; assumption; assumption) | (apply Clk.below; assumption; apply Below.drew; exact Below.refl _ _) | (apply Below.drew; assumption) | (apply frz_below; assumption; assumption; assumption)))) | fail))
              case hend =>
                intro wx hS
                go_split_ands
                rename_i e0 e1 e2 e3 e4 e5 eC eB
                go_wp2
                go_roundw
                case rel => exact ⟨k2 + 1, up2, lw', lt', by omega, by go_num, eC, ⟨y0, y1⟩, uu1, .inl HI2.out, e0, e1, e2, eB⟩
                case measure => simp [intOf]; omega
            · have hcmp : cmpS wa wb 4294967295 lw' lt' mk = -1 := cmp_less (by have := HW.out rfl; have := HI2.out; omega)
              apply region_vals (fun w' => w'.cell? ⟨w2.heap.size, 0, none⟩ = some (.int .i64 wa) ∧ w'.cell? ⟨w2.heap.size, 1, none⟩ = some (.int .u32 wb) ∧ w'.cell? ⟨w2.heap.size, 2, none⟩ = some (.int .u32 wm) ∧ w'.cell? ⟨w5.heap.size, 0, none⟩ = some (.int .i64 lw') ∧ w'.cell? ⟨w5.heap.size, 1, none⟩ = some (.int .u32 lt') ∧ w'.cell? ⟨w5.heap.size, 2, none⟩ = some (.int .u32 mk) ∧ Clk w' b2 off up2 mk lw' lt' ∧ Below w.heap.size w w') [.int .i64 0, .bool true, .bool true, .bool true, .bool true, .bool true, .agg #[.int .i64 wa, .int .u32 wb, .int .u32 wm], .agg #[.int .i64 wa, .int .u32 wb, .int .u32 4294967295], .agg #[.int .i64 lw', .int .u32 lt', .int .u32 mk], .int .i64 (-1), .bool false, .bool false]
              case hm => kernel_rfl
              case hf => kernel_rfl
              case hQ => exact (by intro c x y w e h; exact And.intro (e.symm.trans (And.left h)) (And.right h))
              case hF => simp only [putAll, Act.put, List.setIfInBounds_toArray, List.set_cons_zero, List.set_cons_succ, Nat.reduceAdd, List.getD_cons_zero, List.getD_cons_succ]; rfl
              case h0 => (((try dsimp only); go_split_ands; (repeat' apply And.intro) <;> first | assumption | (apply keptD; assumption) | (apply kept; assumption; assumption) | (apply via; assumption; assumption; apply Below.size; assumption) | (apply Clk.below; assumption; assumption) | (apply Clk.below; assumption; apply Below.drew; exact Below.refl _ _) | (apply Below.drew; assumption) | (apply frz_below; assumption; assumption; assumption)))
              case hstep =>
                repeat' (first | exact AllOps.nil | apply AllOps.cons)
                all_goals
                  intro wx hS K hK
                  simp only [Act.put, List.setIfInBounds_toArray, List.set_cons_zero, List.set_cons_succ, Nat.reduceAdd, List.getD_cons_zero, List.getD_cons_succ] at hK ⊢
                  have HK := Lib.hid hK
                  have HS := Lib.hid hS
                  clear hK
                  go_split_ands
                  first
                    | (go_simp; (first | (refine HK.out _ _ ?_ ?_; (first | rfl | rw [hcmp]); exact HS.out) | (go_at_call 19; refine (last_any _ _ _ _).mono ?_; rintro e w1 ⟨rfl, hb⟩; refine HK.out _ _ ?_ ?_; (first | rfl | rw [hcmp]); (((try dsimp only); go_split_ands; (repeat' apply And.intro) <;> first | assumption | (apply keptD; assumption) | (apply kept; assumption; assumption) | (apply via; assumption; assumption; apply Below.size; assumption) | (apply Clk.below; assumption; assumption) | (apply Clk.below; assumption; apply Below.drew; exact Below.refl _ _) | (apply Below.drew; assumption) | (apply frz_below; assumption; assumption; assumption)))) | (go_at_call 14; refine (compare_any _ _ _ _ _ _ (by omega) (by omega) (by omega) (by omega) (by omega) (by omega) (by omega) (by omega) _).mono ?_; rintro e w1 ⟨rfl, hb⟩; refine HK.out _ _ ?_ ?_; (first | rfl | rw [hcmp]); (((try dsimp only); go_split_ands; (repeat' apply And.intro) <;> first | assumption | (apply keptD; assumption) | (apply kept; assumption; assumption) | (apply via; assumption; assumption; apply Below.size; assumption) | (apply Clk.below; assumption; assumption) | (apply Clk.below; assumption; apply Below.drew; exact Below.refl _ _) | (apply Below.drew; assumption) | (apply frz_below; assumption; assumption; assumption)))) | fail))
              case hend =>
                intro wx hS
                go_split_ands
                rename_i e0 e1 e2 e3 e4 e5 eC eB
                go_wp2
                go_roundw
                case rel => exact ⟨k2 + 1, up2, lw', lt', by omega, by go_num, eC, ⟨y0, y1⟩, uu1, .inl HI2.out, e0, e1, e2, eB⟩
                case measure => simp [intOf]; omega
          · have hE1 : (E == 0) = false := by simpa using hE
            obtain rfl := hX.symm
            obtain rfl := hY.symm
            obtain rfl := hZ.symm
            obtain rfl := hU.symm
            obtain rfl := hV.symm
            clear hE
            apply region_vals (fun w' => w'.cell? ⟨w2.heap.size, 0, none⟩ = some (.int .i64 wa) ∧ w'.cell? ⟨w2.heap.size, 1, none⟩ = some (.int .u32 wb) ∧ w'.cell? ⟨w2.heap.size, 2, none⟩ = some (.int .u32 wm) ∧ w'.cell? ⟨w5.heap.size, 0, none⟩ = some (.int .i64 0) ∧ w'.cell? ⟨w5.heap.size, 1, none⟩ = some (.int .u32 0) ∧ w'.cell? ⟨w5.heap.size, 2, none⟩ = some (.int .u32 0) ∧ Clk w' b2 off up' mk lw2 lt2 ∧ Below w.heap.size w w') [.int .i64 E, .bool false, .bool false, undef, .bool false, .bool false, undef, undef, undef, undef, undef, .bool false]
            case hm => kernel_rfl
            case hf => kernel_rfl
            case hQ => exact (by intro c x y w e h; exact And.intro (e.symm.trans (And.left h)) (And.right h))
            case hF => simp only [putAll, Act.put, List.setIfInBounds_toArray, List.set_cons_zero, List.set_cons_succ, Nat.reduceAdd, List.getD_cons_zero, List.getD_cons_succ]; rfl
            case h0 => (((try dsimp only); go_split_ands; (repeat' apply And.intro) <;> first | assumption | (apply keptD; assumption) | (apply kept; assumption; assumption) | (apply via; assumption; assumption; apply Below.size; assumption) | (apply Clk.below; assumption; assumption) | (apply Clk.below; assumption; apply Below.drew; exact Below.refl _ _) | (apply Below.drew; assumption) | (apply frz_below; assumption; assumption; assumption)))
            case hstep =>
              repeat' (first | exact AllOps.nil | apply AllOps.cons)
              all_goals
                intro wx hS K hK
                simp only [Act.put, List.setIfInBounds_toArray, List.set_cons_zero, List.set_cons_succ, Nat.reduceAdd, List.getD_cons_zero, List.getD_cons_succ] at hK ⊢
                have HK := Lib.hid hK
                have HS := Lib.hid hS
                clear hK
                go_split_ands
                first
                  | (go_simp; (first | (refine HK.out _ _ ?_ ?_; (first | rfl | rw [hcmp]); exact HS.out) | (go_at_call 19; refine (last_any _ _ _ _).mono ?_; rintro e w1 ⟨rfl, hb⟩; refine HK.out _ _ ?_ ?_; (first | rfl | rw [hcmp]); (((try dsimp only); go_split_ands; (repeat' apply And.intro) <;> first | assumption | (apply keptD; assumption) | (apply kept; assumption; assumption) | (apply via; assumption; assumption; apply Below.size; assumption) | (apply Clk.below; assumption; assumption) | (apply Clk.below; assumption; apply Below.drew; exact Below.refl _ _) | (apply Below.drew; assumption) | (apply frz_below; assumption; assumption; assumption)))) | (go_at_call 14; refine (compare_any _ _ _ _ _ _ (by omega) (by omega) (by omega) (by omega) (by omega) (by omega) (by omega) (by omega) _).mono ?_; rintro e w1 ⟨rfl, hb⟩; refine HK.out _ _ ?_ ?_; (first | rfl | rw [hcmp]); (((try dsimp only); go_split_ands; (repeat' apply And.intro) <;> first | assumption | (apply keptD; assumption) | (apply kept; assumption; assumption) | (apply via; assumption; assumption; apply Below.size; assumption) | (apply Clk.below; assumption; assumption) | (apply Clk.below; assumption; apply Below.drew; exact Below.refl _ _) | (apply Below.drew; assumption) | (apply frz_below; assumption; assumption; assumption)))) | fail))
            case hend =>
              intro wx hS
              go_split_ands
              rename_i e0 e1 e2 e3 e4 e5 eC eB
              go_wp2
              go_roundw
              case rel => exact ⟨k2 + 1, up', lw2, lt2, by omega, by go_num, eC, ⟨y0, y1⟩, uu1, HI.out, e0, e1, e2, eB⟩
              case measure => simp [intOf]; omega
        · have HB2 := Lib.hid hB2
          clear hB2
          go_wp2
          go_ret
          exact ⟨rfl, HB2.out⟩

end Go.Proofs.Yteibigiehpkdjaa
