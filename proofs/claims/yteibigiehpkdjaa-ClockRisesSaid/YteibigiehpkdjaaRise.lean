/- ClockRises. -/
import Derived.Test.YteibigiehpkdjaaUpdD
import Derived.Test.YteibigiehpkdjaaOps
import Derived.Test.YteibigiehpkdjaaPhase
namespace Go.Proofs.Yteibigiehpkdjaa
open Go.RowKit


theorem OpAt.below {w w' : World} {b o : Nat} (h : OpAt w b o) (hb : Below w.heap.size w w') : OpAt w' b o := by
  obtain ⟨k, ph, x, y, z, h1, h2, h3, h4, h5, c0, c1, c2, c3, c4⟩ := h
  exact ⟨k, ph, x, y, z, h1, h2, h3, h4, h5, kept hb c0, kept hb c1, kept hb c2, kept hb c3, kept hb c4⟩

/-- What holds at each round's head: the clock, the last stamp that was given. -/
def RiseRel (w : World) (b pw len : Nat) (off mk : Int) (hd i : Value) (wr : World) : Prop :=
  ∃ (k : Nat) (h : Bool) (up lw lt wa wb wm : Int), k ≤ len ∧ i = .int .i64 k ∧ hd = .bool h ∧ Clk wr b off up mk lw lt ∧ (0 ≤ lt ∧ lt ≤ 4294967295) ∧ (0 ≤ wb ∧ wb ≤ 4294967295) ∧ (h = true → wa = lw ∧ wb = lt) ∧
    wr.cell? ⟨pw, 0, none⟩ = some (.int .i64 wa) ∧ wr.cell? ⟨pw, 1, none⟩ = some (.int .u32 wb) ∧ wr.cell? ⟨pw, 2, none⟩ = some (.int .u32 wm) ∧ (∀ j, wr.frozen? ⟨pw, j, none⟩ = false) ∧ Below w.heap.size w wr

set_option maxRecDepth 100000 in
set_option maxHeartbeats 8000000 in
theorem rises_loop (off up0 mk : Int) (hm0 : 0 ≤ mk) (hm1 : mk ≤ 4294967295) (hok : newOk off up0 = true) (bo oo len cap : Nat) (w : World) (hl : len ≤ cap) (hc : cap ≤ 9223372036854775807) (hops : ∀ i, i < len → OpAt w bo (oo + 5 * i)) :
    Calls Try.prog 8 #[.int .i64 off, .int .i64 up0, .int .u32 mk, .slice (some ⟨bo, oo, none⟩) len cap] w fun e w' => e = .returned (.bool true) ∧ Below w.heap.size w w' := by
  have HO := Lib.hid hops
  clear hops
  go_enter Try.func8, Try.ntmps8
  go_wp2_with fail
  refine (new_yes off up0 mk hok _).mono ?_
  rintro e w1 ⟨b, rfl, hb1, lB1, hk1⟩
  have HK1 := Lib.hid hk1
  have HB1 := Lib.hid lB1
  have z1 := lB1.size
  clear hk1 lB1
  go_wp2_with fail
  refine (awake_any _).mono ?_
  rintro e w2 ⟨rfl, lB2⟩
  have HK2 := Lib.hid (HK1.out.below lB2)
  have HB2 := Lib.hid (HB1.out.trans (lB2.mono z1))
  have z2 := lB2.size
  clear lB2
  go_wp2_with fail
  have HBP := Lib.hid (show b < w2.heap.size from HK2.out.lt)
  have HBW := Lib.hid hb1
  go_loopw [12, 37] (fun hd i wr => RiseRel w b w2.heap.size len off mk hd i wr) (fun _ i _ => len - (intOf i).toNat)
  case atStart =>
    have hk2 := HK2.out.below ((Below.refl w2.heap.size w2).alloc (Nat.le_refl _) (.cells #[.int .i64 0, .int .u32 0, .int .u32 0] 26))
    refine ⟨0, false, up0, up0, 4294967295, 0, 0, 0, Nat.zero_le _, rfl, rfl, hk2, ⟨by decide, by decide⟩, ⟨by decide, by decide⟩, (fun h => by cases h), by simp, by simp, by simp, (fun j => by simp), ?_⟩
    exact HB2.out.alloc (by have := HB2.out.size; omega) _
  case round =>
    obtain ⟨k, h, up, lw, lt, wa, wb, wm, hk, rfl, rfl, hC, ⟨l0, l1⟩, ⟨v0, v1⟩, hw, p0, p1, p2, pf, hB⟩ := hrel
    have HC := Lib.hid hC
    have HW := Lib.hid hw
    clear hC hw
    by_cases hlt : k < len
    · obtain ⟨kd, ph, iw, it, im, ⟨kd0, kd1⟩, ⟨ph0, ph1⟩, ⟨iw0, iw1⟩, ⟨it0, it1⟩, ⟨im0, im1⟩, o0, o1, o2, o3, o4⟩ := (show OpAt w bo (oo + k * 5) from Nat.mul_comm 5 k ▸ HO.out k hlt).below hB
      have hkc : k < cap := by omega
      have hbr := HC.out.lt
      have hpr : w2.heap.size < wr.heap.size := World.block_lt_of_cell? wr _ p0
      have hsb : wr.heap.size + 1 ≠ b := by omega
      have hsp : wr.heap.size + 1 ≠ w2.heap.size := by omega
      have hob : wr.heap.size ≠ b := by omega
      have hwr := hB.size
      have hbp : w2.heap.size ≠ b := Ne.symm (by have := HBP.out; omega)
      by_cases k0 : kd = 0
      · subst k0
        by_cases hr : rightB ph = true
        · have hph : 0 ≤ ph ∧ ph ≤ 4611686018427387904 := by simpa [rightB] using hr
          by_cases hE : gvE up ph lw lt = 0
          · have G := gv_facts (ph := ph) (lw := lw) hE l0 l1
            have GN := gv_new (mk := mk) (lw0 := lw) (lt0 := lt) hE
            cases h
            · skip
              clear hph
              go_wp2_with fail
              refine (now_any b off up mk lw lt ph l0 l1 _ (HC.out.below (((Below.refl wr.heap.size wr).alloc (Nat.le_refl _) _).alloc (by simp) _)) hr).mono ?_
              rintro e w3 ⟨rfl, ho, hc3⟩
              rw [GN.1, GN.2.1] at hc3
              rw [hE, GN.2.2]
              generalize gvA up ph lw lt = A at *
              generalize gvB up ph lw lt = B at *
              obtain ⟨hAu, hAp, hlex, hB0, hB1⟩ := G
              have d1 : decide (up < A) = false := decide_eq_false (by omega)
              have d2 : decide (A < ph) = false := decide_eq_false (by omega)
              have HC3 := Lib.hid hc3
              have oB : Only b wr w3 := (((Only.refl b wr).alloc _).alloc _).trans ho
              have g1 : w3.cell? ⟨wr.heap.size, 1, none⟩ = some (.int .i64 ph) := ho.cell hob (by simp)
              have q0 : w3.cell? ⟨w2.heap.size, 0, none⟩ = some (.int .i64 wa) := oB.cell hbp p0
              have q1 : w3.cell? ⟨w2.heap.size, 1, none⟩ = some (.int .u32 wb) := oB.cell hbp p1
              have q2 : w3.cell? ⟨w2.heap.size, 2, none⟩ = some (.int .u32 wm) := oB.cell hbp p2
              have qf : ∀ j, w3.frozen? ⟨w2.heap.size, j, none⟩ = false := fun j => oB.frz hbp hpr (pf j)
              have m0 : w3.cell? ⟨wr.heap.size + 1, 0, none⟩ = some (.int .i64 0) := ho.cell hsb (by simp)
              have m1 : w3.cell? ⟨wr.heap.size + 1, 1, none⟩ = some (.int .u32 0) := ho.cell hsb (by simp)
              have m2 : w3.cell? ⟨wr.heap.size + 1, 2, none⟩ = some (.int .u32 0) := ho.cell hsb (by simp)
              have f0 : w3.frozen? ⟨wr.heap.size + 1, 0, none⟩ = false := ho.frz hsb (by simp) (by simp)
              have f1 : w3.frozen? ⟨wr.heap.size + 1, 1, none⟩ = false := ho.frz hsb (by simp) (by simp)
              have f2 : w3.frozen? ⟨wr.heap.size + 1, 2, none⟩ = false := ho.frz hsb (by simp) (by simp)
              have HQ := Lib.hid qf
              have lBw := Lib.hid (hB.trans (oB.below HBW.out hwr))
              clear qf
              clear ho hc3 p0 p1 p2 o0 o1 o2 o3 o4 pf hE GN hlex
              go_wp2_with fail
              generalize hW : (World.setCell _ _ _ : World) = W'
              have hWs : W' = set3 w3 (wr.heap.size + 1) (.int .i64 A) (.int .u32 B) (.int .u32 mk) := hW.symm
              have t0 : W'.cell? ⟨wr.heap.size + 1, 0, none⟩ = some (.int .i64 A) := hWs ▸ set3_at0 m0
              have t1 : W'.cell? ⟨wr.heap.size + 1, 1, none⟩ = some (.int .u32 B) := hWs ▸ set3_at1 m1
              have t2 : W'.cell? ⟨wr.heap.size + 1, 2, none⟩ = some (.int .u32 mk) := hWs ▸ set3_at2 m2
              have t3 : W'.cell? ⟨wr.heap.size, 1, none⟩ = some (.int .i64 ph) := hWs ▸ set3_cell (Nat.succ_ne_self _) g1
              have t4 : W'.cell? ⟨w2.heap.size, 0, none⟩ = some (.int .i64 wa) := hWs ▸ set3_cell hsp q0
              have t5 : W'.cell? ⟨w2.heap.size, 1, none⟩ = some (.int .u32 wb) := hWs ▸ set3_cell hsp q1
              have t6 : W'.cell? ⟨w2.heap.size, 2, none⟩ = some (.int .u32 wm) := hWs ▸ set3_cell hsp q2
              have t7 : Clk W' b off up mk A B := hWs ▸ HC3.out.set3 hsb
              have t8 : ∀ j, W'.frozen? ⟨w2.heap.size, j, none⟩ = false := fun j => hWs ▸ set3_frozen (HQ.out j)
              have t9 : Below w.heap.size w W' := hWs ▸ set3_below lBw.out (by omega)
              clear hW hWs q0 q1 q2 m0 m1 m2 f0 f1 f2 g1
              apply region_vals (fun w' => w'.cell? ⟨wr.heap.size + 1, 0, none⟩ = some (.int .i64 A) ∧ w'.cell? ⟨wr.heap.size + 1, 1, none⟩ = some (.int .u32 B) ∧ w'.cell? ⟨wr.heap.size + 1, 2, none⟩ = some (.int .u32 mk) ∧ w'.cell? ⟨wr.heap.size, 1, none⟩ = some (.int .i64 ph) ∧ w'.cell? ⟨w2.heap.size, 0, none⟩ = some (.int .i64 wa) ∧ w'.cell? ⟨w2.heap.size, 1, none⟩ = some (.int .u32 wb) ∧ w'.cell? ⟨w2.heap.size, 2, none⟩ = some (.int .u32 wm) ∧ Clk w' b off up mk A B ∧ (∀ j, w'.frozen? ⟨w2.heap.size, j, none⟩ = false) ∧ Below w.heap.size w w') [.pointer (some ⟨wr.heap.size + 1, 2, none⟩), .int .u32 mk, .int .u32 mk, .bool false, .bool false, .pointer (some ⟨wr.heap.size + 1, 0, none⟩), .int .i64 A, .pointer (some ⟨b, 0, none⟩), .int .i64 up, .bool false, .bool false, .bool false, .pointer (some ⟨wr.heap.size + 1, 0, none⟩), .int .i64 A, .pointer (some ⟨wr.heap.size, 1, none⟩), .int .i64 ph, .bool false, .bool false, .bool false, .bool false, .bool false, undef, undef, undef, undef, undef, .bool false, .bool false]
              case hm => kernel_rfl
              case hf => kernel_rfl
              case hQ => exact (by intro c x y w e h; exact And.intro (e.symm.trans (And.left h)) (And.right h))
              case hF => simp only [putAll, Act.put, List.setIfInBounds_toArray, List.set_cons_zero, List.set_cons_succ, Nat.reduceAdd, List.getD_cons_zero, List.getD_cons_succ]; rfl
              case h0 => (((try dsimp only); go_split_ands; (repeat' apply And.intro) <;> first | assumption | (apply kept; assumption; assumption) | (apply via; assumption; assumption; apply Below.size; assumption) | (apply Clk.below; assumption; assumption) | (apply Clk.below; assumption; apply Below.drew; exact Below.refl _ _) | (apply Below.drew; assumption) | (apply frz_below; assumption; assumption; assumption)))
              case hstep =>
                repeat' (first | exact AllOps.nil | apply AllOps.cons)
                all_goals
                  intro wx hS K hK
                  simp only [Act.put, List.setIfInBounds_toArray, List.set_cons_zero, List.set_cons_succ, Nat.reduceAdd, List.getD_cons_zero, List.getD_cons_succ] at hK ⊢
                  have HK := Lib.hid hK
                  have HS := Lib.hid hS
                  clear hK
                  go_split_ands
                  first
                    | (go_simp; (first | (refine HK.out _ _ ?_ ?_; (first | rfl | rw [hcmp]); exact HS.out) | (go_at_call 31; refine (upper_below b off up mk A B _ (by assumption)).mono ?_; rintro e w1 ⟨rfl, hb⟩; refine HK.out _ _ ?_ ?_; (first | rfl | rw [hcmp]); (((try dsimp only); go_split_ands; (repeat' apply And.intro) <;> first | assumption | (apply kept; assumption; assumption) | (apply via; assumption; assumption; apply Below.size; assumption) | (apply Clk.below; assumption; assumption) | (apply Clk.below; assumption; apply Below.drew; exact Below.refl _ _) | (apply Below.drew; assumption) | (apply frz_below; assumption; assumption; assumption)))) | (go_at_call 19; refine (last_any _ _ _ _).mono ?_; rintro e w1 ⟨rfl, hb⟩; refine HK.out _ _ ?_ ?_; (first | rfl | rw [hcmp]); (((try dsimp only); go_split_ands; (repeat' apply And.intro) <;> first | assumption | (apply kept; assumption; assumption) | (apply via; assumption; assumption; apply Below.size; assumption) | (apply Clk.below; assumption; assumption) | (apply Clk.below; assumption; apply Below.drew; exact Below.refl _ _) | (apply Below.drew; assumption) | (apply frz_below; assumption; assumption; assumption)))) | (go_at_call 14; refine (compare_any _ _ _ _ _ _ (by omega) (by omega) (by omega) (by omega) (by omega) (by omega) (by omega) (by omega) _).mono ?_; rintro e w1 ⟨rfl, hb⟩; refine HK.out _ _ ?_ ?_; (first | rfl | rw [hcmp]); (((try dsimp only); go_split_ands; (repeat' apply And.intro) <;> first | assumption | (apply kept; assumption; assumption) | (apply via; assumption; assumption; apply Below.size; assumption) | (apply Clk.below; assumption; assumption) | (apply Clk.below; assumption; apply Below.drew; exact Below.refl _ _) | (apply Below.drew; assumption) | (apply frz_below; assumption; assumption; assumption)))) | fail))
              case hend =>
                intro wx hS
                go_split_ands
                rename_i e0 e1 e2 e3 e4 e5 e6 eC eF eB
                go_wp2
                go_roundw
                case rel => exact ⟨k + 1, true, up, A, B, A, B, mk, by omega, by go_num, rfl, Clk.set3 eC hbp, ⟨hB0, hB1⟩, ⟨hB0, hB1⟩, (fun _ => ⟨rfl, rfl⟩), set3_at0 e4, set3_at1 e5, set3_at2 e6, fun j => set3_frozen (eF j), set3_below eB (by omega)⟩
                case measure => simp [intOf]; omega
            · skip
              clear hph
              go_wp2_with fail
              refine (now_any b off up mk lw lt ph l0 l1 _ (HC.out.below (((Below.refl wr.heap.size wr).alloc (Nat.le_refl _) _).alloc (by simp) _)) hr).mono ?_
              rintro e w3 ⟨rfl, ho, hc3⟩
              rw [GN.1, GN.2.1] at hc3
              rw [hE, GN.2.2]
              generalize gvA up ph lw lt = A at *
              generalize gvB up ph lw lt = B at *
              obtain ⟨hAu, hAp, hlex, hB0, hB1⟩ := G
              have d1 : decide (up < A) = false := decide_eq_false (by omega)
              have d2 : decide (A < ph) = false := decide_eq_false (by omega)
              obtain ⟨rfl, rfl⟩ := HW.out (by simp)
              have hcmp : cmpS wa wb 4294967295 A B mk = -1 := cmp_less hlex
              have HC3 := Lib.hid hc3
              have oB : Only b wr w3 := (((Only.refl b wr).alloc _).alloc _).trans ho
              have g1 : w3.cell? ⟨wr.heap.size, 1, none⟩ = some (.int .i64 ph) := ho.cell hob (by simp)
              have q0 : w3.cell? ⟨w2.heap.size, 0, none⟩ = some (.int .i64 wa) := oB.cell hbp p0
              have q1 : w3.cell? ⟨w2.heap.size, 1, none⟩ = some (.int .u32 wb) := oB.cell hbp p1
              have q2 : w3.cell? ⟨w2.heap.size, 2, none⟩ = some (.int .u32 wm) := oB.cell hbp p2
              have qf : ∀ j, w3.frozen? ⟨w2.heap.size, j, none⟩ = false := fun j => oB.frz hbp hpr (pf j)
              have m0 : w3.cell? ⟨wr.heap.size + 1, 0, none⟩ = some (.int .i64 0) := ho.cell hsb (by simp)
              have m1 : w3.cell? ⟨wr.heap.size + 1, 1, none⟩ = some (.int .u32 0) := ho.cell hsb (by simp)
              have m2 : w3.cell? ⟨wr.heap.size + 1, 2, none⟩ = some (.int .u32 0) := ho.cell hsb (by simp)
              have f0 : w3.frozen? ⟨wr.heap.size + 1, 0, none⟩ = false := ho.frz hsb (by simp) (by simp)
              have f1 : w3.frozen? ⟨wr.heap.size + 1, 1, none⟩ = false := ho.frz hsb (by simp) (by simp)
              have f2 : w3.frozen? ⟨wr.heap.size + 1, 2, none⟩ = false := ho.frz hsb (by simp) (by simp)
              have HQ := Lib.hid qf
              have lBw := Lib.hid (hB.trans (oB.below HBW.out hwr))
              clear qf
              clear ho hc3 p0 p1 p2 o0 o1 o2 o3 o4 pf hE GN hlex
              go_wp2_with fail
              generalize hW : (World.setCell _ _ _ : World) = W'
              have hWs : W' = set3 w3 (wr.heap.size + 1) (.int .i64 A) (.int .u32 B) (.int .u32 mk) := hW.symm
              have t0 : W'.cell? ⟨wr.heap.size + 1, 0, none⟩ = some (.int .i64 A) := hWs ▸ set3_at0 m0
              have t1 : W'.cell? ⟨wr.heap.size + 1, 1, none⟩ = some (.int .u32 B) := hWs ▸ set3_at1 m1
              have t2 : W'.cell? ⟨wr.heap.size + 1, 2, none⟩ = some (.int .u32 mk) := hWs ▸ set3_at2 m2
              have t3 : W'.cell? ⟨wr.heap.size, 1, none⟩ = some (.int .i64 ph) := hWs ▸ set3_cell (Nat.succ_ne_self _) g1
              have t4 : W'.cell? ⟨w2.heap.size, 0, none⟩ = some (.int .i64 wa) := hWs ▸ set3_cell hsp q0
              have t5 : W'.cell? ⟨w2.heap.size, 1, none⟩ = some (.int .u32 wb) := hWs ▸ set3_cell hsp q1
              have t6 : W'.cell? ⟨w2.heap.size, 2, none⟩ = some (.int .u32 wm) := hWs ▸ set3_cell hsp q2
              have t7 : Clk W' b off up mk A B := hWs ▸ HC3.out.set3 hsb
              have t8 : ∀ j, W'.frozen? ⟨w2.heap.size, j, none⟩ = false := fun j => hWs ▸ set3_frozen (HQ.out j)
              have t9 : Below w.heap.size w W' := hWs ▸ set3_below lBw.out (by omega)
              clear hW hWs q0 q1 q2 m0 m1 m2 f0 f1 f2 g1
              apply region_vals (fun w' => w'.cell? ⟨wr.heap.size + 1, 0, none⟩ = some (.int .i64 A) ∧ w'.cell? ⟨wr.heap.size + 1, 1, none⟩ = some (.int .u32 B) ∧ w'.cell? ⟨wr.heap.size + 1, 2, none⟩ = some (.int .u32 mk) ∧ w'.cell? ⟨wr.heap.size, 1, none⟩ = some (.int .i64 ph) ∧ w'.cell? ⟨w2.heap.size, 0, none⟩ = some (.int .i64 wa) ∧ w'.cell? ⟨w2.heap.size, 1, none⟩ = some (.int .u32 wb) ∧ w'.cell? ⟨w2.heap.size, 2, none⟩ = some (.int .u32 wm) ∧ Clk w' b off up mk A B ∧ (∀ j, w'.frozen? ⟨w2.heap.size, j, none⟩ = false) ∧ Below w.heap.size w w') [.pointer (some ⟨wr.heap.size + 1, 2, none⟩), .int .u32 mk, .int .u32 mk, .bool false, .bool false, .pointer (some ⟨wr.heap.size + 1, 0, none⟩), .int .i64 A, .pointer (some ⟨b, 0, none⟩), .int .i64 up, .bool false, .bool false, .bool false, .pointer (some ⟨wr.heap.size + 1, 0, none⟩), .int .i64 A, .pointer (some ⟨wr.heap.size, 1, none⟩), .int .i64 ph, .bool false, .bool false, .bool false, .bool true, .bool true, .agg #[.int .i64 wa, .int .u32 wb, .int .u32 wm], .agg #[.int .i64 wa, .int .u32 wb, .int .u32 4294967295], .agg #[.int .i64 A, .int .u32 B, .int .u32 mk], .int .i64 (-1), .bool false, .bool false, .bool false]
              case hm => kernel_rfl
              case hf => kernel_rfl
              case hQ => exact (by intro c x y w e h; exact And.intro (e.symm.trans (And.left h)) (And.right h))
              case hF => simp only [putAll, Act.put, List.setIfInBounds_toArray, List.set_cons_zero, List.set_cons_succ, Nat.reduceAdd, List.getD_cons_zero, List.getD_cons_succ]; rfl
              case h0 => (((try dsimp only); go_split_ands; (repeat' apply And.intro) <;> first | assumption | (apply kept; assumption; assumption) | (apply via; assumption; assumption; apply Below.size; assumption) | (apply Clk.below; assumption; assumption) | (apply Clk.below; assumption; apply Below.drew; exact Below.refl _ _) | (apply Below.drew; assumption) | (apply frz_below; assumption; assumption; assumption)))
              case hstep =>
                repeat' (first | exact AllOps.nil | apply AllOps.cons)
                all_goals
                  intro wx hS K hK
                  simp only [Act.put, List.setIfInBounds_toArray, List.set_cons_zero, List.set_cons_succ, Nat.reduceAdd, List.getD_cons_zero, List.getD_cons_succ] at hK ⊢
                  have HK := Lib.hid hK
                  have HS := Lib.hid hS
                  clear hK
                  go_split_ands
                  first
                    | (go_simp; (first | (refine HK.out _ _ ?_ ?_; (first | rfl | rw [hcmp]); exact HS.out) | (go_at_call 31; refine (upper_below b off up mk A B _ (by assumption)).mono ?_; rintro e w1 ⟨rfl, hb⟩; refine HK.out _ _ ?_ ?_; (first | rfl | rw [hcmp]); (((try dsimp only); go_split_ands; (repeat' apply And.intro) <;> first | assumption | (apply kept; assumption; assumption) | (apply via; assumption; assumption; apply Below.size; assumption) | (apply Clk.below; assumption; assumption) | (apply Clk.below; assumption; apply Below.drew; exact Below.refl _ _) | (apply Below.drew; assumption) | (apply frz_below; assumption; assumption; assumption)))) | (go_at_call 19; refine (last_any _ _ _ _).mono ?_; rintro e w1 ⟨rfl, hb⟩; refine HK.out _ _ ?_ ?_; (first | rfl | rw [hcmp]); (((try dsimp only); go_split_ands; (repeat' apply And.intro) <;> first | assumption | (apply kept; assumption; assumption) | (apply via; assumption; assumption; apply Below.size; assumption) | (apply Clk.below; assumption; assumption) | (apply Clk.below; assumption; apply Below.drew; exact Below.refl _ _) | (apply Below.drew; assumption) | (apply frz_below; assumption; assumption; assumption)))) | (go_at_call 14; refine (compare_any _ _ _ _ _ _ (by omega) (by omega) (by omega) (by omega) (by omega) (by omega) (by omega) (by omega) _).mono ?_; rintro e w1 ⟨rfl, hb⟩; refine HK.out _ _ ?_ ?_; (first | rfl | rw [hcmp]); (((try dsimp only); go_split_ands; (repeat' apply And.intro) <;> first | assumption | (apply kept; assumption; assumption) | (apply via; assumption; assumption; apply Below.size; assumption) | (apply Clk.below; assumption; assumption) | (apply Clk.below; assumption; apply Below.drew; exact Below.refl _ _) | (apply Below.drew; assumption) | (apply frz_below; assumption; assumption; assumption)))) | fail))
              case hend =>
                intro wx hS
                go_split_ands
                rename_i e0 e1 e2 e3 e4 e5 e6 eC eF eB
                go_wp2
                go_roundw
                case rel => exact ⟨k + 1, true, up, A, B, A, B, mk, by omega, by go_num, rfl, Clk.set3 eC hbp, ⟨hB0, hB1⟩, ⟨hB0, hB1⟩, (fun _ => ⟨rfl, rfl⟩), set3_at0 e4, set3_at1 e5, set3_at2 e6, fun j => set3_frozen (eF j), set3_below eB (by omega)⟩
                case measure => simp [intOf]; omega
          · have hE1 : (gvE up ph lw lt == 0) = false := by simpa using hE
            have hE2 : (gvE up ph lw lt != 0) = true := by simpa using hE
            have GS := Lib.hid (gv_same (lw0 := lw) (lt0 := lt) hE)
            clear hE hph
            go_wp2_with fail
            refine (now_any b off up mk lw lt ph l0 l1 _ (HC.out.below (((Below.refl wr.heap.size wr).alloc (Nat.le_refl _) _).alloc (by simp) _)) hr).mono ?_
            rintro e w3 ⟨rfl, ho, hc3⟩
            rw [GS.out.1, GS.out.2] at hc3
            have HC3 := Lib.hid hc3
            have oB : Only b wr w3 := (((Only.refl b wr).alloc _).alloc _).trans ho
            have q0 : w3.cell? ⟨w2.heap.size, 0, none⟩ = some (.int .i64 wa) := oB.cell hbp p0
            have q1 : w3.cell? ⟨w2.heap.size, 1, none⟩ = some (.int .u32 wb) := oB.cell hbp p1
            have q2 : w3.cell? ⟨w2.heap.size, 2, none⟩ = some (.int .u32 wm) := oB.cell hbp p2
            have qf : ∀ j, w3.frozen? ⟨w2.heap.size, j, none⟩ = false := fun j => oB.frz hbp hpr (pf j)
            have m0 : w3.cell? ⟨wr.heap.size + 1, 0, none⟩ = some (.int .i64 0) := ho.cell hsb (by simp)
            have m1 : w3.cell? ⟨wr.heap.size + 1, 1, none⟩ = some (.int .u32 0) := ho.cell hsb (by simp)
            have m2 : w3.cell? ⟨wr.heap.size + 1, 2, none⟩ = some (.int .u32 0) := ho.cell hsb (by simp)
            have f0 : w3.frozen? ⟨wr.heap.size + 1, 0, none⟩ = false := ho.frz hsb (by simp) (by simp)
            have f1 : w3.frozen? ⟨wr.heap.size + 1, 1, none⟩ = false := ho.frz hsb (by simp) (by simp)
            have f2 : w3.frozen? ⟨wr.heap.size + 1, 2, none⟩ = false := ho.frz hsb (by simp) (by simp)
            have HQ := Lib.hid qf
            have lBw := Lib.hid (hB.trans (oB.below HBW.out hwr))
            clear qf
            clear ho hc3 p0 p1 p2 o0 o1 o2 o3 o4 pf
            go_wp2
            go_roundw
            case rel => exact ⟨k + 1, h, up, lw, lt, wa, wb, wm, by omega, by go_num, rfl, HC3.out.set3 hsb, ⟨l0, l1⟩, ⟨v0, v1⟩, HW.out, set3_cell hsp q0, set3_cell hsp q1, set3_cell hsp q2, fun j => set3_frozen (HQ.out j), set3_below lBw.out (by omega)⟩
            case measure => simp [intOf]; omega
        · have hr' : rightB ph = false := by simpa using hr
          clear hr
          go_wp2_with fail
          refine (now_bad b ph _ hr').mono ?_
          rintro e w3 ⟨rfl, lb3⟩
          have HC3 := Lib.hid (HC.out.below (via lb3 (by go_grown) (by go_size)))
          have ho := Only.of_below (b := b) lb3
          have oB : Only b wr w3 := (((Only.refl b wr).alloc _).alloc _).trans ho
          have q0 : w3.cell? ⟨w2.heap.size, 0, none⟩ = some (.int .i64 wa) := oB.cell hbp p0
          have q1 : w3.cell? ⟨w2.heap.size, 1, none⟩ = some (.int .u32 wb) := oB.cell hbp p1
          have q2 : w3.cell? ⟨w2.heap.size, 2, none⟩ = some (.int .u32 wm) := oB.cell hbp p2
          have qf : ∀ j, w3.frozen? ⟨w2.heap.size, j, none⟩ = false := fun j => oB.frz hbp hpr (pf j)
          have m0 : w3.cell? ⟨wr.heap.size + 1, 0, none⟩ = some (.int .i64 0) := ho.cell hsb (by simp)
          have m1 : w3.cell? ⟨wr.heap.size + 1, 1, none⟩ = some (.int .u32 0) := ho.cell hsb (by simp)
          have m2 : w3.cell? ⟨wr.heap.size + 1, 2, none⟩ = some (.int .u32 0) := ho.cell hsb (by simp)
          have f0 : w3.frozen? ⟨wr.heap.size + 1, 0, none⟩ = false := ho.frz hsb (by simp) (by simp)
          have f1 : w3.frozen? ⟨wr.heap.size + 1, 1, none⟩ = false := ho.frz hsb (by simp) (by simp)
          have f2 : w3.frozen? ⟨wr.heap.size + 1, 2, none⟩ = false := ho.frz hsb (by simp) (by simp)
          have HQ := Lib.hid qf
          have lBw := Lib.hid (hB.trans (oB.below HBW.out hwr))
          clear qf
          clear ho lb3 p0 p1 p2 o0 o1 o2 o3 o4 pf
          go_wp2
          go_roundw
          case rel => exact ⟨k + 1, h, up, lw, lt, wa, wb, wm, by omega, by go_num, rfl, HC3.out.set3 hsb, ⟨l0, l1⟩, ⟨v0, v1⟩, HW.out, set3_cell hsp q0, set3_cell hsp q1, set3_cell hsp q2, fun j => set3_frozen (HQ.out j), set3_below lBw.out (by omega)⟩
          case measure => simp [intOf]; omega
      · have k0' : (kd == 0) = false := by simpa using k0
        clear k0
        by_cases k1 : kd = 1
        · skip
          subst k1
          by_cases hE : upE off up ph lw lt iw it im = 0
          · obtain ⟨A, B, hAu, hAp, hlex, hin, ⟨hB0, hB1⟩, hoff, ⟨hp0, hp1⟩, ⟨hq0, hq1⟩, hU⟩ := update_ok b mk off up ph lw lt iw it im l0 l1 it0 it1 im0 im1 hE
            have HU := Lib.hid hU
            clear hU hE
            have d1 : decide (up < A) = false := decide_eq_false (by omega)
            have d2 : decide (A < ph) = false := decide_eq_false (by omega)
            have hin1 : cmpS iw it im A B mk = -1 := cmp_less hin
            have d3 : decide (off < iw - ph) = false := decide_eq_false (by omega)
            have hwr2 : IntKind.i64.wrap (iw - ph) = iw - ph := IntWalk.i64_in _ (by omega)
            have HW2 := Lib.hid hwr2
            have HLX := Lib.hid hlex
            clear hwr2
            clear hlex hin
            go_wp2_with fail
            apply region_phase (fun p w' => match p with | 0 => w'.cell? ⟨wr.heap.size, 0, none⟩ = some (.int .i64 1) ∧ w'.cell? ⟨wr.heap.size, 1, none⟩ = some (.int .i64 ph) ∧ w'.cell? ⟨wr.heap.size, 2, none⟩ = some (.int .i64 iw) ∧ w'.cell? ⟨wr.heap.size, 3, none⟩ = some (.int .u32 it) ∧ w'.cell? ⟨wr.heap.size, 4, none⟩ = some (.int .u32 im) ∧ w'.cell? ⟨w2.heap.size, 0, none⟩ = some (.int .i64 wa) ∧ w'.cell? ⟨w2.heap.size, 1, none⟩ = some (.int .u32 wb) ∧ w'.cell? ⟨w2.heap.size, 2, none⟩ = some (.int .u32 wm) ∧ w'.cell? ⟨wr.heap.size + 1, 0, none⟩ = some (.int .i64 0) ∧ w'.cell? ⟨wr.heap.size + 1, 1, none⟩ = some (.int .u32 0) ∧ w'.cell? ⟨wr.heap.size + 1, 2, none⟩ = some (.int .u32 0) ∧ Clk w' b off up mk lw lt ∧ (∀ j, w'.frozen? ⟨w2.heap.size, j, none⟩ = false) ∧ (∀ j, w'.frozen? ⟨wr.heap.size + 1, j, none⟩ = false) ∧ Below w.heap.size w w' | 1 => w'.cell? ⟨wr.heap.size, 0, none⟩ = some (.int .i64 1) ∧ w'.cell? ⟨wr.heap.size, 1, none⟩ = some (.int .i64 ph) ∧ w'.cell? ⟨wr.heap.size, 2, none⟩ = some (.int .i64 iw) ∧ w'.cell? ⟨wr.heap.size, 3, none⟩ = some (.int .u32 it) ∧ w'.cell? ⟨wr.heap.size, 4, none⟩ = some (.int .u32 im) ∧ w'.cell? ⟨w2.heap.size, 0, none⟩ = some (.int .i64 wa) ∧ w'.cell? ⟨w2.heap.size, 1, none⟩ = some (.int .u32 wb) ∧ w'.cell? ⟨w2.heap.size, 2, none⟩ = some (.int .u32 wm) ∧ w'.cell? ⟨wr.heap.size + 1, 0, none⟩ = some (.int .i64 0) ∧ w'.cell? ⟨wr.heap.size + 1, 1, none⟩ = some (.int .u32 0) ∧ w'.cell? ⟨wr.heap.size + 1, 2, none⟩ = some (.int .u32 0) ∧ Clk w' b off up mk A B ∧ (∀ j, w'.frozen? ⟨w2.heap.size, j, none⟩ = false) ∧ (∀ j, w'.frozen? ⟨wr.heap.size + 1, j, none⟩ = false) ∧ Below w.heap.size w w' | _ => w'.cell? ⟨wr.heap.size, 0, none⟩ = some (.int .i64 1) ∧ w'.cell? ⟨wr.heap.size, 1, none⟩ = some (.int .i64 ph) ∧ w'.cell? ⟨wr.heap.size, 2, none⟩ = some (.int .i64 iw) ∧ w'.cell? ⟨wr.heap.size, 3, none⟩ = some (.int .u32 it) ∧ w'.cell? ⟨wr.heap.size, 4, none⟩ = some (.int .u32 im) ∧ w'.cell? ⟨w2.heap.size, 0, none⟩ = some (.int .i64 wa) ∧ w'.cell? ⟨w2.heap.size, 1, none⟩ = some (.int .u32 wb) ∧ w'.cell? ⟨w2.heap.size, 2, none⟩ = some (.int .u32 wm) ∧ w'.cell? ⟨wr.heap.size + 1, 0, none⟩ = some (.int .i64 A) ∧ w'.cell? ⟨wr.heap.size + 1, 1, none⟩ = some (.int .u32 B) ∧ w'.cell? ⟨wr.heap.size + 1, 2, none⟩ = some (.int .u32 mk) ∧ Clk w' b off up mk A B ∧ (∀ j, w'.frozen? ⟨w2.heap.size, j, none⟩ = false) ∧ (∀ j, w'.frozen? ⟨wr.heap.size + 1, j, none⟩ = false) ∧ Below w.heap.size w w') [6, 10] [none, none, some 0, none, some 0, some 0, some 0, none, none, none, some 1, none] [.pointer (some ⟨b, 0, none⟩), .pointer (some ⟨wr.heap.size, 1, none⟩), .int .i64 ph, .pointer (some ⟨wr.heap.size, 2, none⟩), .agg #[.int .i64 iw, .int .u32 it, .int .u32 im], .agg #[.int .i64 iw, .int .u32 it, .int .u32 im], .tuple #[.agg #[.int .i64 A, .int .u32 B, .int .u32 mk], .int .i64 0], .tuple #[.agg #[.int .i64 A, .int .u32 B, .int .u32 mk], .int .i64 0], .agg #[.int .i64 A, .int .u32 B, .int .u32 mk], .int .i64 0, undef, .int .i64 0]
            case hm => kernel_rfl
            case hf => kernel_rfl
            case hp => kernel_rfl
            case hQ => exact (by intro c x y w e h; exact And.intro (e.symm.trans (And.left h)) (And.right h))
            case hF => simp only [putAll, Act.put, List.setIfInBounds_toArray, List.set_cons_zero, List.set_cons_succ, Nat.reduceAdd, List.getD_cons_zero, List.getD_cons_succ]; rfl
            case h0 =>
              clear o0 o1 o2 o3 o4
              exact ⟨(by simp [go_sem]), (by simp [go_sem]), (by simp [go_sem]), (by simp [go_sem]), (by simp [go_sem]), (((Only.refl b wr).alloc _).alloc _).drew.cell hbp p0, (((Only.refl b wr).alloc _).alloc _).drew.cell hbp p1, (((Only.refl b wr).alloc _).alloc _).drew.cell hbp p2, (by simp [go_sem]), (by simp [go_sem]), (by simp [go_sem]), HC.out.below ((((Below.refl wr.heap.size wr).alloc (Nat.le_refl _) _).alloc (by simp) _).drew), (fun j => (((Only.refl b wr).alloc _).alloc _).drew.frz hbp hpr (pf j)), (fun j => by simp [go_sem]), hB.trans ((((Only.refl b wr).alloc _).alloc _).drew.below HBW.out hwr)⟩
            case hstep =>
              clear o0 o1 o2 o3 o4 p0 p1 p2 pf HC HW HLX HW2 d1 d2 hin1 d3
              repeat' (first | exact AllOps.nil | apply AllOps.cons)
              · intro wx hS K hK
                replace hK : ∀ (v : Value) (w' : World), v = .pointer (some ⟨b, 0, none⟩) → w' = wx → K _ w' := hK
                simp only [Act.put, List.setIfInBounds_toArray, List.set_cons_zero, List.set_cons_succ, Nat.reduceAdd, List.getD_cons_zero, List.getD_cons_succ] at hK ⊢
                have HK := Lib.hid hK
                clear hK hS
                go_simp
                exact HK.out _ _ rfl rfl
              · intro wx hS K hK
                replace hK : ∀ (v : Value) (w' : World), v = .pointer (some ⟨wr.heap.size, 1, none⟩) → w' = wx → K _ w' := hK
                simp only [Act.put, List.setIfInBounds_toArray, List.set_cons_zero, List.set_cons_succ, Nat.reduceAdd, List.getD_cons_zero, List.getD_cons_succ] at hK ⊢
                have HK := Lib.hid hK
                clear hK hS
                go_simp
                exact HK.out _ _ rfl rfl
              · intro wx hS K hK
                replace hK : ∀ (v : Value) (w' : World), v = .int .i64 ph → (w'.cell? ⟨wr.heap.size, 0, none⟩ = some (.int .i64 1) ∧ w'.cell? ⟨wr.heap.size, 1, none⟩ = some (.int .i64 ph) ∧ w'.cell? ⟨wr.heap.size, 2, none⟩ = some (.int .i64 iw) ∧ w'.cell? ⟨wr.heap.size, 3, none⟩ = some (.int .u32 it) ∧ w'.cell? ⟨wr.heap.size, 4, none⟩ = some (.int .u32 im) ∧ w'.cell? ⟨w2.heap.size, 0, none⟩ = some (.int .i64 wa) ∧ w'.cell? ⟨w2.heap.size, 1, none⟩ = some (.int .u32 wb) ∧ w'.cell? ⟨w2.heap.size, 2, none⟩ = some (.int .u32 wm) ∧ w'.cell? ⟨wr.heap.size + 1, 0, none⟩ = some (.int .i64 0) ∧ w'.cell? ⟨wr.heap.size + 1, 1, none⟩ = some (.int .u32 0) ∧ w'.cell? ⟨wr.heap.size + 1, 2, none⟩ = some (.int .u32 0) ∧ Clk w' b off up mk lw lt ∧ (∀ j, w'.frozen? ⟨w2.heap.size, j, none⟩ = false) ∧ (∀ j, w'.frozen? ⟨wr.heap.size + 1, j, none⟩ = false) ∧ Below w.heap.size w w') → K _ w' := hK
                replace hS : wx.cell? ⟨wr.heap.size, 0, none⟩ = some (.int .i64 1) ∧ wx.cell? ⟨wr.heap.size, 1, none⟩ = some (.int .i64 ph) ∧ wx.cell? ⟨wr.heap.size, 2, none⟩ = some (.int .i64 iw) ∧ wx.cell? ⟨wr.heap.size, 3, none⟩ = some (.int .u32 it) ∧ wx.cell? ⟨wr.heap.size, 4, none⟩ = some (.int .u32 im) ∧ wx.cell? ⟨w2.heap.size, 0, none⟩ = some (.int .i64 wa) ∧ wx.cell? ⟨w2.heap.size, 1, none⟩ = some (.int .u32 wb) ∧ wx.cell? ⟨w2.heap.size, 2, none⟩ = some (.int .u32 wm) ∧ wx.cell? ⟨wr.heap.size + 1, 0, none⟩ = some (.int .i64 0) ∧ wx.cell? ⟨wr.heap.size + 1, 1, none⟩ = some (.int .u32 0) ∧ wx.cell? ⟨wr.heap.size + 1, 2, none⟩ = some (.int .u32 0) ∧ Clk wx b off up mk lw lt ∧ (∀ j, wx.frozen? ⟨w2.heap.size, j, none⟩ = false) ∧ (∀ j, wx.frozen? ⟨wr.heap.size + 1, j, none⟩ = false) ∧ Below w.heap.size w wx := hS
                simp only [Act.put, List.setIfInBounds_toArray, List.set_cons_zero, List.set_cons_succ, Nat.reduceAdd, List.getD_cons_zero, List.getD_cons_succ] at hK ⊢
                have HK := Lib.hid hK
                have HS := Lib.hid hS
                clear hK
                obtain ⟨a0, a1, a2, a3, a4, q0, q1, q2, m0, m1, m2, hC, qf, mf, hB⟩ := hS
                go_simp
                exact HK.out _ _ rfl HS.out
              · intro wx hS K hK
                replace hK : ∀ (v : Value) (w' : World), v = .pointer (some ⟨wr.heap.size, 2, none⟩) → w' = wx → K _ w' := hK
                simp only [Act.put, List.setIfInBounds_toArray, List.set_cons_zero, List.set_cons_succ, Nat.reduceAdd, List.getD_cons_zero, List.getD_cons_succ] at hK ⊢
                have HK := Lib.hid hK
                clear hK hS
                go_simp
                exact HK.out _ _ rfl rfl
              · intro wx hS K hK
                replace hK : ∀ (v : Value) (w' : World), v = .agg #[.int .i64 iw, .int .u32 it, .int .u32 im] → (w'.cell? ⟨wr.heap.size, 0, none⟩ = some (.int .i64 1) ∧ w'.cell? ⟨wr.heap.size, 1, none⟩ = some (.int .i64 ph) ∧ w'.cell? ⟨wr.heap.size, 2, none⟩ = some (.int .i64 iw) ∧ w'.cell? ⟨wr.heap.size, 3, none⟩ = some (.int .u32 it) ∧ w'.cell? ⟨wr.heap.size, 4, none⟩ = some (.int .u32 im) ∧ w'.cell? ⟨w2.heap.size, 0, none⟩ = some (.int .i64 wa) ∧ w'.cell? ⟨w2.heap.size, 1, none⟩ = some (.int .u32 wb) ∧ w'.cell? ⟨w2.heap.size, 2, none⟩ = some (.int .u32 wm) ∧ w'.cell? ⟨wr.heap.size + 1, 0, none⟩ = some (.int .i64 0) ∧ w'.cell? ⟨wr.heap.size + 1, 1, none⟩ = some (.int .u32 0) ∧ w'.cell? ⟨wr.heap.size + 1, 2, none⟩ = some (.int .u32 0) ∧ Clk w' b off up mk lw lt ∧ (∀ j, w'.frozen? ⟨w2.heap.size, j, none⟩ = false) ∧ (∀ j, w'.frozen? ⟨wr.heap.size + 1, j, none⟩ = false) ∧ Below w.heap.size w w') → K _ w' := hK
                replace hS : wx.cell? ⟨wr.heap.size, 0, none⟩ = some (.int .i64 1) ∧ wx.cell? ⟨wr.heap.size, 1, none⟩ = some (.int .i64 ph) ∧ wx.cell? ⟨wr.heap.size, 2, none⟩ = some (.int .i64 iw) ∧ wx.cell? ⟨wr.heap.size, 3, none⟩ = some (.int .u32 it) ∧ wx.cell? ⟨wr.heap.size, 4, none⟩ = some (.int .u32 im) ∧ wx.cell? ⟨w2.heap.size, 0, none⟩ = some (.int .i64 wa) ∧ wx.cell? ⟨w2.heap.size, 1, none⟩ = some (.int .u32 wb) ∧ wx.cell? ⟨w2.heap.size, 2, none⟩ = some (.int .u32 wm) ∧ wx.cell? ⟨wr.heap.size + 1, 0, none⟩ = some (.int .i64 0) ∧ wx.cell? ⟨wr.heap.size + 1, 1, none⟩ = some (.int .u32 0) ∧ wx.cell? ⟨wr.heap.size + 1, 2, none⟩ = some (.int .u32 0) ∧ Clk wx b off up mk lw lt ∧ (∀ j, wx.frozen? ⟨w2.heap.size, j, none⟩ = false) ∧ (∀ j, wx.frozen? ⟨wr.heap.size + 1, j, none⟩ = false) ∧ Below w.heap.size w wx := hS
                simp only [Act.put, List.setIfInBounds_toArray, List.set_cons_zero, List.set_cons_succ, Nat.reduceAdd, List.getD_cons_zero, List.getD_cons_succ] at hK ⊢
                have HK := Lib.hid hK
                have HS := Lib.hid hS
                clear hK
                obtain ⟨a0, a1, a2, a3, a4, q0, q1, q2, m0, m1, m2, hC, qf, mf, hB⟩ := hS
                go_simp
                exact HK.out _ _ rfl HS.out
              · intro wx hS K hK
                replace hK : ∀ (v : Value) (w' : World), v = .agg #[.int .i64 iw, .int .u32 it, .int .u32 im] → (w'.cell? ⟨wr.heap.size, 0, none⟩ = some (.int .i64 1) ∧ w'.cell? ⟨wr.heap.size, 1, none⟩ = some (.int .i64 ph) ∧ w'.cell? ⟨wr.heap.size, 2, none⟩ = some (.int .i64 iw) ∧ w'.cell? ⟨wr.heap.size, 3, none⟩ = some (.int .u32 it) ∧ w'.cell? ⟨wr.heap.size, 4, none⟩ = some (.int .u32 im) ∧ w'.cell? ⟨w2.heap.size, 0, none⟩ = some (.int .i64 wa) ∧ w'.cell? ⟨w2.heap.size, 1, none⟩ = some (.int .u32 wb) ∧ w'.cell? ⟨w2.heap.size, 2, none⟩ = some (.int .u32 wm) ∧ w'.cell? ⟨wr.heap.size + 1, 0, none⟩ = some (.int .i64 0) ∧ w'.cell? ⟨wr.heap.size + 1, 1, none⟩ = some (.int .u32 0) ∧ w'.cell? ⟨wr.heap.size + 1, 2, none⟩ = some (.int .u32 0) ∧ Clk w' b off up mk lw lt ∧ (∀ j, w'.frozen? ⟨w2.heap.size, j, none⟩ = false) ∧ (∀ j, w'.frozen? ⟨wr.heap.size + 1, j, none⟩ = false) ∧ Below w.heap.size w w') → K _ w' := hK
                replace hS : wx.cell? ⟨wr.heap.size, 0, none⟩ = some (.int .i64 1) ∧ wx.cell? ⟨wr.heap.size, 1, none⟩ = some (.int .i64 ph) ∧ wx.cell? ⟨wr.heap.size, 2, none⟩ = some (.int .i64 iw) ∧ wx.cell? ⟨wr.heap.size, 3, none⟩ = some (.int .u32 it) ∧ wx.cell? ⟨wr.heap.size, 4, none⟩ = some (.int .u32 im) ∧ wx.cell? ⟨w2.heap.size, 0, none⟩ = some (.int .i64 wa) ∧ wx.cell? ⟨w2.heap.size, 1, none⟩ = some (.int .u32 wb) ∧ wx.cell? ⟨w2.heap.size, 2, none⟩ = some (.int .u32 wm) ∧ wx.cell? ⟨wr.heap.size + 1, 0, none⟩ = some (.int .i64 0) ∧ wx.cell? ⟨wr.heap.size + 1, 1, none⟩ = some (.int .u32 0) ∧ wx.cell? ⟨wr.heap.size + 1, 2, none⟩ = some (.int .u32 0) ∧ Clk wx b off up mk lw lt ∧ (∀ j, wx.frozen? ⟨w2.heap.size, j, none⟩ = false) ∧ (∀ j, wx.frozen? ⟨wr.heap.size + 1, j, none⟩ = false) ∧ Below w.heap.size w wx := hS
                simp only [Act.put, List.setIfInBounds_toArray, List.set_cons_zero, List.set_cons_succ, Nat.reduceAdd, List.getD_cons_zero, List.getD_cons_succ] at hK ⊢
                have HK := Lib.hid hK
                have HS := Lib.hid hS
                clear hK
                obtain ⟨a0, a1, a2, a3, a4, q0, q1, q2, m0, m1, m2, hC, qf, mf, hB⟩ := hS
                clear HS
                go_simp
                go_at_call 12
                refine (to_any _ _ _ _).mono ?_
                rintro e w1 ⟨rfl, hb⟩
                refine HK.out _ _ rfl ?_
                exact ⟨kept hb a0, kept hb a1, kept hb a2, kept hb a3, kept hb a4, kept hb q0, kept hb q1, kept hb q2, kept hb m0, kept hb m1, kept hb m2, hC.below hb, frz_below hb q0 qf, frz_below hb m0 mf, via hb hB hB.size⟩
              · intro wx hS K hK
                replace hK : ∀ (v : Value) (w' : World), v = .tuple #[.agg #[.int .i64 A, .int .u32 B, .int .u32 mk], .int .i64 0] → (w'.cell? ⟨wr.heap.size, 0, none⟩ = some (.int .i64 1) ∧ w'.cell? ⟨wr.heap.size, 1, none⟩ = some (.int .i64 ph) ∧ w'.cell? ⟨wr.heap.size, 2, none⟩ = some (.int .i64 iw) ∧ w'.cell? ⟨wr.heap.size, 3, none⟩ = some (.int .u32 it) ∧ w'.cell? ⟨wr.heap.size, 4, none⟩ = some (.int .u32 im) ∧ w'.cell? ⟨w2.heap.size, 0, none⟩ = some (.int .i64 wa) ∧ w'.cell? ⟨w2.heap.size, 1, none⟩ = some (.int .u32 wb) ∧ w'.cell? ⟨w2.heap.size, 2, none⟩ = some (.int .u32 wm) ∧ w'.cell? ⟨wr.heap.size + 1, 0, none⟩ = some (.int .i64 0) ∧ w'.cell? ⟨wr.heap.size + 1, 1, none⟩ = some (.int .u32 0) ∧ w'.cell? ⟨wr.heap.size + 1, 2, none⟩ = some (.int .u32 0) ∧ Clk w' b off up mk A B ∧ (∀ j, w'.frozen? ⟨w2.heap.size, j, none⟩ = false) ∧ (∀ j, w'.frozen? ⟨wr.heap.size + 1, j, none⟩ = false) ∧ Below w.heap.size w w') → K _ w' := hK
                replace hS : wx.cell? ⟨wr.heap.size, 0, none⟩ = some (.int .i64 1) ∧ wx.cell? ⟨wr.heap.size, 1, none⟩ = some (.int .i64 ph) ∧ wx.cell? ⟨wr.heap.size, 2, none⟩ = some (.int .i64 iw) ∧ wx.cell? ⟨wr.heap.size, 3, none⟩ = some (.int .u32 it) ∧ wx.cell? ⟨wr.heap.size, 4, none⟩ = some (.int .u32 im) ∧ wx.cell? ⟨w2.heap.size, 0, none⟩ = some (.int .i64 wa) ∧ wx.cell? ⟨w2.heap.size, 1, none⟩ = some (.int .u32 wb) ∧ wx.cell? ⟨w2.heap.size, 2, none⟩ = some (.int .u32 wm) ∧ wx.cell? ⟨wr.heap.size + 1, 0, none⟩ = some (.int .i64 0) ∧ wx.cell? ⟨wr.heap.size + 1, 1, none⟩ = some (.int .u32 0) ∧ wx.cell? ⟨wr.heap.size + 1, 2, none⟩ = some (.int .u32 0) ∧ Clk wx b off up mk lw lt ∧ (∀ j, wx.frozen? ⟨w2.heap.size, j, none⟩ = false) ∧ (∀ j, wx.frozen? ⟨wr.heap.size + 1, j, none⟩ = false) ∧ Below w.heap.size w wx := hS
                simp only [Act.put, List.setIfInBounds_toArray, List.set_cons_zero, List.set_cons_succ, Nat.reduceAdd, List.getD_cons_zero, List.getD_cons_succ] at hK ⊢
                have HK := Lib.hid hK
                have HS := Lib.hid hS
                clear hK
                obtain ⟨a0, a1, a2, a3, a4, q0, q1, q2, m0, m1, m2, hC, qf, mf, hB⟩ := hS
                clear HS
                have HC := Lib.hid hC
                clear hC
                go_simp
                go_at_call 27
                refine (HU.out _ HC.out).mono ?_
                rintro e w1 ⟨rfl, ho, hc⟩
                refine HK.out _ _ rfl ?_
                have y0 : w2.heap.size < wx.heap.size := World.block_lt_of_cell? wx _ q0
                have y1 : wr.heap.size + 1 < wx.heap.size := World.block_lt_of_cell? wx _ m0
                exact ⟨ho.cell hob a0, ho.cell hob a1, ho.cell hob a2, ho.cell hob a3, ho.cell hob a4, ho.cell hbp q0, ho.cell hbp q1, ho.cell hbp q2, ho.cell hsb m0, ho.cell hsb m1, ho.cell hsb m2, hc, (fun j => ho.frz hbp y0 (qf j)), (fun j => ho.frz hsb y1 (mf j)), hB.trans (ho.below HBW.out hB.size)⟩
              · intro wx hS K hK
                replace hK : ∀ (v : Value) (w' : World), v = .tuple #[.agg #[.int .i64 A, .int .u32 B, .int .u32 mk], .int .i64 0] → w' = wx → K _ w' := hK
                simp only [Act.put, List.setIfInBounds_toArray, List.set_cons_zero, List.set_cons_succ, Nat.reduceAdd, List.getD_cons_zero, List.getD_cons_succ] at hK ⊢
                have HK := Lib.hid hK
                clear hK hS
                go_simp
                exact HK.out _ _ rfl rfl
              · intro wx hS K hK
                replace hK : ∀ (v : Value) (w' : World), v = .agg #[.int .i64 A, .int .u32 B, .int .u32 mk] → w' = wx → K _ w' := hK
                simp only [Act.put, List.setIfInBounds_toArray, List.set_cons_zero, List.set_cons_succ, Nat.reduceAdd, List.getD_cons_zero, List.getD_cons_succ] at hK ⊢
                have HK := Lib.hid hK
                clear hK hS
                go_simp
                exact HK.out _ _ rfl rfl
              · intro wx hS K hK
                replace hK : ∀ (v : Value) (w' : World), v = .int .i64 0 → w' = wx → K _ w' := hK
                simp only [Act.put, List.setIfInBounds_toArray, List.set_cons_zero, List.set_cons_succ, Nat.reduceAdd, List.getD_cons_zero, List.getD_cons_succ] at hK ⊢
                have HK := Lib.hid hK
                clear hK hS
                go_simp
                exact HK.out _ _ rfl rfl
              · intro wx hS K hK
                replace hK : ∀ (v : Value) (w' : World), v = undef → (w'.cell? ⟨wr.heap.size, 0, none⟩ = some (.int .i64 1) ∧ w'.cell? ⟨wr.heap.size, 1, none⟩ = some (.int .i64 ph) ∧ w'.cell? ⟨wr.heap.size, 2, none⟩ = some (.int .i64 iw) ∧ w'.cell? ⟨wr.heap.size, 3, none⟩ = some (.int .u32 it) ∧ w'.cell? ⟨wr.heap.size, 4, none⟩ = some (.int .u32 im) ∧ w'.cell? ⟨w2.heap.size, 0, none⟩ = some (.int .i64 wa) ∧ w'.cell? ⟨w2.heap.size, 1, none⟩ = some (.int .u32 wb) ∧ w'.cell? ⟨w2.heap.size, 2, none⟩ = some (.int .u32 wm) ∧ w'.cell? ⟨wr.heap.size + 1, 0, none⟩ = some (.int .i64 A) ∧ w'.cell? ⟨wr.heap.size + 1, 1, none⟩ = some (.int .u32 B) ∧ w'.cell? ⟨wr.heap.size + 1, 2, none⟩ = some (.int .u32 mk) ∧ Clk w' b off up mk A B ∧ (∀ j, w'.frozen? ⟨w2.heap.size, j, none⟩ = false) ∧ (∀ j, w'.frozen? ⟨wr.heap.size + 1, j, none⟩ = false) ∧ Below w.heap.size w w') → K _ w' := hK
                replace hS : wx.cell? ⟨wr.heap.size, 0, none⟩ = some (.int .i64 1) ∧ wx.cell? ⟨wr.heap.size, 1, none⟩ = some (.int .i64 ph) ∧ wx.cell? ⟨wr.heap.size, 2, none⟩ = some (.int .i64 iw) ∧ wx.cell? ⟨wr.heap.size, 3, none⟩ = some (.int .u32 it) ∧ wx.cell? ⟨wr.heap.size, 4, none⟩ = some (.int .u32 im) ∧ wx.cell? ⟨w2.heap.size, 0, none⟩ = some (.int .i64 wa) ∧ wx.cell? ⟨w2.heap.size, 1, none⟩ = some (.int .u32 wb) ∧ wx.cell? ⟨w2.heap.size, 2, none⟩ = some (.int .u32 wm) ∧ wx.cell? ⟨wr.heap.size + 1, 0, none⟩ = some (.int .i64 0) ∧ wx.cell? ⟨wr.heap.size + 1, 1, none⟩ = some (.int .u32 0) ∧ wx.cell? ⟨wr.heap.size + 1, 2, none⟩ = some (.int .u32 0) ∧ Clk wx b off up mk A B ∧ (∀ j, wx.frozen? ⟨w2.heap.size, j, none⟩ = false) ∧ (∀ j, wx.frozen? ⟨wr.heap.size + 1, j, none⟩ = false) ∧ Below w.heap.size w wx := hS
                simp only [Act.put, List.setIfInBounds_toArray, List.set_cons_zero, List.set_cons_succ, Nat.reduceAdd, List.getD_cons_zero, List.getD_cons_succ] at hK ⊢
                have HK := Lib.hid hK
                have HS := Lib.hid hS
                clear hK
                obtain ⟨a0, a1, a2, a3, a4, q0, q1, q2, m0, m1, m2, hC, qf, mf, hB⟩ := hS
                clear HS
                have f0 := mf 0
                have f1 := mf 1
                have f2 := mf 2
                have HF := Lib.hid qf
                have HM := Lib.hid mf
                have HC := Lib.hid hC
                have hbz := hB.size
                have HB2 := Lib.hid hB
                clear qf mf hC hB
                go_simp
                refine HK.out _ (set3 wx (wr.heap.size + 1) (.int .i64 A) (.int .u32 B) (.int .u32 mk)) rfl ?_
                have hne : wr.heap.size + 1 ≠ wr.heap.size := Nat.succ_ne_self _
                exact ⟨set3_cell hne a0, set3_cell hne a1, set3_cell hne a2, set3_cell hne a3, set3_cell hne a4, set3_cell hsp q0, set3_cell hsp q1, set3_cell hsp q2, set3_at0 m0, set3_at1 m1, set3_at2 m2, HC.out.set3 hsb, (fun j => set3_frozen (HF.out j)), (fun j => set3_frozen (HM.out j)), set3_below HB2.out (by omega)⟩
              · intro wx hS K hK
                replace hK : ∀ (v : Value) (w' : World), v = .int .i64 0 → w' = wx → K _ w' := hK
                simp only [Act.put, List.setIfInBounds_toArray, List.set_cons_zero, List.set_cons_succ, Nat.reduceAdd, List.getD_cons_zero, List.getD_cons_succ] at hK ⊢
                have HK := Lib.hid hK
                clear hK hS
                go_simp
                exact HK.out _ _ rfl rfl
            case hend =>
              intro wy hS
              clear HC p0 p1 p2 pf o0 o1 o2 o3 o4 hB
              replace hS : wy.cell? ⟨wr.heap.size, 0, none⟩ = some (.int .i64 1) ∧ wy.cell? ⟨wr.heap.size, 1, none⟩ = some (.int .i64 ph) ∧ wy.cell? ⟨wr.heap.size, 2, none⟩ = some (.int .i64 iw) ∧ wy.cell? ⟨wr.heap.size, 3, none⟩ = some (.int .u32 it) ∧ wy.cell? ⟨wr.heap.size, 4, none⟩ = some (.int .u32 im) ∧ wy.cell? ⟨w2.heap.size, 0, none⟩ = some (.int .i64 wa) ∧ wy.cell? ⟨w2.heap.size, 1, none⟩ = some (.int .u32 wb) ∧ wy.cell? ⟨w2.heap.size, 2, none⟩ = some (.int .u32 wm) ∧ wy.cell? ⟨wr.heap.size + 1, 0, none⟩ = some (.int .i64 A) ∧ wy.cell? ⟨wr.heap.size + 1, 1, none⟩ = some (.int .u32 B) ∧ wy.cell? ⟨wr.heap.size + 1, 2, none⟩ = some (.int .u32 mk) ∧ Clk wy b off up mk A B ∧ (∀ j, wy.frozen? ⟨w2.heap.size, j, none⟩ = false) ∧ (∀ j, wy.frozen? ⟨wr.heap.size + 1, j, none⟩ = false) ∧ Below w.heap.size w wy := hS
              obtain ⟨a0, a1, a2, a3, a4, q0, q1, q2, m0, m1, m2, hC, qf, mf, hB⟩ := hS
              have X0 := Lib.hid qf
              clear qf mf
              go_wp2_with fail
              by_cases hd : ph < iw
              · have d4 : decide (ph < iw) = true := decide_eq_true hd
                have qf := X0.out
                have hwr2 := HW2.out
                clear hd a0 X0
                apply region_vals (fun w' => w'.cell? ⟨wr.heap.size + 1, 0, none⟩ = some (.int .i64 A) ∧ w'.cell? ⟨wr.heap.size + 1, 1, none⟩ = some (.int .u32 B) ∧ w'.cell? ⟨wr.heap.size + 1, 2, none⟩ = some (.int .u32 mk) ∧ w'.cell? ⟨wr.heap.size, 1, none⟩ = some (.int .i64 ph) ∧ w'.cell? ⟨wr.heap.size, 2, none⟩ = some (.int .i64 iw) ∧ w'.cell? ⟨wr.heap.size, 3, none⟩ = some (.int .u32 it) ∧ w'.cell? ⟨wr.heap.size, 4, none⟩ = some (.int .u32 im) ∧ w'.cell? ⟨w2.heap.size, 0, none⟩ = some (.int .i64 wa) ∧ w'.cell? ⟨w2.heap.size, 1, none⟩ = some (.int .u32 wb) ∧ w'.cell? ⟨w2.heap.size, 2, none⟩ = some (.int .u32 wm) ∧ Clk w' b off up mk A B ∧ (∀ j, w'.frozen? ⟨w2.heap.size, j, none⟩ = false) ∧ Below w.heap.size w w') [.int .i64 0, .bool true, .bool true, .pointer (some ⟨wr.heap.size, 2, none⟩), .agg #[.int .i64 iw, .int .u32 it, .int .u32 im], .agg #[.int .i64 iw, .int .u32 it, .int .u32 im], .agg #[.int .i64 A, .int .u32 B, .int .u32 mk], .int .i64 (-1), .bool false, .bool false, .pointer (some ⟨wr.heap.size, 2, none⟩), .pointer (some ⟨wr.heap.size, 2, none⟩), .int .i64 iw, .pointer (some ⟨wr.heap.size, 1, none⟩), .int .i64 ph, .bool true, .bool true, .pointer (some ⟨wr.heap.size, 2, none⟩), .pointer (some ⟨wr.heap.size, 2, none⟩), .int .i64 iw, .pointer (some ⟨wr.heap.size, 1, none⟩), .int .i64 ph, .int .i64 (iw - ph), .int .i64 off, .bool false, .bool false, .bool false, .bool false]
                case hm => kernel_rfl
                case hf => kernel_rfl
                case hQ => exact (by intro c x y w e h; exact And.intro (e.symm.trans (And.left h)) (And.right h))
                case hF => simp only [putAll, Act.put, List.setIfInBounds_toArray, List.set_cons_zero, List.set_cons_succ, Nat.reduceAdd, List.getD_cons_zero, List.getD_cons_succ]; rfl
                case h0 => (((try dsimp only); go_split_ands; (repeat' apply And.intro) <;> first | assumption | (apply kept; assumption; assumption) | (apply via; assumption; assumption; apply Below.size; assumption) | (apply Clk.below; assumption; assumption) | (apply Clk.below; assumption; apply Below.drew; exact Below.refl _ _) | (apply Below.drew; assumption) | (apply frz_below; assumption; assumption; assumption)))
                case hstep =>
                  repeat' (first | exact AllOps.nil | apply AllOps.cons)
                  all_goals
                    intro wx hS K hK
                    simp only [Act.put, List.setIfInBounds_toArray, List.set_cons_zero, List.set_cons_succ, Nat.reduceAdd, List.getD_cons_zero, List.getD_cons_succ] at hK ⊢
                    have HK := Lib.hid hK
                    have HS := Lib.hid hS
                    clear hK
                    go_split_ands
                    first
                      | (go_simp; (first | (refine HK.out _ _ ?_ ?_; (first | rfl | (first | rw [hin1] | rw [hwr2])); exact HS.out) | (go_at_call 14; refine (compare_any _ _ _ _ _ _ (by omega) (by omega) (by omega) (by omega) (by omega) (by omega) (by omega) (by omega) _).mono ?_; rintro e w1 ⟨rfl, hb⟩; refine HK.out _ _ ?_ ?_; (first | rfl | (first | rw [hin1] | rw [hwr2])); (((try dsimp only); go_split_ands; (repeat' apply And.intro) <;> first | assumption | (apply kept; assumption; assumption) | (apply via; assumption; assumption; apply Below.size; assumption) | (apply Clk.below; assumption; assumption) | (apply Clk.below; assumption; apply Below.drew; exact Below.refl _ _) | (apply Below.drew; assumption) | (apply frz_below; assumption; assumption; assumption)))) | (go_at_call 12; refine (to_any _ _ _ _).mono ?_; rintro e w1 ⟨rfl, hb⟩; refine HK.out _ _ ?_ ?_; (first | rfl | (first | rw [hin1] | rw [hwr2])); (((try dsimp only); go_split_ands; (repeat' apply And.intro) <;> first | assumption | (apply kept; assumption; assumption) | (apply via; assumption; assumption; apply Below.size; assumption) | (apply Clk.below; assumption; assumption) | (apply Clk.below; assumption; apply Below.drew; exact Below.refl _ _) | (apply Below.drew; assumption) | (apply frz_below; assumption; assumption; assumption)))) | fail))
                case hend =>
                  intro wx hS
                  go_split_ands
                  rename_i e0 e1 e2 e3 e3a e3b e3c e4 e5 e6 eC eF eB
                  go_wp2_with fail
                  clear hin1 hwr2 e3a e3b e3c
                  cases h
                  · skip
                    apply region_vals (fun w' => w'.cell? ⟨wr.heap.size + 1, 0, none⟩ = some (.int .i64 A) ∧ w'.cell? ⟨wr.heap.size + 1, 1, none⟩ = some (.int .u32 B) ∧ w'.cell? ⟨wr.heap.size + 1, 2, none⟩ = some (.int .u32 mk) ∧ w'.cell? ⟨wr.heap.size, 1, none⟩ = some (.int .i64 ph) ∧ w'.cell? ⟨w2.heap.size, 0, none⟩ = some (.int .i64 wa) ∧ w'.cell? ⟨w2.heap.size, 1, none⟩ = some (.int .u32 wb) ∧ w'.cell? ⟨w2.heap.size, 2, none⟩ = some (.int .u32 wm) ∧ Clk w' b off up mk A B ∧ (∀ j, w'.frozen? ⟨w2.heap.size, j, none⟩ = false) ∧ Below w.heap.size w w') [.pointer (some ⟨wr.heap.size + 1, 2, none⟩), .int .u32 mk, .int .u32 mk, .bool false, .bool false, .pointer (some ⟨wr.heap.size + 1, 0, none⟩), .int .i64 A, .pointer (some ⟨b, 0, none⟩), .int .i64 up, .bool false, .bool false, .bool false, .pointer (some ⟨wr.heap.size + 1, 0, none⟩), .int .i64 A, .pointer (some ⟨wr.heap.size, 1, none⟩), .int .i64 ph, .bool false, .bool false, .bool false, .bool false, .bool false, undef, undef, undef, undef, undef, .bool false, .bool false]
                    case hm => kernel_rfl
                    case hf => kernel_rfl
                    case hQ => exact (by intro c x y w e h; exact And.intro (e.symm.trans (And.left h)) (And.right h))
                    case hF => simp only [putAll, Act.put, List.setIfInBounds_toArray, List.set_cons_zero, List.set_cons_succ, Nat.reduceAdd, List.getD_cons_zero, List.getD_cons_succ]; rfl
                    case h0 => (((try dsimp only); go_split_ands; (repeat' apply And.intro) <;> first | assumption | (apply kept; assumption; assumption) | (apply via; assumption; assumption; apply Below.size; assumption) | (apply Clk.below; assumption; assumption) | (apply Clk.below; assumption; apply Below.drew; exact Below.refl _ _) | (apply Below.drew; assumption) | (apply frz_below; assumption; assumption; assumption)))
                    case hstep =>
                      repeat' (first | exact AllOps.nil | apply AllOps.cons)
                      all_goals
                        intro wx hS K hK
                        simp only [Act.put, List.setIfInBounds_toArray, List.set_cons_zero, List.set_cons_succ, Nat.reduceAdd, List.getD_cons_zero, List.getD_cons_succ] at hK ⊢
                        have HK := Lib.hid hK
                        have HS := Lib.hid hS
                        clear hK
                        go_split_ands
                        first
                          | (go_simp; (first | (refine HK.out _ _ ?_ ?_; (first | rfl | rw [hcmp]); exact HS.out) | (go_at_call 31; refine (upper_below b off up mk A B _ (by assumption)).mono ?_; rintro e w1 ⟨rfl, hb⟩; refine HK.out _ _ ?_ ?_; (first | rfl | rw [hcmp]); (((try dsimp only); go_split_ands; (repeat' apply And.intro) <;> first | assumption | (apply kept; assumption; assumption) | (apply via; assumption; assumption; apply Below.size; assumption) | (apply Clk.below; assumption; assumption) | (apply Clk.below; assumption; apply Below.drew; exact Below.refl _ _) | (apply Below.drew; assumption) | (apply frz_below; assumption; assumption; assumption)))) | (go_at_call 19; refine (last_any _ _ _ _).mono ?_; rintro e w1 ⟨rfl, hb⟩; refine HK.out _ _ ?_ ?_; (first | rfl | rw [hcmp]); (((try dsimp only); go_split_ands; (repeat' apply And.intro) <;> first | assumption | (apply kept; assumption; assumption) | (apply via; assumption; assumption; apply Below.size; assumption) | (apply Clk.below; assumption; assumption) | (apply Clk.below; assumption; apply Below.drew; exact Below.refl _ _) | (apply Below.drew; assumption) | (apply frz_below; assumption; assumption; assumption)))) | (go_at_call 14; refine (compare_any _ _ _ _ _ _ (by omega) (by omega) (by omega) (by omega) (by omega) (by omega) (by omega) (by omega) _).mono ?_; rintro e w1 ⟨rfl, hb⟩; refine HK.out _ _ ?_ ?_; (first | rfl | rw [hcmp]); (((try dsimp only); go_split_ands; (repeat' apply And.intro) <;> first | assumption | (apply kept; assumption; assumption) | (apply via; assumption; assumption; apply Below.size; assumption) | (apply Clk.below; assumption; assumption) | (apply Clk.below; assumption; apply Below.drew; exact Below.refl _ _) | (apply Below.drew; assumption) | (apply frz_below; assumption; assumption; assumption)))) | fail))
                    case hend =>
                      intro wx hS
                      go_split_ands
                      rename_i e0 e1 e2 e3 e4 e5 e6 eC eF eB
                      go_wp2
                      go_roundw
                      case rel => exact ⟨k + 1, true, up, A, B, A, B, mk, by omega, by go_num, rfl, Clk.set3 eC hbp, ⟨hB0, hB1⟩, ⟨hB0, hB1⟩, (fun _ => ⟨rfl, rfl⟩), set3_at0 e4, set3_at1 e5, set3_at2 e6, fun j => set3_frozen (eF j), set3_below eB (by omega)⟩
                      case measure => simp [intOf]; omega
                  · have hcmp : cmpS wa wb 4294967295 A B mk = -1 := cmp_less (by have := HW.out rfl; have := HLX.out; omega)
                    apply region_vals (fun w' => w'.cell? ⟨wr.heap.size + 1, 0, none⟩ = some (.int .i64 A) ∧ w'.cell? ⟨wr.heap.size + 1, 1, none⟩ = some (.int .u32 B) ∧ w'.cell? ⟨wr.heap.size + 1, 2, none⟩ = some (.int .u32 mk) ∧ w'.cell? ⟨wr.heap.size, 1, none⟩ = some (.int .i64 ph) ∧ w'.cell? ⟨w2.heap.size, 0, none⟩ = some (.int .i64 wa) ∧ w'.cell? ⟨w2.heap.size, 1, none⟩ = some (.int .u32 wb) ∧ w'.cell? ⟨w2.heap.size, 2, none⟩ = some (.int .u32 wm) ∧ Clk w' b off up mk A B ∧ (∀ j, w'.frozen? ⟨w2.heap.size, j, none⟩ = false) ∧ Below w.heap.size w w') [.pointer (some ⟨wr.heap.size + 1, 2, none⟩), .int .u32 mk, .int .u32 mk, .bool false, .bool false, .pointer (some ⟨wr.heap.size + 1, 0, none⟩), .int .i64 A, .pointer (some ⟨b, 0, none⟩), .int .i64 up, .bool false, .bool false, .bool false, .pointer (some ⟨wr.heap.size + 1, 0, none⟩), .int .i64 A, .pointer (some ⟨wr.heap.size, 1, none⟩), .int .i64 ph, .bool false, .bool false, .bool false, .bool true, .bool true, .agg #[.int .i64 wa, .int .u32 wb, .int .u32 wm], .agg #[.int .i64 wa, .int .u32 wb, .int .u32 4294967295], .agg #[.int .i64 A, .int .u32 B, .int .u32 mk], .int .i64 (-1), .bool false, .bool false, .bool false]
                    case hm => kernel_rfl
                    case hf => kernel_rfl
                    case hQ => exact (by intro c x y w e h; exact And.intro (e.symm.trans (And.left h)) (And.right h))
                    case hF => simp only [putAll, Act.put, List.setIfInBounds_toArray, List.set_cons_zero, List.set_cons_succ, Nat.reduceAdd, List.getD_cons_zero, List.getD_cons_succ]; rfl
                    case h0 => (((try dsimp only); go_split_ands; (repeat' apply And.intro) <;> first | assumption | (apply kept; assumption; assumption) | (apply via; assumption; assumption; apply Below.size; assumption) | (apply Clk.below; assumption; assumption) | (apply Clk.below; assumption; apply Below.drew; exact Below.refl _ _) | (apply Below.drew; assumption) | (apply frz_below; assumption; assumption; assumption)))
                    case hstep =>
                      repeat' (first | exact AllOps.nil | apply AllOps.cons)
                      all_goals
                        intro wx hS K hK
                        simp only [Act.put, List.setIfInBounds_toArray, List.set_cons_zero, List.set_cons_succ, Nat.reduceAdd, List.getD_cons_zero, List.getD_cons_succ] at hK ⊢
                        have HK := Lib.hid hK
                        have HS := Lib.hid hS
                        clear hK
                        go_split_ands
                        first
                          | (go_simp; (first | (refine HK.out _ _ ?_ ?_; (first | rfl | rw [hcmp]); exact HS.out) | (go_at_call 31; refine (upper_below b off up mk A B _ (by assumption)).mono ?_; rintro e w1 ⟨rfl, hb⟩; refine HK.out _ _ ?_ ?_; (first | rfl | rw [hcmp]); (((try dsimp only); go_split_ands; (repeat' apply And.intro) <;> first | assumption | (apply kept; assumption; assumption) | (apply via; assumption; assumption; apply Below.size; assumption) | (apply Clk.below; assumption; assumption) | (apply Clk.below; assumption; apply Below.drew; exact Below.refl _ _) | (apply Below.drew; assumption) | (apply frz_below; assumption; assumption; assumption)))) | (go_at_call 19; refine (last_any _ _ _ _).mono ?_; rintro e w1 ⟨rfl, hb⟩; refine HK.out _ _ ?_ ?_; (first | rfl | rw [hcmp]); (((try dsimp only); go_split_ands; (repeat' apply And.intro) <;> first | assumption | (apply kept; assumption; assumption) | (apply via; assumption; assumption; apply Below.size; assumption) | (apply Clk.below; assumption; assumption) | (apply Clk.below; assumption; apply Below.drew; exact Below.refl _ _) | (apply Below.drew; assumption) | (apply frz_below; assumption; assumption; assumption)))) | (go_at_call 14; refine (compare_any _ _ _ _ _ _ (by omega) (by omega) (by omega) (by omega) (by omega) (by omega) (by omega) (by omega) _).mono ?_; rintro e w1 ⟨rfl, hb⟩; refine HK.out _ _ ?_ ?_; (first | rfl | rw [hcmp]); (((try dsimp only); go_split_ands; (repeat' apply And.intro) <;> first | assumption | (apply kept; assumption; assumption) | (apply via; assumption; assumption; apply Below.size; assumption) | (apply Clk.below; assumption; assumption) | (apply Clk.below; assumption; apply Below.drew; exact Below.refl _ _) | (apply Below.drew; assumption) | (apply frz_below; assumption; assumption; assumption)))) | fail))
                    case hend =>
                      intro wx hS
                      go_split_ands
                      rename_i e0 e1 e2 e3 e4 e5 e6 eC eF eB
                      go_wp2
                      go_roundw
                      case rel => exact ⟨k + 1, true, up, A, B, A, B, mk, by omega, by go_num, rfl, Clk.set3 eC hbp, ⟨hB0, hB1⟩, ⟨hB0, hB1⟩, (fun _ => ⟨rfl, rfl⟩), set3_at0 e4, set3_at1 e5, set3_at2 e6, fun j => set3_frozen (eF j), set3_below eB (by omega)⟩
                      case measure => simp [intOf]; omega
              · have d4 : decide (ph < iw) = false := decide_eq_false hd
                have qf := X0.out
                have hwr2 := HW2.out
                clear hd a0 X0
                apply region_vals (fun w' => w'.cell? ⟨wr.heap.size + 1, 0, none⟩ = some (.int .i64 A) ∧ w'.cell? ⟨wr.heap.size + 1, 1, none⟩ = some (.int .u32 B) ∧ w'.cell? ⟨wr.heap.size + 1, 2, none⟩ = some (.int .u32 mk) ∧ w'.cell? ⟨wr.heap.size, 1, none⟩ = some (.int .i64 ph) ∧ w'.cell? ⟨wr.heap.size, 2, none⟩ = some (.int .i64 iw) ∧ w'.cell? ⟨wr.heap.size, 3, none⟩ = some (.int .u32 it) ∧ w'.cell? ⟨wr.heap.size, 4, none⟩ = some (.int .u32 im) ∧ w'.cell? ⟨w2.heap.size, 0, none⟩ = some (.int .i64 wa) ∧ w'.cell? ⟨w2.heap.size, 1, none⟩ = some (.int .u32 wb) ∧ w'.cell? ⟨w2.heap.size, 2, none⟩ = some (.int .u32 wm) ∧ Clk w' b off up mk A B ∧ (∀ j, w'.frozen? ⟨w2.heap.size, j, none⟩ = false) ∧ Below w.heap.size w w') [.int .i64 0, .bool true, .bool true, .pointer (some ⟨wr.heap.size, 2, none⟩), .agg #[.int .i64 iw, .int .u32 it, .int .u32 im], .agg #[.int .i64 iw, .int .u32 it, .int .u32 im], .agg #[.int .i64 A, .int .u32 B, .int .u32 mk], .int .i64 (-1), .bool false, .bool false, .pointer (some ⟨wr.heap.size, 2, none⟩), .pointer (some ⟨wr.heap.size, 2, none⟩), .int .i64 iw, .pointer (some ⟨wr.heap.size, 1, none⟩), .int .i64 ph, .bool false, .bool false, undef, undef, undef, undef, undef, undef, undef, undef, .bool false, .bool false, .bool false]
                case hm => kernel_rfl
                case hf => kernel_rfl
                case hQ => exact (by intro c x y w e h; exact And.intro (e.symm.trans (And.left h)) (And.right h))
                case hF => simp only [putAll, Act.put, List.setIfInBounds_toArray, List.set_cons_zero, List.set_cons_succ, Nat.reduceAdd, List.getD_cons_zero, List.getD_cons_succ]; rfl
                case h0 => (((try dsimp only); go_split_ands; (repeat' apply And.intro) <;> first | assumption | (apply kept; assumption; assumption) | (apply via; assumption; assumption; apply Below.size; assumption) | (apply Clk.below; assumption; assumption) | (apply Clk.below; assumption; apply Below.drew; exact Below.refl _ _) | (apply Below.drew; assumption) | (apply frz_below; assumption; assumption; assumption)))
                case hstep =>
                  repeat' (first | exact AllOps.nil | apply AllOps.cons)
                  all_goals
                    intro wx hS K hK
                    simp only [Act.put, List.setIfInBounds_toArray, List.set_cons_zero, List.set_cons_succ, Nat.reduceAdd, List.getD_cons_zero, List.getD_cons_succ] at hK ⊢
                    have HK := Lib.hid hK
                    have HS := Lib.hid hS
                    clear hK
                    go_split_ands
                    first
                      | (go_simp; (first | (refine HK.out _ _ ?_ ?_; (first | rfl | (first | rw [hin1] | rw [hwr2])); exact HS.out) | (go_at_call 14; refine (compare_any _ _ _ _ _ _ (by omega) (by omega) (by omega) (by omega) (by omega) (by omega) (by omega) (by omega) _).mono ?_; rintro e w1 ⟨rfl, hb⟩; refine HK.out _ _ ?_ ?_; (first | rfl | (first | rw [hin1] | rw [hwr2])); (((try dsimp only); go_split_ands; (repeat' apply And.intro) <;> first | assumption | (apply kept; assumption; assumption) | (apply via; assumption; assumption; apply Below.size; assumption) | (apply Clk.below; assumption; assumption) | (apply Clk.below; assumption; apply Below.drew; exact Below.refl _ _) | (apply Below.drew; assumption) | (apply frz_below; assumption; assumption; assumption)))) | (go_at_call 12; refine (to_any _ _ _ _).mono ?_; rintro e w1 ⟨rfl, hb⟩; refine HK.out _ _ ?_ ?_; (first | rfl | (first | rw [hin1] | rw [hwr2])); (((try dsimp only); go_split_ands; (repeat' apply And.intro) <;> first | assumption | (apply kept; assumption; assumption) | (apply via; assumption; assumption; apply Below.size; assumption) | (apply Clk.below; assumption; assumption) | (apply Clk.below; assumption; apply Below.drew; exact Below.refl _ _) | (apply Below.drew; assumption) | (apply frz_below; assumption; assumption; assumption)))) | fail))
                case hend =>
                  intro wx hS
                  go_split_ands
                  rename_i e0 e1 e2 e3 e3a e3b e3c e4 e5 e6 eC eF eB
                  go_wp2_with fail
                  clear hin1 hwr2 e3a e3b e3c
                  cases h
                  · skip
                    apply region_vals (fun w' => w'.cell? ⟨wr.heap.size + 1, 0, none⟩ = some (.int .i64 A) ∧ w'.cell? ⟨wr.heap.size + 1, 1, none⟩ = some (.int .u32 B) ∧ w'.cell? ⟨wr.heap.size + 1, 2, none⟩ = some (.int .u32 mk) ∧ w'.cell? ⟨wr.heap.size, 1, none⟩ = some (.int .i64 ph) ∧ w'.cell? ⟨w2.heap.size, 0, none⟩ = some (.int .i64 wa) ∧ w'.cell? ⟨w2.heap.size, 1, none⟩ = some (.int .u32 wb) ∧ w'.cell? ⟨w2.heap.size, 2, none⟩ = some (.int .u32 wm) ∧ Clk w' b off up mk A B ∧ (∀ j, w'.frozen? ⟨w2.heap.size, j, none⟩ = false) ∧ Below w.heap.size w w') [.pointer (some ⟨wr.heap.size + 1, 2, none⟩), .int .u32 mk, .int .u32 mk, .bool false, .bool false, .pointer (some ⟨wr.heap.size + 1, 0, none⟩), .int .i64 A, .pointer (some ⟨b, 0, none⟩), .int .i64 up, .bool false, .bool false, .bool false, .pointer (some ⟨wr.heap.size + 1, 0, none⟩), .int .i64 A, .pointer (some ⟨wr.heap.size, 1, none⟩), .int .i64 ph, .bool false, .bool false, .bool false, .bool false, .bool false, undef, undef, undef, undef, undef, .bool false, .bool false]
                    case hm => kernel_rfl
                    case hf => kernel_rfl
                    case hQ => exact (by intro c x y w e h; exact And.intro (e.symm.trans (And.left h)) (And.right h))
                    case hF => simp only [putAll, Act.put, List.setIfInBounds_toArray, List.set_cons_zero, List.set_cons_succ, Nat.reduceAdd, List.getD_cons_zero, List.getD_cons_succ]; rfl
                    case h0 => (((try dsimp only); go_split_ands; (repeat' apply And.intro) <;> first | assumption | (apply kept; assumption; assumption) | (apply via; assumption; assumption; apply Below.size; assumption) | (apply Clk.below; assumption; assumption) | (apply Clk.below; assumption; apply Below.drew; exact Below.refl _ _) | (apply Below.drew; assumption) | (apply frz_below; assumption; assumption; assumption)))
                    case hstep =>
                      repeat' (first | exact AllOps.nil | apply AllOps.cons)
                      all_goals
                        intro wx hS K hK
                        simp only [Act.put, List.setIfInBounds_toArray, List.set_cons_zero, List.set_cons_succ, Nat.reduceAdd, List.getD_cons_zero, List.getD_cons_succ] at hK ⊢
                        have HK := Lib.hid hK
                        have HS := Lib.hid hS
                        clear hK
                        go_split_ands
                        first
                          | (go_simp; (first | (refine HK.out _ _ ?_ ?_; (first | rfl | rw [hcmp]); exact HS.out) | (go_at_call 31; refine (upper_below b off up mk A B _ (by assumption)).mono ?_; rintro e w1 ⟨rfl, hb⟩; refine HK.out _ _ ?_ ?_; (first | rfl | rw [hcmp]); (((try dsimp only); go_split_ands; (repeat' apply And.intro) <;> first | assumption | (apply kept; assumption; assumption) | (apply via; assumption; assumption; apply Below.size; assumption) | (apply Clk.below; assumption; assumption) | (apply Clk.below; assumption; apply Below.drew; exact Below.refl _ _) | (apply Below.drew; assumption) | (apply frz_below; assumption; assumption; assumption)))) | (go_at_call 19; refine (last_any _ _ _ _).mono ?_; rintro e w1 ⟨rfl, hb⟩; refine HK.out _ _ ?_ ?_; (first | rfl | rw [hcmp]); (((try dsimp only); go_split_ands; (repeat' apply And.intro) <;> first | assumption | (apply kept; assumption; assumption) | (apply via; assumption; assumption; apply Below.size; assumption) | (apply Clk.below; assumption; assumption) | (apply Clk.below; assumption; apply Below.drew; exact Below.refl _ _) | (apply Below.drew; assumption) | (apply frz_below; assumption; assumption; assumption)))) | (go_at_call 14; refine (compare_any _ _ _ _ _ _ (by omega) (by omega) (by omega) (by omega) (by omega) (by omega) (by omega) (by omega) _).mono ?_; rintro e w1 ⟨rfl, hb⟩; refine HK.out _ _ ?_ ?_; (first | rfl | rw [hcmp]); (((try dsimp only); go_split_ands; (repeat' apply And.intro) <;> first | assumption | (apply kept; assumption; assumption) | (apply via; assumption; assumption; apply Below.size; assumption) | (apply Clk.below; assumption; assumption) | (apply Clk.below; assumption; apply Below.drew; exact Below.refl _ _) | (apply Below.drew; assumption) | (apply frz_below; assumption; assumption; assumption)))) | fail))
                    case hend =>
                      intro wx hS
                      go_split_ands
                      rename_i e0 e1 e2 e3 e4 e5 e6 eC eF eB
                      go_wp2
                      go_roundw
                      case rel => exact ⟨k + 1, true, up, A, B, A, B, mk, by omega, by go_num, rfl, Clk.set3 eC hbp, ⟨hB0, hB1⟩, ⟨hB0, hB1⟩, (fun _ => ⟨rfl, rfl⟩), set3_at0 e4, set3_at1 e5, set3_at2 e6, fun j => set3_frozen (eF j), set3_below eB (by omega)⟩
                      case measure => simp [intOf]; omega
                  · have hcmp : cmpS wa wb 4294967295 A B mk = -1 := cmp_less (by have := HW.out rfl; have := HLX.out; omega)
                    apply region_vals (fun w' => w'.cell? ⟨wr.heap.size + 1, 0, none⟩ = some (.int .i64 A) ∧ w'.cell? ⟨wr.heap.size + 1, 1, none⟩ = some (.int .u32 B) ∧ w'.cell? ⟨wr.heap.size + 1, 2, none⟩ = some (.int .u32 mk) ∧ w'.cell? ⟨wr.heap.size, 1, none⟩ = some (.int .i64 ph) ∧ w'.cell? ⟨w2.heap.size, 0, none⟩ = some (.int .i64 wa) ∧ w'.cell? ⟨w2.heap.size, 1, none⟩ = some (.int .u32 wb) ∧ w'.cell? ⟨w2.heap.size, 2, none⟩ = some (.int .u32 wm) ∧ Clk w' b off up mk A B ∧ (∀ j, w'.frozen? ⟨w2.heap.size, j, none⟩ = false) ∧ Below w.heap.size w w') [.pointer (some ⟨wr.heap.size + 1, 2, none⟩), .int .u32 mk, .int .u32 mk, .bool false, .bool false, .pointer (some ⟨wr.heap.size + 1, 0, none⟩), .int .i64 A, .pointer (some ⟨b, 0, none⟩), .int .i64 up, .bool false, .bool false, .bool false, .pointer (some ⟨wr.heap.size + 1, 0, none⟩), .int .i64 A, .pointer (some ⟨wr.heap.size, 1, none⟩), .int .i64 ph, .bool false, .bool false, .bool false, .bool true, .bool true, .agg #[.int .i64 wa, .int .u32 wb, .int .u32 wm], .agg #[.int .i64 wa, .int .u32 wb, .int .u32 4294967295], .agg #[.int .i64 A, .int .u32 B, .int .u32 mk], .int .i64 (-1), .bool false, .bool false, .bool false]
                    case hm => kernel_rfl
                    case hf => kernel_rfl
                    case hQ => exact (by intro c x y w e h; exact And.intro (e.symm.trans (And.left h)) (And.right h))
                    case hF => simp only [putAll, Act.put, List.setIfInBounds_toArray, List.set_cons_zero, List.set_cons_succ, Nat.reduceAdd, List.getD_cons_zero, List.getD_cons_succ]; rfl
                    case h0 => (((try dsimp only); go_split_ands; (repeat' apply And.intro) <;> first | assumption | (apply kept; assumption; assumption) | (apply via; assumption; assumption; apply Below.size; assumption) | (apply Clk.below; assumption; assumption) | (apply Clk.below; assumption; apply Below.drew; exact Below.refl _ _) | (apply Below.drew; assumption) | (apply frz_below; assumption; assumption; assumption)))
                    case hstep =>
                      repeat' (first | exact AllOps.nil | apply AllOps.cons)
                      all_goals
                        intro wx hS K hK
                        simp only [Act.put, List.setIfInBounds_toArray, List.set_cons_zero, List.set_cons_succ, Nat.reduceAdd, List.getD_cons_zero, List.getD_cons_succ] at hK ⊢
                        have HK := Lib.hid hK
                        have HS := Lib.hid hS
                        clear hK
                        go_split_ands
                        first
                          | (go_simp; (first | (refine HK.out _ _ ?_ ?_; (first | rfl | rw [hcmp]); exact HS.out) | (go_at_call 31; refine (upper_below b off up mk A B _ (by assumption)).mono ?_; rintro e w1 ⟨rfl, hb⟩; refine HK.out _ _ ?_ ?_; (first | rfl | rw [hcmp]); (((try dsimp only); go_split_ands; (repeat' apply And.intro) <;> first | assumption | (apply kept; assumption; assumption) | (apply via; assumption; assumption; apply Below.size; assumption) | (apply Clk.below; assumption; assumption) | (apply Clk.below; assumption; apply Below.drew; exact Below.refl _ _) | (apply Below.drew; assumption) | (apply frz_below; assumption; assumption; assumption)))) | (go_at_call 19; refine (last_any _ _ _ _).mono ?_; rintro e w1 ⟨rfl, hb⟩; refine HK.out _ _ ?_ ?_; (first | rfl | rw [hcmp]); (((try dsimp only); go_split_ands; (repeat' apply And.intro) <;> first | assumption | (apply kept; assumption; assumption) | (apply via; assumption; assumption; apply Below.size; assumption) | (apply Clk.below; assumption; assumption) | (apply Clk.below; assumption; apply Below.drew; exact Below.refl _ _) | (apply Below.drew; assumption) | (apply frz_below; assumption; assumption; assumption)))) | (go_at_call 14; refine (compare_any _ _ _ _ _ _ (by omega) (by omega) (by omega) (by omega) (by omega) (by omega) (by omega) (by omega) _).mono ?_; rintro e w1 ⟨rfl, hb⟩; refine HK.out _ _ ?_ ?_; (first | rfl | rw [hcmp]); (((try dsimp only); go_split_ands; (repeat' apply And.intro) <;> first | assumption | (apply kept; assumption; assumption) | (apply via; assumption; assumption; apply Below.size; assumption) | (apply Clk.below; assumption; assumption) | (apply Clk.below; assumption; apply Below.drew; exact Below.refl _ _) | (apply Below.drew; assumption) | (apply frz_below; assumption; assumption; assumption)))) | fail))
                    case hend =>
                      intro wx hS
                      go_split_ands
                      rename_i e0 e1 e2 e3 e4 e5 e6 eC eF eB
                      go_wp2
                      go_roundw
                      case rel => exact ⟨k + 1, true, up, A, B, A, B, mk, by omega, by go_num, rfl, Clk.set3 eC hbp, ⟨hB0, hB1⟩, ⟨hB0, hB1⟩, (fun _ => ⟨rfl, rfl⟩), set3_at0 e4, set3_at1 e5, set3_at2 e6, fun j => set3_frozen (eF j), set3_below eB (by omega)⟩
                      case measure => simp [intOf]; omega
          · have hE1 : (upE off up ph lw lt iw it im == 0) = false := by simpa using hE
            have hE2 : (upE off up ph lw lt iw it im != 0) = true := by simpa using hE
            have HE := Lib.hid hE
            clear hE
            go_wp2_with fail
            apply region_phase (fun p w' => match p with | 0 => w'.cell? ⟨wr.heap.size, 0, none⟩ = some (.int .i64 1) ∧ w'.cell? ⟨wr.heap.size, 1, none⟩ = some (.int .i64 ph) ∧ w'.cell? ⟨wr.heap.size, 2, none⟩ = some (.int .i64 iw) ∧ w'.cell? ⟨wr.heap.size, 3, none⟩ = some (.int .u32 it) ∧ w'.cell? ⟨wr.heap.size, 4, none⟩ = some (.int .u32 im) ∧ w'.cell? ⟨w2.heap.size, 0, none⟩ = some (.int .i64 wa) ∧ w'.cell? ⟨w2.heap.size, 1, none⟩ = some (.int .u32 wb) ∧ w'.cell? ⟨w2.heap.size, 2, none⟩ = some (.int .u32 wm) ∧ w'.cell? ⟨wr.heap.size + 1, 0, none⟩ = some (.int .i64 0) ∧ w'.cell? ⟨wr.heap.size + 1, 1, none⟩ = some (.int .u32 0) ∧ w'.cell? ⟨wr.heap.size + 1, 2, none⟩ = some (.int .u32 0) ∧ Clk w' b off up mk lw lt ∧ (∀ j, w'.frozen? ⟨w2.heap.size, j, none⟩ = false) ∧ (∀ j, w'.frozen? ⟨wr.heap.size + 1, j, none⟩ = false) ∧ Below w.heap.size w w' | 1 => w'.cell? ⟨wr.heap.size, 0, none⟩ = some (.int .i64 1) ∧ w'.cell? ⟨wr.heap.size, 1, none⟩ = some (.int .i64 ph) ∧ w'.cell? ⟨wr.heap.size, 2, none⟩ = some (.int .i64 iw) ∧ w'.cell? ⟨wr.heap.size, 3, none⟩ = some (.int .u32 it) ∧ w'.cell? ⟨wr.heap.size, 4, none⟩ = some (.int .u32 im) ∧ w'.cell? ⟨w2.heap.size, 0, none⟩ = some (.int .i64 wa) ∧ w'.cell? ⟨w2.heap.size, 1, none⟩ = some (.int .u32 wb) ∧ w'.cell? ⟨w2.heap.size, 2, none⟩ = some (.int .u32 wm) ∧ w'.cell? ⟨wr.heap.size + 1, 0, none⟩ = some (.int .i64 0) ∧ w'.cell? ⟨wr.heap.size + 1, 1, none⟩ = some (.int .u32 0) ∧ w'.cell? ⟨wr.heap.size + 1, 2, none⟩ = some (.int .u32 0) ∧ Clk w' b off up mk lw lt ∧ (∀ j, w'.frozen? ⟨w2.heap.size, j, none⟩ = false) ∧ (∀ j, w'.frozen? ⟨wr.heap.size + 1, j, none⟩ = false) ∧ Below w.heap.size w w' | _ => w'.cell? ⟨wr.heap.size, 0, none⟩ = some (.int .i64 1) ∧ w'.cell? ⟨wr.heap.size, 1, none⟩ = some (.int .i64 ph) ∧ w'.cell? ⟨wr.heap.size, 2, none⟩ = some (.int .i64 iw) ∧ w'.cell? ⟨wr.heap.size, 3, none⟩ = some (.int .u32 it) ∧ w'.cell? ⟨wr.heap.size, 4, none⟩ = some (.int .u32 im) ∧ w'.cell? ⟨w2.heap.size, 0, none⟩ = some (.int .i64 wa) ∧ w'.cell? ⟨w2.heap.size, 1, none⟩ = some (.int .u32 wb) ∧ w'.cell? ⟨w2.heap.size, 2, none⟩ = some (.int .u32 wm) ∧ w'.cell? ⟨wr.heap.size + 1, 0, none⟩ = some (.int .i64 0) ∧ w'.cell? ⟨wr.heap.size + 1, 1, none⟩ = some (.int .u32 0) ∧ w'.cell? ⟨wr.heap.size + 1, 2, none⟩ = some (.int .u32 0) ∧ Clk w' b off up mk lw lt ∧ (∀ j, w'.frozen? ⟨w2.heap.size, j, none⟩ = false) ∧ (∀ j, w'.frozen? ⟨wr.heap.size + 1, j, none⟩ = false) ∧ Below w.heap.size w w') [6, 10] [none, none, some 0, none, some 0, some 0, some 0, none, none, none, some 1, none] [.pointer (some ⟨b, 0, none⟩), .pointer (some ⟨wr.heap.size, 1, none⟩), .int .i64 ph, .pointer (some ⟨wr.heap.size, 2, none⟩), .agg #[.int .i64 iw, .int .u32 it, .int .u32 im], .agg #[.int .i64 iw, .int .u32 it, .int .u32 im], .tuple #[.agg #[.int .i64 0, .int .u32 0, .int .u32 0], .int .i64 (upE off up ph lw lt iw it im)], .tuple #[.agg #[.int .i64 0, .int .u32 0, .int .u32 0], .int .i64 (upE off up ph lw lt iw it im)], .agg #[.int .i64 0, .int .u32 0, .int .u32 0], .int .i64 (upE off up ph lw lt iw it im), undef, .int .i64 (upE off up ph lw lt iw it im)]
            case hm => kernel_rfl
            case hf => kernel_rfl
            case hp => kernel_rfl
            case hQ => exact (by intro c x y w e h; exact And.intro (e.symm.trans (And.left h)) (And.right h))
            case hF => simp only [putAll, Act.put, List.setIfInBounds_toArray, List.set_cons_zero, List.set_cons_succ, Nat.reduceAdd, List.getD_cons_zero, List.getD_cons_succ]; rfl
            case h0 =>
              clear o0 o1 o2 o3 o4
              exact ⟨(by simp [go_sem]), (by simp [go_sem]), (by simp [go_sem]), (by simp [go_sem]), (by simp [go_sem]), (((Only.refl b wr).alloc _).alloc _).drew.cell hbp p0, (((Only.refl b wr).alloc _).alloc _).drew.cell hbp p1, (((Only.refl b wr).alloc _).alloc _).drew.cell hbp p2, (by simp [go_sem]), (by simp [go_sem]), (by simp [go_sem]), HC.out.below ((((Below.refl wr.heap.size wr).alloc (Nat.le_refl _) _).alloc (by simp) _).drew), (fun j => (((Only.refl b wr).alloc _).alloc _).drew.frz hbp hpr (pf j)), (fun j => by simp [go_sem]), hB.trans ((((Only.refl b wr).alloc _).alloc _).drew.below HBW.out hwr)⟩
            case hstep =>
              clear o0 o1 o2 o3 o4 p0 p1 p2 pf HC HW
              repeat' (first | exact AllOps.nil | apply AllOps.cons)
              · intro wx hS K hK
                replace hK : ∀ (v : Value) (w' : World), v = .pointer (some ⟨b, 0, none⟩) → w' = wx → K _ w' := hK
                simp only [Act.put, List.setIfInBounds_toArray, List.set_cons_zero, List.set_cons_succ, Nat.reduceAdd, List.getD_cons_zero, List.getD_cons_succ] at hK ⊢
                have HK := Lib.hid hK
                clear hK hS
                go_simp
                exact HK.out _ _ rfl rfl
              · intro wx hS K hK
                replace hK : ∀ (v : Value) (w' : World), v = .pointer (some ⟨wr.heap.size, 1, none⟩) → w' = wx → K _ w' := hK
                simp only [Act.put, List.setIfInBounds_toArray, List.set_cons_zero, List.set_cons_succ, Nat.reduceAdd, List.getD_cons_zero, List.getD_cons_succ] at hK ⊢
                have HK := Lib.hid hK
                clear hK hS
                go_simp
                exact HK.out _ _ rfl rfl
              · intro wx hS K hK
                replace hK : ∀ (v : Value) (w' : World), v = .int .i64 ph → (w'.cell? ⟨wr.heap.size, 0, none⟩ = some (.int .i64 1) ∧ w'.cell? ⟨wr.heap.size, 1, none⟩ = some (.int .i64 ph) ∧ w'.cell? ⟨wr.heap.size, 2, none⟩ = some (.int .i64 iw) ∧ w'.cell? ⟨wr.heap.size, 3, none⟩ = some (.int .u32 it) ∧ w'.cell? ⟨wr.heap.size, 4, none⟩ = some (.int .u32 im) ∧ w'.cell? ⟨w2.heap.size, 0, none⟩ = some (.int .i64 wa) ∧ w'.cell? ⟨w2.heap.size, 1, none⟩ = some (.int .u32 wb) ∧ w'.cell? ⟨w2.heap.size, 2, none⟩ = some (.int .u32 wm) ∧ w'.cell? ⟨wr.heap.size + 1, 0, none⟩ = some (.int .i64 0) ∧ w'.cell? ⟨wr.heap.size + 1, 1, none⟩ = some (.int .u32 0) ∧ w'.cell? ⟨wr.heap.size + 1, 2, none⟩ = some (.int .u32 0) ∧ Clk w' b off up mk lw lt ∧ (∀ j, w'.frozen? ⟨w2.heap.size, j, none⟩ = false) ∧ (∀ j, w'.frozen? ⟨wr.heap.size + 1, j, none⟩ = false) ∧ Below w.heap.size w w') → K _ w' := hK
                replace hS : wx.cell? ⟨wr.heap.size, 0, none⟩ = some (.int .i64 1) ∧ wx.cell? ⟨wr.heap.size, 1, none⟩ = some (.int .i64 ph) ∧ wx.cell? ⟨wr.heap.size, 2, none⟩ = some (.int .i64 iw) ∧ wx.cell? ⟨wr.heap.size, 3, none⟩ = some (.int .u32 it) ∧ wx.cell? ⟨wr.heap.size, 4, none⟩ = some (.int .u32 im) ∧ wx.cell? ⟨w2.heap.size, 0, none⟩ = some (.int .i64 wa) ∧ wx.cell? ⟨w2.heap.size, 1, none⟩ = some (.int .u32 wb) ∧ wx.cell? ⟨w2.heap.size, 2, none⟩ = some (.int .u32 wm) ∧ wx.cell? ⟨wr.heap.size + 1, 0, none⟩ = some (.int .i64 0) ∧ wx.cell? ⟨wr.heap.size + 1, 1, none⟩ = some (.int .u32 0) ∧ wx.cell? ⟨wr.heap.size + 1, 2, none⟩ = some (.int .u32 0) ∧ Clk wx b off up mk lw lt ∧ (∀ j, wx.frozen? ⟨w2.heap.size, j, none⟩ = false) ∧ (∀ j, wx.frozen? ⟨wr.heap.size + 1, j, none⟩ = false) ∧ Below w.heap.size w wx := hS
                simp only [Act.put, List.setIfInBounds_toArray, List.set_cons_zero, List.set_cons_succ, Nat.reduceAdd, List.getD_cons_zero, List.getD_cons_succ] at hK ⊢
                have HK := Lib.hid hK
                have HS := Lib.hid hS
                clear hK
                obtain ⟨a0, a1, a2, a3, a4, q0, q1, q2, m0, m1, m2, hC, qf, mf, hB⟩ := hS
                go_simp
                exact HK.out _ _ rfl HS.out
              · intro wx hS K hK
                replace hK : ∀ (v : Value) (w' : World), v = .pointer (some ⟨wr.heap.size, 2, none⟩) → w' = wx → K _ w' := hK
                simp only [Act.put, List.setIfInBounds_toArray, List.set_cons_zero, List.set_cons_succ, Nat.reduceAdd, List.getD_cons_zero, List.getD_cons_succ] at hK ⊢
                have HK := Lib.hid hK
                clear hK hS
                go_simp
                exact HK.out _ _ rfl rfl
              · intro wx hS K hK
                replace hK : ∀ (v : Value) (w' : World), v = .agg #[.int .i64 iw, .int .u32 it, .int .u32 im] → (w'.cell? ⟨wr.heap.size, 0, none⟩ = some (.int .i64 1) ∧ w'.cell? ⟨wr.heap.size, 1, none⟩ = some (.int .i64 ph) ∧ w'.cell? ⟨wr.heap.size, 2, none⟩ = some (.int .i64 iw) ∧ w'.cell? ⟨wr.heap.size, 3, none⟩ = some (.int .u32 it) ∧ w'.cell? ⟨wr.heap.size, 4, none⟩ = some (.int .u32 im) ∧ w'.cell? ⟨w2.heap.size, 0, none⟩ = some (.int .i64 wa) ∧ w'.cell? ⟨w2.heap.size, 1, none⟩ = some (.int .u32 wb) ∧ w'.cell? ⟨w2.heap.size, 2, none⟩ = some (.int .u32 wm) ∧ w'.cell? ⟨wr.heap.size + 1, 0, none⟩ = some (.int .i64 0) ∧ w'.cell? ⟨wr.heap.size + 1, 1, none⟩ = some (.int .u32 0) ∧ w'.cell? ⟨wr.heap.size + 1, 2, none⟩ = some (.int .u32 0) ∧ Clk w' b off up mk lw lt ∧ (∀ j, w'.frozen? ⟨w2.heap.size, j, none⟩ = false) ∧ (∀ j, w'.frozen? ⟨wr.heap.size + 1, j, none⟩ = false) ∧ Below w.heap.size w w') → K _ w' := hK
                replace hS : wx.cell? ⟨wr.heap.size, 0, none⟩ = some (.int .i64 1) ∧ wx.cell? ⟨wr.heap.size, 1, none⟩ = some (.int .i64 ph) ∧ wx.cell? ⟨wr.heap.size, 2, none⟩ = some (.int .i64 iw) ∧ wx.cell? ⟨wr.heap.size, 3, none⟩ = some (.int .u32 it) ∧ wx.cell? ⟨wr.heap.size, 4, none⟩ = some (.int .u32 im) ∧ wx.cell? ⟨w2.heap.size, 0, none⟩ = some (.int .i64 wa) ∧ wx.cell? ⟨w2.heap.size, 1, none⟩ = some (.int .u32 wb) ∧ wx.cell? ⟨w2.heap.size, 2, none⟩ = some (.int .u32 wm) ∧ wx.cell? ⟨wr.heap.size + 1, 0, none⟩ = some (.int .i64 0) ∧ wx.cell? ⟨wr.heap.size + 1, 1, none⟩ = some (.int .u32 0) ∧ wx.cell? ⟨wr.heap.size + 1, 2, none⟩ = some (.int .u32 0) ∧ Clk wx b off up mk lw lt ∧ (∀ j, wx.frozen? ⟨w2.heap.size, j, none⟩ = false) ∧ (∀ j, wx.frozen? ⟨wr.heap.size + 1, j, none⟩ = false) ∧ Below w.heap.size w wx := hS
                simp only [Act.put, List.setIfInBounds_toArray, List.set_cons_zero, List.set_cons_succ, Nat.reduceAdd, List.getD_cons_zero, List.getD_cons_succ] at hK ⊢
                have HK := Lib.hid hK
                have HS := Lib.hid hS
                clear hK
                obtain ⟨a0, a1, a2, a3, a4, q0, q1, q2, m0, m1, m2, hC, qf, mf, hB⟩ := hS
                go_simp
                exact HK.out _ _ rfl HS.out
              · intro wx hS K hK
                replace hK : ∀ (v : Value) (w' : World), v = .agg #[.int .i64 iw, .int .u32 it, .int .u32 im] → (w'.cell? ⟨wr.heap.size, 0, none⟩ = some (.int .i64 1) ∧ w'.cell? ⟨wr.heap.size, 1, none⟩ = some (.int .i64 ph) ∧ w'.cell? ⟨wr.heap.size, 2, none⟩ = some (.int .i64 iw) ∧ w'.cell? ⟨wr.heap.size, 3, none⟩ = some (.int .u32 it) ∧ w'.cell? ⟨wr.heap.size, 4, none⟩ = some (.int .u32 im) ∧ w'.cell? ⟨w2.heap.size, 0, none⟩ = some (.int .i64 wa) ∧ w'.cell? ⟨w2.heap.size, 1, none⟩ = some (.int .u32 wb) ∧ w'.cell? ⟨w2.heap.size, 2, none⟩ = some (.int .u32 wm) ∧ w'.cell? ⟨wr.heap.size + 1, 0, none⟩ = some (.int .i64 0) ∧ w'.cell? ⟨wr.heap.size + 1, 1, none⟩ = some (.int .u32 0) ∧ w'.cell? ⟨wr.heap.size + 1, 2, none⟩ = some (.int .u32 0) ∧ Clk w' b off up mk lw lt ∧ (∀ j, w'.frozen? ⟨w2.heap.size, j, none⟩ = false) ∧ (∀ j, w'.frozen? ⟨wr.heap.size + 1, j, none⟩ = false) ∧ Below w.heap.size w w') → K _ w' := hK
                replace hS : wx.cell? ⟨wr.heap.size, 0, none⟩ = some (.int .i64 1) ∧ wx.cell? ⟨wr.heap.size, 1, none⟩ = some (.int .i64 ph) ∧ wx.cell? ⟨wr.heap.size, 2, none⟩ = some (.int .i64 iw) ∧ wx.cell? ⟨wr.heap.size, 3, none⟩ = some (.int .u32 it) ∧ wx.cell? ⟨wr.heap.size, 4, none⟩ = some (.int .u32 im) ∧ wx.cell? ⟨w2.heap.size, 0, none⟩ = some (.int .i64 wa) ∧ wx.cell? ⟨w2.heap.size, 1, none⟩ = some (.int .u32 wb) ∧ wx.cell? ⟨w2.heap.size, 2, none⟩ = some (.int .u32 wm) ∧ wx.cell? ⟨wr.heap.size + 1, 0, none⟩ = some (.int .i64 0) ∧ wx.cell? ⟨wr.heap.size + 1, 1, none⟩ = some (.int .u32 0) ∧ wx.cell? ⟨wr.heap.size + 1, 2, none⟩ = some (.int .u32 0) ∧ Clk wx b off up mk lw lt ∧ (∀ j, wx.frozen? ⟨w2.heap.size, j, none⟩ = false) ∧ (∀ j, wx.frozen? ⟨wr.heap.size + 1, j, none⟩ = false) ∧ Below w.heap.size w wx := hS
                simp only [Act.put, List.setIfInBounds_toArray, List.set_cons_zero, List.set_cons_succ, Nat.reduceAdd, List.getD_cons_zero, List.getD_cons_succ] at hK ⊢
                have HK := Lib.hid hK
                have HS := Lib.hid hS
                clear hK
                obtain ⟨a0, a1, a2, a3, a4, q0, q1, q2, m0, m1, m2, hC, qf, mf, hB⟩ := hS
                clear HS
                go_simp
                go_at_call 12
                refine (to_any _ _ _ _).mono ?_
                rintro e w1 ⟨rfl, hb⟩
                refine HK.out _ _ rfl ?_
                exact ⟨kept hb a0, kept hb a1, kept hb a2, kept hb a3, kept hb a4, kept hb q0, kept hb q1, kept hb q2, kept hb m0, kept hb m1, kept hb m2, hC.below hb, frz_below hb q0 qf, frz_below hb m0 mf, via hb hB hB.size⟩
              · intro wx hS K hK
                replace hK : ∀ (v : Value) (w' : World), v = .tuple #[.agg #[.int .i64 0, .int .u32 0, .int .u32 0], .int .i64 (upE off up ph lw lt iw it im)] → (w'.cell? ⟨wr.heap.size, 0, none⟩ = some (.int .i64 1) ∧ w'.cell? ⟨wr.heap.size, 1, none⟩ = some (.int .i64 ph) ∧ w'.cell? ⟨wr.heap.size, 2, none⟩ = some (.int .i64 iw) ∧ w'.cell? ⟨wr.heap.size, 3, none⟩ = some (.int .u32 it) ∧ w'.cell? ⟨wr.heap.size, 4, none⟩ = some (.int .u32 im) ∧ w'.cell? ⟨w2.heap.size, 0, none⟩ = some (.int .i64 wa) ∧ w'.cell? ⟨w2.heap.size, 1, none⟩ = some (.int .u32 wb) ∧ w'.cell? ⟨w2.heap.size, 2, none⟩ = some (.int .u32 wm) ∧ w'.cell? ⟨wr.heap.size + 1, 0, none⟩ = some (.int .i64 0) ∧ w'.cell? ⟨wr.heap.size + 1, 1, none⟩ = some (.int .u32 0) ∧ w'.cell? ⟨wr.heap.size + 1, 2, none⟩ = some (.int .u32 0) ∧ Clk w' b off up mk lw lt ∧ (∀ j, w'.frozen? ⟨w2.heap.size, j, none⟩ = false) ∧ (∀ j, w'.frozen? ⟨wr.heap.size + 1, j, none⟩ = false) ∧ Below w.heap.size w w') → K _ w' := hK
                replace hS : wx.cell? ⟨wr.heap.size, 0, none⟩ = some (.int .i64 1) ∧ wx.cell? ⟨wr.heap.size, 1, none⟩ = some (.int .i64 ph) ∧ wx.cell? ⟨wr.heap.size, 2, none⟩ = some (.int .i64 iw) ∧ wx.cell? ⟨wr.heap.size, 3, none⟩ = some (.int .u32 it) ∧ wx.cell? ⟨wr.heap.size, 4, none⟩ = some (.int .u32 im) ∧ wx.cell? ⟨w2.heap.size, 0, none⟩ = some (.int .i64 wa) ∧ wx.cell? ⟨w2.heap.size, 1, none⟩ = some (.int .u32 wb) ∧ wx.cell? ⟨w2.heap.size, 2, none⟩ = some (.int .u32 wm) ∧ wx.cell? ⟨wr.heap.size + 1, 0, none⟩ = some (.int .i64 0) ∧ wx.cell? ⟨wr.heap.size + 1, 1, none⟩ = some (.int .u32 0) ∧ wx.cell? ⟨wr.heap.size + 1, 2, none⟩ = some (.int .u32 0) ∧ Clk wx b off up mk lw lt ∧ (∀ j, wx.frozen? ⟨w2.heap.size, j, none⟩ = false) ∧ (∀ j, wx.frozen? ⟨wr.heap.size + 1, j, none⟩ = false) ∧ Below w.heap.size w wx := hS
                simp only [Act.put, List.setIfInBounds_toArray, List.set_cons_zero, List.set_cons_succ, Nat.reduceAdd, List.getD_cons_zero, List.getD_cons_succ] at hK ⊢
                have HK := Lib.hid hK
                have HS := Lib.hid hS
                clear hK
                obtain ⟨a0, a1, a2, a3, a4, q0, q1, q2, m0, m1, m2, hC, qf, mf, hB⟩ := hS
                clear HS
                have HC := Lib.hid hC
                clear hC
                go_simp
                go_at_call 27
                refine (update_no b mk off up ph lw lt iw it im l0 l1 it0 it1 im0 im1 _ HC.out HE.out).mono ?_
                rintro e w1 ⟨rfl, ho, hc⟩
                refine HK.out _ _ rfl ?_
                have y0 : w2.heap.size < wx.heap.size := World.block_lt_of_cell? wx _ q0
                have y1 : wr.heap.size + 1 < wx.heap.size := World.block_lt_of_cell? wx _ m0
                exact ⟨ho.cell hob a0, ho.cell hob a1, ho.cell hob a2, ho.cell hob a3, ho.cell hob a4, ho.cell hbp q0, ho.cell hbp q1, ho.cell hbp q2, ho.cell hsb m0, ho.cell hsb m1, ho.cell hsb m2, hc, (fun j => ho.frz hbp y0 (qf j)), (fun j => ho.frz hsb y1 (mf j)), hB.trans (ho.below HBW.out hB.size)⟩
              · intro wx hS K hK
                replace hK : ∀ (v : Value) (w' : World), v = .tuple #[.agg #[.int .i64 0, .int .u32 0, .int .u32 0], .int .i64 (upE off up ph lw lt iw it im)] → w' = wx → K _ w' := hK
                simp only [Act.put, List.setIfInBounds_toArray, List.set_cons_zero, List.set_cons_succ, Nat.reduceAdd, List.getD_cons_zero, List.getD_cons_succ] at hK ⊢
                have HK := Lib.hid hK
                clear hK hS
                go_simp
                exact HK.out _ _ rfl rfl
              · intro wx hS K hK
                replace hK : ∀ (v : Value) (w' : World), v = .agg #[.int .i64 0, .int .u32 0, .int .u32 0] → w' = wx → K _ w' := hK
                simp only [Act.put, List.setIfInBounds_toArray, List.set_cons_zero, List.set_cons_succ, Nat.reduceAdd, List.getD_cons_zero, List.getD_cons_succ] at hK ⊢
                have HK := Lib.hid hK
                clear hK hS
                go_simp
                exact HK.out _ _ rfl rfl
              · intro wx hS K hK
                replace hK : ∀ (v : Value) (w' : World), v = .int .i64 (upE off up ph lw lt iw it im) → w' = wx → K _ w' := hK
                simp only [Act.put, List.setIfInBounds_toArray, List.set_cons_zero, List.set_cons_succ, Nat.reduceAdd, List.getD_cons_zero, List.getD_cons_succ] at hK ⊢
                have HK := Lib.hid hK
                clear hK hS
                go_simp
                exact HK.out _ _ rfl rfl
              · intro wx hS K hK
                replace hK : ∀ (v : Value) (w' : World), v = undef → (w'.cell? ⟨wr.heap.size, 0, none⟩ = some (.int .i64 1) ∧ w'.cell? ⟨wr.heap.size, 1, none⟩ = some (.int .i64 ph) ∧ w'.cell? ⟨wr.heap.size, 2, none⟩ = some (.int .i64 iw) ∧ w'.cell? ⟨wr.heap.size, 3, none⟩ = some (.int .u32 it) ∧ w'.cell? ⟨wr.heap.size, 4, none⟩ = some (.int .u32 im) ∧ w'.cell? ⟨w2.heap.size, 0, none⟩ = some (.int .i64 wa) ∧ w'.cell? ⟨w2.heap.size, 1, none⟩ = some (.int .u32 wb) ∧ w'.cell? ⟨w2.heap.size, 2, none⟩ = some (.int .u32 wm) ∧ w'.cell? ⟨wr.heap.size + 1, 0, none⟩ = some (.int .i64 0) ∧ w'.cell? ⟨wr.heap.size + 1, 1, none⟩ = some (.int .u32 0) ∧ w'.cell? ⟨wr.heap.size + 1, 2, none⟩ = some (.int .u32 0) ∧ Clk w' b off up mk lw lt ∧ (∀ j, w'.frozen? ⟨w2.heap.size, j, none⟩ = false) ∧ (∀ j, w'.frozen? ⟨wr.heap.size + 1, j, none⟩ = false) ∧ Below w.heap.size w w') → K _ w' := hK
                replace hS : wx.cell? ⟨wr.heap.size, 0, none⟩ = some (.int .i64 1) ∧ wx.cell? ⟨wr.heap.size, 1, none⟩ = some (.int .i64 ph) ∧ wx.cell? ⟨wr.heap.size, 2, none⟩ = some (.int .i64 iw) ∧ wx.cell? ⟨wr.heap.size, 3, none⟩ = some (.int .u32 it) ∧ wx.cell? ⟨wr.heap.size, 4, none⟩ = some (.int .u32 im) ∧ wx.cell? ⟨w2.heap.size, 0, none⟩ = some (.int .i64 wa) ∧ wx.cell? ⟨w2.heap.size, 1, none⟩ = some (.int .u32 wb) ∧ wx.cell? ⟨w2.heap.size, 2, none⟩ = some (.int .u32 wm) ∧ wx.cell? ⟨wr.heap.size + 1, 0, none⟩ = some (.int .i64 0) ∧ wx.cell? ⟨wr.heap.size + 1, 1, none⟩ = some (.int .u32 0) ∧ wx.cell? ⟨wr.heap.size + 1, 2, none⟩ = some (.int .u32 0) ∧ Clk wx b off up mk lw lt ∧ (∀ j, wx.frozen? ⟨w2.heap.size, j, none⟩ = false) ∧ (∀ j, wx.frozen? ⟨wr.heap.size + 1, j, none⟩ = false) ∧ Below w.heap.size w wx := hS
                simp only [Act.put, List.setIfInBounds_toArray, List.set_cons_zero, List.set_cons_succ, Nat.reduceAdd, List.getD_cons_zero, List.getD_cons_succ] at hK ⊢
                have HK := Lib.hid hK
                have HS := Lib.hid hS
                clear hK
                obtain ⟨a0, a1, a2, a3, a4, q0, q1, q2, m0, m1, m2, hC, qf, mf, hB⟩ := hS
                clear HS
                have f0 := mf 0
                have f1 := mf 1
                have f2 := mf 2
                have HF := Lib.hid qf
                have HM := Lib.hid mf
                have HC := Lib.hid hC
                have hbz := hB.size
                have HB2 := Lib.hid hB
                clear qf mf hC hB
                go_simp
                refine HK.out _ (set3 wx (wr.heap.size + 1) (.int .i64 0) (.int .u32 0) (.int .u32 0)) rfl ?_
                have hne : wr.heap.size + 1 ≠ wr.heap.size := Nat.succ_ne_self _
                exact ⟨set3_cell hne a0, set3_cell hne a1, set3_cell hne a2, set3_cell hne a3, set3_cell hne a4, set3_cell hsp q0, set3_cell hsp q1, set3_cell hsp q2, set3_at0 m0, set3_at1 m1, set3_at2 m2, HC.out.set3 hsb, (fun j => set3_frozen (HF.out j)), (fun j => set3_frozen (HM.out j)), set3_below HB2.out (by omega)⟩
              · intro wx hS K hK
                replace hK : ∀ (v : Value) (w' : World), v = .int .i64 (upE off up ph lw lt iw it im) → w' = wx → K _ w' := hK
                simp only [Act.put, List.setIfInBounds_toArray, List.set_cons_zero, List.set_cons_succ, Nat.reduceAdd, List.getD_cons_zero, List.getD_cons_succ] at hK ⊢
                have HK := Lib.hid hK
                clear hK hS
                go_simp
                exact HK.out _ _ rfl rfl
            case hend =>
              intro wy hS
              clear HC p0 p1 p2 pf o0 o1 o2 o3 o4 hB
              replace hS : wy.cell? ⟨wr.heap.size, 0, none⟩ = some (.int .i64 1) ∧ wy.cell? ⟨wr.heap.size, 1, none⟩ = some (.int .i64 ph) ∧ wy.cell? ⟨wr.heap.size, 2, none⟩ = some (.int .i64 iw) ∧ wy.cell? ⟨wr.heap.size, 3, none⟩ = some (.int .u32 it) ∧ wy.cell? ⟨wr.heap.size, 4, none⟩ = some (.int .u32 im) ∧ wy.cell? ⟨w2.heap.size, 0, none⟩ = some (.int .i64 wa) ∧ wy.cell? ⟨w2.heap.size, 1, none⟩ = some (.int .u32 wb) ∧ wy.cell? ⟨w2.heap.size, 2, none⟩ = some (.int .u32 wm) ∧ wy.cell? ⟨wr.heap.size + 1, 0, none⟩ = some (.int .i64 0) ∧ wy.cell? ⟨wr.heap.size + 1, 1, none⟩ = some (.int .u32 0) ∧ wy.cell? ⟨wr.heap.size + 1, 2, none⟩ = some (.int .u32 0) ∧ Clk wy b off up mk lw lt ∧ (∀ j, wy.frozen? ⟨w2.heap.size, j, none⟩ = false) ∧ (∀ j, wy.frozen? ⟨wr.heap.size + 1, j, none⟩ = false) ∧ Below w.heap.size w wy := hS
              obtain ⟨a0, a1, a2, a3, a4, q0, q1, q2, m0, m1, m2, hC, qf, mf, hB⟩ := hS
              clear a0 a1 a2 a3 a4 m0 m1 m2 mf
              go_wp2_with fail
              apply region_vals (fun w' => w'.cell? ⟨w2.heap.size, 0, none⟩ = some (.int .i64 wa) ∧ w'.cell? ⟨w2.heap.size, 1, none⟩ = some (.int .u32 wb) ∧ w'.cell? ⟨w2.heap.size, 2, none⟩ = some (.int .u32 wm) ∧ Clk w' b off up mk lw lt ∧ (∀ j, w'.frozen? ⟨w2.heap.size, j, none⟩ = false) ∧ Below w.heap.size w w') [.int .i64 (upE off up ph lw lt iw it im), .bool false, .bool false, undef, undef, undef, undef, undef, undef, undef, undef, undef, undef, undef, undef, undef, undef, undef, undef, undef, undef, undef, undef, undef, undef, undef, undef, .bool false]
              case hm => kernel_rfl
              case hf => kernel_rfl
              case hQ => exact (by intro c x y w e h; exact And.intro (e.symm.trans (And.left h)) (And.right h))
              case hF => simp only [putAll, Act.put, List.setIfInBounds_toArray, List.set_cons_zero, List.set_cons_succ, Nat.reduceAdd, List.getD_cons_zero, List.getD_cons_succ]; rfl
              case h0 => (((try dsimp only); go_split_ands; (repeat' apply And.intro) <;> first | assumption | (apply keptD; assumption) | (apply kept; assumption; assumption) | (apply via; assumption; assumption; apply Below.size; assumption) | (apply Clk.below; assumption; assumption) | (apply Clk.below; assumption; apply Below.drew; exact Below.refl _ _) | (apply Below.drew; assumption) | (apply frz_below; assumption; assumption; assumption)))
              case hstep =>
                repeat' (first | exact AllOps.nil | apply AllOps.cons)
                all_goals
                  intro wx hS K hK
                  simp only [Act.put, List.setIfInBounds_toArray, List.set_cons_zero, List.set_cons_succ, Nat.reduceAdd, List.getD_cons_zero, List.getD_cons_succ] at hK ⊢
                  have HK := Lib.hid hK
                  have HS := Lib.hid hS
                  clear hK
                  go_split_ands
                  first
                    | (go_simp; (first | (refine HK.out _ _ ?_ ?_; (first | rfl | fail); exact HS.out) | (go_at_call 14; refine (compare_any _ _ _ _ _ _ (by omega) (by omega) (by omega) (by omega) (by omega) (by omega) (by omega) (by omega) _).mono ?_; rintro e w1 ⟨rfl, hb⟩; refine HK.out _ _ ?_ ?_; (first | rfl | fail); (((try dsimp only); go_split_ands; (repeat' apply And.intro) <;> first | assumption | (apply keptD; assumption) | (apply kept; assumption; assumption) | (apply via; assumption; assumption; apply Below.size; assumption) | (apply Clk.below; assumption; assumption) | (apply Clk.below; assumption; apply Below.drew; exact Below.refl _ _) | (apply Below.drew; assumption) | (apply frz_below; assumption; assumption; assumption)))) | fail))
              case hend =>
                intro wx hS
                go_split_ands
                rename_i e0 e1 e2 eC eF eB
                go_wp2
                go_roundw
                case rel => exact ⟨k + 1, h, up, lw, lt, wa, wb, wm, by omega, by go_num, rfl, eC, ⟨l0, l1⟩, ⟨v0, v1⟩, HW.out, e0, e1, e2, eF, eB⟩
                case measure => simp [intOf]; omega
        · have k1' : (kd == 1) = false := by simpa using k1
          clear k1
          by_cases hR : up ≤ ph ∧ ph ≤ 4611686018427387904
          · obtain ⟨hR0, hR1⟩ := hR
            go_wp2_with fail
            refine (raise_yes b off up mk lw lt ph _ (HC.out.below (((Below.refl wr.heap.size wr).alloc (Nat.le_refl _) _).alloc (by simp) _)) hR0 hR1).mono ?_
            rintro e w3 ⟨rfl, ho, hc3⟩
            have HC3 := Lib.hid hc3
            have oB : Only b wr w3 := (((Only.refl b wr).alloc _).alloc _).trans ho
            have q0 : w3.cell? ⟨w2.heap.size, 0, none⟩ = some (.int .i64 wa) := oB.cell hbp p0
            have q1 : w3.cell? ⟨w2.heap.size, 1, none⟩ = some (.int .u32 wb) := oB.cell hbp p1
            have q2 : w3.cell? ⟨w2.heap.size, 2, none⟩ = some (.int .u32 wm) := oB.cell hbp p2
            have qf : ∀ j, w3.frozen? ⟨w2.heap.size, j, none⟩ = false := fun j => oB.frz hbp hpr (pf j)
            have HQ := Lib.hid qf
            have lBw := Lib.hid (hB.trans (oB.below HBW.out hwr))
            clear qf
            clear ho hc3 p0 p1 p2 o0 o1 o2 o3 o4 pf
            go_wp2
            go_roundw
            case rel => exact ⟨k + 1, h, ph, lw, lt, wa, wb, wm, by omega, by go_num, rfl, HC3.out, ⟨l0, l1⟩, ⟨v0, v1⟩, HW.out, q0, q1, q2, HQ.out, lBw.out⟩
            case measure => simp [intOf]; omega
          · have hR' : ph < up ∨ 4611686018427387904 < ph := by omega
            have HR := Lib.hid hR'
            clear hR hR'
            go_wp2_with fail
            refine (raise_no b off up mk lw lt ph _ (HC.out.below (((Below.refl wr.heap.size wr).alloc (Nat.le_refl _) _).alloc (by simp) _)) HR.out).mono ?_
            rintro e w3 ⟨rfl, rfl⟩
            have oB := ((Only.refl b wr).alloc (.cells #[.int .i64 kd, .int .i64 ph, .int .i64 iw, .int .u32 it, .int .u32 im] 51)).alloc (.cells #[.int .i64 0, .int .u32 0, .int .u32 0] 26)
            have HC3 := Lib.hid (HC.out.below ((((Below.refl wr.heap.size wr).alloc (Nat.le_refl _) (.cells #[.int .i64 kd, .int .i64 ph, .int .i64 iw, .int .u32 it, .int .u32 im] 51)).alloc (by simp) (.cells #[.int .i64 0, .int .u32 0, .int .u32 0] 26))))
            have q0 := oB.cell hbp p0
            have q1 := oB.cell hbp p1
            have q2 := oB.cell hbp p2
            have HQ := Lib.hid (fun j => oB.frz hbp hpr (pf j))
            have lBw := Lib.hid (hB.trans (oB.below HBW.out hwr))
            clear p0 p1 p2 o0 o1 o2 o3 o4 pf
            go_wp2
            go_roundw
            case rel => exact ⟨k + 1, h, up, lw, lt, wa, wb, wm, by omega, by go_num, rfl, HC3.out, ⟨l0, l1⟩, ⟨v0, v1⟩, HW.out, q0, q1, q2, HQ.out, lBw.out⟩
            case measure => simp [intOf]; omega
    · go_wp2_with fail
      go_ret
      exact ⟨rfl, hB⟩

end Go.Proofs.Yteibigiehpkdjaa
