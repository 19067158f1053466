/- The law StampSorts: its walk. -/
import Derived.Test.YtignhpobeemjhaaDoorSSortA
namespace Go.Proofs.YtignhpobeemjhaaDoor
open Go.RowKit

structure PBC (b1 c1 b2 c2 : Int) : Prop where
  b1 : 0 ≤ b1 ∧ b1 ≤ 4294967295
  c1 : 0 ≤ c1 ∧ c1 ≤ 4294967295
  b2 : 0 ≤ b2 ∧ b2 ≤ 4294967295
  c2 : 0 ≤ c2 ∧ c2 ≤ 4294967295

set_option maxRecDepth 100000 in
set_option maxHeartbeats 4000000 in
theorem ssorts_any (a1 b1 c1 a2 b2 c2 : Int) (hb1 : 0 ≤ b1 ∧ b1 ≤ 4294967295) (hc1 : 0 ≤ c1 ∧ c1 ≤ 4294967295) (hb2 : 0 ≤ b2 ∧ b2 ≤ 4294967295) (hc2 : 0 ≤ c2 ∧ c2 ≤ 4294967295) (w : World) (hw : Wid w) :
    Calls Tryd.prog 3 #[.agg #[.int .i64 a1, .int .u32 b1, .int .u32 c1], .agg #[.int .i64 a2, .int .u32 b2, .int .u32 c2]] w fun e w' => e = .returned (.bool true) ∧ Below w.heap.size w w' := by
  have hz : 0 < w.heap.size := World.block_lt_of_cell? w _ hw.c0
  have HB := Lib.hid (And.intro hb1 (And.intro hc1 (And.intro hb2 hc2)))
  have HW := Lib.hid hw
  clear hb1 hc1 hb2 hc2 hw
  go_enter Tryd.func3, Tryd.ntmps3
  go_wp2_with fail
  apply region_invA (Lets (Args2 w.heap.size w.heap.size (w.heap.size + 1) w (a1, b1, c1) (a2, b2, c2)) (w.heap.size + 2) 4 2 (fun j => ([.agg #[.int .i64 a1, .int .u32 b1, .int .u32 c1], .agg #[.int .i64 a1, .int .u32 b1, .int .u32 c1], .agg #[.int .i64 a2, .int .u32 b2, .int .u32 c2], .agg #[.int .i64 a2, .int .u32 b2, .int .u32 c2]] : List Value).getD j undef) (fun j => ([(a1, b1, c1), (a2, b2, c2)] : List (Int × Int × Int)).getD j (0, 0, 0)))
  case hm => kernel_rfl
  case hf => kernel_rfl
  case hQ => exact (by intro c x y w e h; exact And.intro (e.symm.trans (And.left h)) (And.right h))
  case hF => intro vs; simp only [putAll, Act.put, List.setIfInBounds_toArray, List.set_cons_zero, List.set_cons_succ, Nat.reduceAdd]; rfl
  case h0 =>
    exact ⟨⟨⟨(by repeat' (first | (with_reducible assumption) | (simp; done) | (with_reducible apply keptD) | (simp [go_sem]; done) | (with_reducible apply keptA))), (by repeat' (first | (with_reducible assumption) | (simp; done) | (with_reducible apply keptD) | (simp [go_sem]; done) | (with_reducible apply keptA))), (by repeat' (first | (with_reducible assumption) | (simp; done) | (with_reducible apply keptD) | (simp [go_sem]; done) | (with_reducible apply keptA)))⟩, ⟨(by repeat' (first | (with_reducible assumption) | (simp; done) | (with_reducible apply keptD) | (simp [go_sem]; done) | (with_reducible apply keptA))), (by repeat' (first | (with_reducible assumption) | (simp; done) | (with_reducible apply keptD) | (simp [go_sem]; done) | (with_reducible apply keptA))), (by repeat' (first | (with_reducible assumption) | (simp; done) | (with_reducible apply keptD) | (simp [go_sem]; done) | (with_reducible apply keptA)))⟩, ⟨keptD (keptA (keptA HW.out.c0)), keptD (keptA (keptA HW.out.c1)), keptD (keptA (keptA HW.out.c2))⟩, (by go_grown)⟩, (by simp), (fun j hj h => by cases h), (fun i hi h => by cases h), (fun i j hi hj hij h => by cases h), (fun i hi h => by cases h)⟩
  case hstep =>
    repeat' (first | exact AllOps.nil | apply AllOps.cons)
    · intro l vs wx hJ hl hd K hK
      obtain ⟨⟨p0, p1, p2⟩, ⟨p3, p4, p5⟩, _, _⟩ := hJ.s
      simp only [Act.put, List.setIfInBounds_toArray, List.set_cons_zero, List.set_cons_succ] at hK ⊢
      have HK := Lib.hid hK
      have HJ := Lib.hid hJ
      clear hK hJ hd
      go_simp
      exact HK.out _ _ (HJ.out.value (by omega) rfl (Below.refl _ _) HJ.out.s)
    · intro l vs wx hJ hl hd K hK
      simp [depsOf, AllL, Region.binds, List.filterMap] at hd
      have e0 : vs 0 = .agg #[.int .i64 a1, .int .u32 b1, .int .u32 c1] := hJ.v 0 (by omega) (by first | exact hd | exact hd.1)
      simp only [Act.put, List.setIfInBounds_toArray, List.set_cons_zero, List.set_cons_succ, Nat.reduceAdd, e0] at hK ⊢
      have HK := Lib.hid hK
      have HJ := Lib.hid hJ
      clear hK hJ hd e0
      go_simp
      refine (to_any _ _ _ _).mono ?_
      rintro e w1 ⟨rfl, hb⟩
      exact HK.out _ _ (HJ.out.value (by omega) rfl hb (HJ.out.s.below (by have := HJ.out.n; omega) hb))
    · intro l vs wx hJ hl hd K hK
      obtain ⟨⟨p0, p1, p2⟩, ⟨p3, p4, p5⟩, _, _⟩ := hJ.s
      simp only [Act.put, List.setIfInBounds_toArray, List.set_cons_zero, List.set_cons_succ, Nat.reduceAdd] at hK ⊢
      have HK := Lib.hid hK
      have HJ := Lib.hid hJ
      clear hK hJ hd
      go_simp
      exact HK.out _ _ (HJ.out.value (by omega) rfl (Below.refl _ _) HJ.out.s)
    · intro l vs wx hJ hl hd K hK
      simp [depsOf, AllL, Region.binds, List.filterMap] at hd
      have e0 : vs 2 = .agg #[.int .i64 a2, .int .u32 b2, .int .u32 c2] := hJ.v 2 (by omega) (by first | exact hd | exact hd.1)
      simp only [Act.put, List.setIfInBounds_toArray, List.set_cons_zero, List.set_cons_succ, Nat.reduceAdd, e0] at hK ⊢
      have HK := Lib.hid hK
      have HJ := Lib.hid hJ
      clear hK hJ hd e0
      go_simp
      refine (to_any _ _ _ _).mono ?_
      rintro e w1 ⟨rfl, hb⟩
      exact HK.out _ _ (HJ.out.value (by omega) rfl hb (HJ.out.s.below (by have := HJ.out.n; omega) hb))
    · intro l vs wx hJ hl hd K hK
      simp only [Act.put, List.setIfInBounds_toArray, List.set_cons_zero, List.set_cons_succ, Nat.reduceAdd] at hK ⊢
      have HK := Lib.hid hK
      have HJ := Lib.hid hJ
      have HL := Lib.hid hl
      clear hK hJ hd hl
      go_simp
      exact HK.out _ _ (HJ.out.made (i := 0) (by omega) HL.out (HJ.out.s.below (by have := HJ.out.n; omega) ((Below.refl _ _).alloc (Nat.le_refl _) _)))
    · intro l vs wx hJ hl hd K hK
      simp only [Act.put, List.setIfInBounds_toArray, List.set_cons_zero, List.set_cons_succ, Nat.reduceAdd] at hK ⊢
      have HK := Lib.hid hK
      have HJ := Lib.hid hJ
      have HL := Lib.hid hl
      clear hK hJ hd hl
      go_simp
      exact HK.out _ _ (HJ.out.made (i := 1) (by omega) HL.out (HJ.out.s.below (by have := HJ.out.n; omega) ((Below.refl _ _).alloc (Nat.le_refl _) _)))
    · intro l vs wx hJ hl hd K hK
      simp [depsOf, AllL, Region.binds, List.filterMap] at hd
      have h6 : l 4 = true := by simp_all
      have h1 : l 1 = true := by simp_all
      have e1 : vs 1 = .agg #[.int .i64 a1, .int .u32 b1, .int .u32 c1] := hJ.v 1 (by omega) h1
      obtain ⟨b, e6, hNb, hbw, hR⟩ := hJ.p 0 (by omega) h6
      have e6' : vs 4 = .pointer (some ⟨b, 0, none⟩) := e6
      obtain ⟨u0, r0⟩ := Option.isSome_iff_exists.1 (hR 0 (by omega)).1
      obtain ⟨u1, r1⟩ := Option.isSome_iff_exists.1 (hR 1 (by omega)).1
      obtain ⟨u2, r2⟩ := Option.isSome_iff_exists.1 (hR 2 (by omega)).1
      have f0 := (hR 0 (by omega)).2
      have f1 := (hR 1 (by omega)).2
      have f2 := (hR 2 (by omega)).2
      simp only [Act.put, Nat.reduceAdd, e1, e6'] at hK ⊢
      have HK := Lib.hid hK
      have HJ := Lib.hid hJ
      have H6 := Lib.hid h6
      have E6 := Lib.hid e6
      clear hK hJ hd e1 e6 e6' h1 h6 hl hR hbw
      go_simp
      exact HK.out undef _ (HJ.out.stored (i := 0) (by omega) H6.out E6.out (HJ.out.s.store (by omega) (by omega) (by omega) (by omega)) _)
    · intro l vs wx hJ hl hd K hK
      simp [depsOf, AllL, Region.binds, List.filterMap] at hd
      have h6 : l 5 = true := by simp_all
      have h1 : l 3 = true := by simp_all
      have e1 : vs 3 = .agg #[.int .i64 a2, .int .u32 b2, .int .u32 c2] := hJ.v 3 (by omega) h1
      obtain ⟨b, e6, hNb, hbw, hR⟩ := hJ.p 1 (by omega) h6
      have e6' : vs 5 = .pointer (some ⟨b, 0, none⟩) := e6
      obtain ⟨u0, r0⟩ := Option.isSome_iff_exists.1 (hR 0 (by omega)).1
      obtain ⟨u1, r1⟩ := Option.isSome_iff_exists.1 (hR 1 (by omega)).1
      obtain ⟨u2, r2⟩ := Option.isSome_iff_exists.1 (hR 2 (by omega)).1
      have f0 := (hR 0 (by omega)).2
      have f1 := (hR 1 (by omega)).2
      have f2 := (hR 2 (by omega)).2
      simp only [Act.put, Nat.reduceAdd, e1, e6'] at hK ⊢
      have HK := Lib.hid hK
      have HJ := Lib.hid hJ
      have H6 := Lib.hid h6
      have E6 := Lib.hid e6
      clear hK hJ hd e1 e6 e6' h1 h6 hl hR hbw
      go_simp
      exact HK.out undef _ (HJ.out.stored (i := 1) (by omega) H6.out E6.out (HJ.out.s.store (by omega) (by omega) (by omega) (by omega)) _)
  case hend =>
    intro l vs wx hall hJ
    obtain ⟨p, ep, hpN, hpw, _⟩ := hJ.p 0 (by omega) (hall 4 (by decide))
    obtain ⟨q, eq, hqN, hqw, _⟩ := hJ.p 1 (by omega) (hall 5 (by decide))
    have ep' : vs 4 = .pointer (some ⟨p, 0, none⟩) := ep
    have eq' : vs 5 = .pointer (some ⟨q, 0, none⟩) := eq
    have hA : Args2 w.heap.size p q w (a1, b1, c1) (a2, b2, c2) wx := ⟨(hJ.h 0 (by omega) (hall 6 (by decide))).2 p ep, (hJ.h 1 (by omega) (hall 7 (by decide))).2 q eq, hJ.s.2.2.1, hJ.s.2.2.2⟩
    have zx : w.heap.size ≤ wx.heap.size := hA.2.2.2.size
    simp only [ep', eq']
    clear hJ ep eq ep' eq' hall
    obtain ⟨HB1, HC1, HB2, HC2⟩ := HB.out
    have hR1 := fun w' => right_any a1 b1 c1 w'
    have hR2 := fun w' => right_any a2 b2 c2 w'
    have hR0 := fun w' => right_any 0 0 0 w'
    have hr0 : rightB 0 = true := by decide
    rw [hr0] at hR0
    clear hr0
    obtain ⟨⟨p0, p1, p2⟩, ⟨q0, q1, q2⟩, -, -⟩ := id hA
    by_cases h1 : rightB a1 = true
    · rw [h1] at hR1
      by_cases h2 : rightB a2 = true
      · rw [h2] at hR2
        have r1 : 0 ≤ a1 ∧ a1 ≤ 4611686018427387904 := by simpa [rightB] using h1
        have r2 : 0 ≤ a2 ∧ a2 ≤ 4611686018427387904 := by simpa [rightB] using h2
        have hless := put_less r1 HB1 HC1 r2 HB2 HC2
        have hinj := put_inj r1 HB1 HC1 r2 HB2 HC2
        have hget := get_put r1 HB1 HC1
        have HA := Lib.hid hA
        have HLESS := Lib.hid hless
        have HINJ := Lib.hid hinj
        have HGET := Lib.hid hget
        clear hA hless hinj hget h1 h2 r1 r2
        have HBC := Lib.hid (PBC.mk HB1 HC1 HB2 HC2)
        clear HB1 HC1 HB2 HC2
        obtain ⟨s1, hs1⟩ : ∃ s, s = strB (putB a1 b1 c1) := ⟨_, rfl⟩
        obtain ⟨s2, hs2⟩ : ∃ s, s = strB (putB a2 b2 c2) := ⟨_, rfl⟩
        have HS1 := Lib.hid hs1
        have HS2 := Lib.hid hs2
        clear hs1 hs2
        go_wp2_with fail
        refine (hR1 _).mono ?_
        rintro e w1 ⟨rfl, lb1⟩
        have hA1 := HA.out.below zx lb1
        have z1 := lb1.size
        obtain ⟨⟨p0', p1', p2'⟩, ⟨q0', q1', q2'⟩, -, -⟩ := id hA1
        clear lb1 p0 p1 p2 q0 q1 q2
        have HA1 := Lib.hid hA1
        clear hA1
        go_wp2_with fail
        refine (hR2 _).mono ?_
        rintro e w2 ⟨rfl, lb2⟩
        have hA2 := HA1.out.below (by omega) lb2
        have z2 := lb2.size
        clear lb2 p0' p1' p2' q0' q1' q2' hR1 hR2 hR0
        go_wp2_with fail
        apply region_invA (PJ (Args2 w.heap.size p q w (a1, b1, c1) (a2, b2, c2)) w.heap.size (a1, b1, c1) (a2, b2, c2) s1 s2)
        case hm => kernel_rfl
        case hf => kernel_rfl
        case hQ => exact (by intro c x y w e h; exact And.intro (e.symm.trans (And.left h)) (And.right h))
        case hF => intro vs; simp only [putAll, Act.put, List.setIfInBounds_toArray, List.set_cons_zero, List.set_cons_succ, Nat.reduceAdd]; rfl
        case h0 =>
          exact { s := ⟨⟨keptD hA2.1.1, keptD hA2.1.2.1, keptD hA2.1.2.2⟩, ⟨keptD hA2.2.1.1, keptD hA2.2.1.2.1, keptD hA2.2.1.2.2⟩, ⟨keptD hA2.2.2.1.c0, keptD hA2.2.2.1.c1, keptD hA2.2.2.1.c2⟩, hA2.2.2.2.trans ((Tn.drew (P := fun _ => False) w2).below (by omega) (fun _ _ h => h.elim))⟩, v1 := (fun h => by cases h), u1 := (fun h => by cases h), t1 := (fun h => by cases h), z1 := (fun h => by cases h), v2 := (fun h => by cases h), u2 := (fun h => by cases h), t2 := (fun h => by cases h), z2 := (fun h => by cases h) }
        case hstep =>
          repeat' (first | exact AllOps.nil | apply AllOps.cons)
          · intro l vs wx hJ hl hd K hK
            obtain ⟨⟨p0, p1, p2⟩, ⟨p3, p4, p5⟩, _, _⟩ := hJ.s
            simp only [Act.put, List.setIfInBounds_toArray, List.set_cons_zero, List.set_cons_succ] at hK ⊢
            have HK := Lib.hid hK
            have HJ := Lib.hid hJ
            clear hK hJ hd
            go_simp
            exact HK.out _ _ (HJ.out.load1 (Below.refl _ _) HJ.out.s)
          · intro l vs wx hJ hl hd K hK
            simp [depsOf, AllL, Region.binds, List.filterMap] at hd
            have e0 : vs 0 = .agg #[.int .i64 a1, .int .u32 b1, .int .u32 c1] := hJ.v1 (by first | exact hd | exact hd.1)
            simp only [Act.put, List.setIfInBounds_toArray, List.set_cons_zero, List.set_cons_succ, Nat.reduceAdd, e0] at hK ⊢
            have HK := Lib.hid hK
            have HJ := Lib.hid hJ
            clear hK hJ hd e0
            go_simp
            refine (put_any a1 b1 c1 _ HBC.out.b1 HBC.out.c1 HJ.out.s.2.2.1).mono ?_
            rintro e w2 ⟨A2, cc2, rfl, hown2, hb2⟩
            rw [putB_length] at hown2
            exact HK.out _ _ (HJ.out.put1 ⟨A2, cc2, by rw [putB_length], hown2.more HJ.out.s.2.2.2.size⟩ hb2 (HJ.out.s.below HJ.out.s.2.2.2.size hb2))
          · intro l vs wx hJ hl hd K hK
            simp [depsOf, AllL, Region.binds, List.filterMap] at hd
            obtain ⟨A2, cc2, e0, hob⟩ := hJ.u1 (by first | exact hd | exact hd.1)
            have hs := ob16_str hob HS1.out
            simp only [Act.put, List.setIfInBounds_toArray, List.set_cons_zero, List.set_cons_succ, Nat.reduceAdd, e0] at hK ⊢
            have HK := Lib.hid hK
            have HJ := Lib.hid hJ
            clear hK hJ hd e0 hob
            go_simp
            exact HK.out _ _ (HJ.out.str1 HJ.out.s)
          · intro l vs wx hJ hl hd K hK
            obtain ⟨⟨p0, p1, p2⟩, ⟨p3, p4, p5⟩, _, _⟩ := hJ.s
            simp only [Act.put, List.setIfInBounds_toArray, List.set_cons_zero, List.set_cons_succ, Nat.reduceAdd] at hK ⊢
            have HK := Lib.hid hK
            have HJ := Lib.hid hJ
            clear hK hJ hd
            go_simp
            exact HK.out _ _ (HJ.out.load2 (Below.refl _ _) HJ.out.s)
          · intro l vs wx hJ hl hd K hK
            simp [depsOf, AllL, Region.binds, List.filterMap] at hd
            have e0 : vs 3 = .agg #[.int .i64 a2, .int .u32 b2, .int .u32 c2] := hJ.v2 (by first | exact hd | exact hd.1)
            simp only [Act.put, List.setIfInBounds_toArray, List.set_cons_zero, List.set_cons_succ, Nat.reduceAdd, e0] at hK ⊢
            have HK := Lib.hid hK
            have HJ := Lib.hid hJ
            clear hK hJ hd e0
            go_simp
            refine (put_any a2 b2 c2 _ HBC.out.b2 HBC.out.c2 HJ.out.s.2.2.1).mono ?_
            rintro e w2 ⟨A2, cc2, rfl, hown2, hb2⟩
            rw [putB_length] at hown2
            exact HK.out _ _ (HJ.out.put2 ⟨A2, cc2, by rw [putB_length], hown2.more HJ.out.s.2.2.2.size⟩ hb2 (HJ.out.s.below HJ.out.s.2.2.2.size hb2))
          · intro l vs wx hJ hl hd K hK
            simp [depsOf, AllL, Region.binds, List.filterMap] at hd
            obtain ⟨A2, cc2, e0, hob⟩ := hJ.u2 (by first | exact hd | exact hd.1)
            have hs := ob16_str hob HS2.out
            simp only [Act.put, List.setIfInBounds_toArray, List.set_cons_zero, List.set_cons_succ, Nat.reduceAdd, e0] at hK ⊢
            have HK := Lib.hid hK
            have HJ := Lib.hid hJ
            clear hK hJ hd e0 hob
            go_simp
            exact HK.out _ _ (HJ.out.str2 HJ.out.s)
          · intro l vs wx hJ hl hd K hK
            simp [depsOf, AllL, Region.binds, List.filterMap] at hd
            have e0 : vs 2 = .string s1 := hJ.t1 (by simp_all)
            simp only [Act.put, List.setIfInBounds_toArray, List.set_cons_zero, List.set_cons_succ, Nat.reduceAdd, e0] at hK ⊢
            have HK := Lib.hid hK
            have HJ := Lib.hid hJ
            clear hK hJ hd e0
            go_simp
            exact HK.out _ _ (HJ.out.asg1 HJ.out.s)
          · intro l vs wx hJ hl hd K hK
            simp [depsOf, AllL, Region.binds, List.filterMap] at hd
            have e0 : vs 5 = .string s2 := hJ.t2 (by simp_all)
            simp only [Act.put, List.setIfInBounds_toArray, List.set_cons_zero, List.set_cons_succ, Nat.reduceAdd, e0] at hK ⊢
            have HK := Lib.hid hK
            have HJ := Lib.hid hJ
            clear hK hJ hd e0
            go_simp
            exact HK.out _ _ (HJ.out.asg2 HJ.out.s)
        case hend =>
          intro l2 vs2 wy hall2 hJ2
          have e6 : vs2 6 = .string s1 := hJ2.z1 (hall2 6 (by decide))
          have e7 : vs2 7 = .string s2 := hJ2.z2 (hall2 7 (by decide))
          have hS := hJ2.s
          simp only [e6, e7]
          clear hJ2 e6 e7 hall2
          have zy := hS.2.2.2.size
          obtain ⟨cap, W5, hrun, hbs5, hb5⟩ := str_bytes wy s1 _ HS1.out (by rw [putB_length]; omega)
          rw [putB_length] at hrun
          have hS5 := hS.below zy hb5
          have z5 := hb5.size
          have hg := get_full W5.heap.size ⟨wy.heap.size, 0, none⟩ cap (putB a1 b1 c1) W5 hbs5 (putB_length _ _ _) hS5.2.2.1
          unfold GetPost at hg
          rw [HGET.out] at hg
          have HG := Lib.hid hg
          have tl1 : s1.toList = putB a1 b1 c1 := by rw [ByteArray.toList_eq, HS1.out]; rfl
          have tl2 : s2.toList = putB a2 b2 c2 := by rw [ByteArray.toList_eq, HS2.out]; rfl
          have hF1 : Op.bytesLess s1.toList s2.toList = decide (cmpS a1 b1 c1 a2 b2 c2 < 0) := by rw [tl1, tl2, HLESS.out]
          have hF2 : (s1.toList == s2.toList) = decide (a1 = a2 ∧ b1 = b2 ∧ c1 = c2) := by
            rw [tl1, tl2, Bool.eq_iff_iff, beq_iff_eq, decide_eq_true_eq, HINJ.out]
          have hsz : s1.size = 16 := by rw [HS1.out, strB_size, putB_length]
          have hcmp := fun w' => compare_any a1 b1 c1 a2 b2 c2 HBC.out.b1.1 HBC.out.b1.2 HBC.out.c1.1 HBC.out.c1.2 HBC.out.b2.1 HBC.out.b2.2 HBC.out.c2.1 HBC.out.c2.2 w'
          generalize cmpS a1 b1 c1 a2 b2 c2 = k at hF1 hcmp
          have HCMP := Lib.hid hcmp
          clear hg hbs5 hcmp tl1 tl2 hA2 HA HA1 HLESS HINJ HGET HS1 HS2 HBC HW HB
          have hcases : a1 ≠ a2 ∨ (a1 = a2 ∧ b1 ≠ b2) ∨ (a1 = a2 ∧ b1 = b2 ∧ c1 ≠ c2) ∨ (a1 = a2 ∧ b1 = b2 ∧ c1 = c2) := by omega
          have HS5 := Lib.hid hS5
          clear hS5 hS
          go_wp2_with fail
          refine HG.out.mono ?_
          rintro e w6 ⟨rfl, hb6⟩
          have hS6 := HS5.out.below (by omega) hb6
          have z6 := hb6.size
          clear hrun hb5 hb6 HG
          obtain ⟨⟨g0, g1, g2⟩, ⟨h0, h1, h2⟩, -, B6⟩ := hS6
          have t0 := fun o => keptA (o := o) g0
          have t1 := fun o => keptA (o := o) g1
          have t2 := fun o => keptA (o := o) g2
          have u0 := fun o => keptA (o := o) h0
          have u1 := fun o => keptA (o := o) h1
          have u2 := fun o => keptA (o := o) h2
          rcases hcases with hne | ⟨rfl, hne⟩ | ⟨rfl, rfl, hne⟩ | ⟨rfl, rfl, rfl⟩
          · have hF3 : (s1.toList == s2.toList) = false := by rw [hF2]; simp [hne]
            have hE : (a1 == a2) = false := by simpa using hne
            clear hF2 hne
            go_wp2_with (go_at_call 14; refine (HCMP.out _).mono ?_; rintro e w7 ⟨rfl, hb7⟩; have n0 : w7.cell? ⟨w6.heap.size, 0, none⟩ = some (.int .i64 a1) := kept hb7 (by simp); have n1 : w7.cell? ⟨w6.heap.size, 1, none⟩ = some (.int .u32 b1) := kept hb7 (by simp); have n2 : w7.cell? ⟨w6.heap.size, 2, none⟩ = some (.int .u32 c1) := kept hb7 (by simp); have v0 := kept hb7 (t0 _); have v1 := kept hb7 (t1 _); have v2 := kept hb7 (t2 _); have x0 := kept hb7 (u0 _); have x1 := kept hb7 (u1 _); have x2 := kept hb7 (u2 _))
            go_ret
            exact ⟨rfl, B6.trans ((((Below.refl _ _).alloc (Nat.le_refl _) _).trans (hb7.mono (by simp))).mono (by omega))⟩
          · have hF3 : (s1.toList == s2.toList) = false := by rw [hF2]; simp [hne]
            have hE : (b1 == b2) = false := by simpa using hne
            clear hF2 hne
            go_wp2_with (go_at_call 14; refine (HCMP.out _).mono ?_; rintro e w7 ⟨rfl, hb7⟩; have n0 : w7.cell? ⟨w6.heap.size, 0, none⟩ = some (.int .i64 a1) := kept hb7 (by simp); have n1 : w7.cell? ⟨w6.heap.size, 1, none⟩ = some (.int .u32 b1) := kept hb7 (by simp); have n2 : w7.cell? ⟨w6.heap.size, 2, none⟩ = some (.int .u32 c1) := kept hb7 (by simp); have v0 := kept hb7 (t0 _); have v1 := kept hb7 (t1 _); have v2 := kept hb7 (t2 _); have x0 := kept hb7 (u0 _); have x1 := kept hb7 (u1 _); have x2 := kept hb7 (u2 _))
            go_ret
            exact ⟨rfl, B6.trans ((((Below.refl _ _).alloc (Nat.le_refl _) _).trans (hb7.mono (by simp))).mono (by omega))⟩
          · have hF3 : (s1.toList == s2.toList) = false := by rw [hF2]; simp [hne]
            have hE : (c1 == c2) = false := by simpa using hne
            clear hF2 hne
            go_wp2_with (go_at_call 14; refine (HCMP.out _).mono ?_; rintro e w7 ⟨rfl, hb7⟩; have n0 : w7.cell? ⟨w6.heap.size, 0, none⟩ = some (.int .i64 a1) := kept hb7 (by simp); have n1 : w7.cell? ⟨w6.heap.size, 1, none⟩ = some (.int .u32 b1) := kept hb7 (by simp); have n2 : w7.cell? ⟨w6.heap.size, 2, none⟩ = some (.int .u32 c1) := kept hb7 (by simp); have v0 := kept hb7 (t0 _); have v1 := kept hb7 (t1 _); have v2 := kept hb7 (t2 _); have x0 := kept hb7 (u0 _); have x1 := kept hb7 (u1 _); have x2 := kept hb7 (u2 _))
            go_ret
            exact ⟨rfl, B6.trans ((((Below.refl _ _).alloc (Nat.le_refl _) _).trans (hb7.mono (by simp))).mono (by omega))⟩
          · have hF3 : (s1.toList == s2.toList) = true := by rw [hF2]; simp
            clear hF2
            go_wp2_with (go_at_call 14; refine (HCMP.out _).mono ?_; rintro e w7 ⟨rfl, hb7⟩; have n0 : w7.cell? ⟨w6.heap.size, 0, none⟩ = some (.int .i64 a1) := kept hb7 (by simp); have n1 : w7.cell? ⟨w6.heap.size, 1, none⟩ = some (.int .u32 b1) := kept hb7 (by simp); have n2 : w7.cell? ⟨w6.heap.size, 2, none⟩ = some (.int .u32 c1) := kept hb7 (by simp); have v0 := kept hb7 (t0 _); have v1 := kept hb7 (t1 _); have v2 := kept hb7 (t2 _); have x0 := kept hb7 (u0 _); have x1 := kept hb7 (u1 _); have x2 := kept hb7 (u2 _))
            go_ret
            exact ⟨rfl, B6.trans ((((Below.refl _ _).alloc (Nat.le_refl _) _).trans (hb7.mono (by simp))).mono (by omega))⟩
      · have h2' : rightB a2 = false := by simpa using h2
        rw [h2'] at hR2
        clear h1 h2 h2'
        have HA := Lib.hid hA
        clear hA
        go_wp2_with fail
        refine (hR1 _).mono ?_
        rintro e w1 ⟨rfl, lb1⟩
        have hA1 := HA.out.below zx lb1
        have z1 := lb1.size
        obtain ⟨⟨p0', p1', p2'⟩, ⟨q0', q1', q2'⟩, -, B1⟩ := hA1
        clear lb1 p0 p1 p2 q0 q1 q2
        go_wp2_with fail
        refine (hR2 _).mono ?_
        rintro e w2 ⟨rfl, lb2⟩
        go_wp2_with fail
        refine (hR0 _).mono ?_
        rintro e w3 ⟨rfl, lb3⟩
        go_wp2_with fail
        go_ret
        have z2 := lb2.size
        exact ⟨rfl, (B1.trans (lb2.mono (by omega))).trans (lb3.mono (by omega))⟩
    · have h1' : rightB a1 = false := by simpa using h1
      rw [h1'] at hR1
      clear h1 h1'
      have B0 := hA.2.2.2
      clear hA
      go_wp2_with fail
      refine (hR1 _).mono ?_
      rintro e w1 ⟨rfl, lb1⟩
      go_wp2_with fail
      refine (hR0 _).mono ?_
      rintro e w2 ⟨rfl, lb2⟩
      go_wp2_with fail
      go_ret
      have z1 := lb1.size
      exact ⟨rfl, (B0.trans (lb1.mono (by omega))).trans (lb2.mono (by omega))⟩
end Go.Proofs.YtignhpobeemjhaaDoor
