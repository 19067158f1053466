/- StampLine: the order is one line, case by case. -/
import Derived.Test.YteibigiehpkdjaaLineA
import Derived.Test.YteibigiehpkdjaaEqSt
namespace Go.Proofs.Yteibigiehpkdjaa
open Go.RowKit


set_option maxHeartbeats 4000000 in
theorem line_a (a1 b1 c1 a2 b2 c2 a3 b3 c3 : Int) (hb00 : 0 ≤ b1) (hb01 : b1 ≤ 4294967295) (hc00 : 0 ≤ c1) (hc01 : c1 ≤ 4294967295) (hb10 : 0 ≤ b2) (hb11 : b2 ≤ 4294967295) (hc10 : 0 ≤ c2) (hc11 : c2 ≤ 4294967295) (hb20 : 0 ≤ b3) (hb21 : b3 ≤ 4294967295) (hc20 : 0 ≤ c3) (hc21 : c3 ≤ 4294967295) (e12 : cmpS a1 b1 c1 a2 b2 c2 = 1) (e21 : cmpS a2 b2 c2 a1 b1 c1 = -1) (hdec : decide (a1 = a2 ∧ b1 = b2 ∧ c1 = c2) = false) (w : World) :
    Calls Try.prog 4 #[.agg #[.int .i64 a1, .int .u32 b1, .int .u32 c1], .agg #[.int .i64 a2, .int .u32 b2, .int .u32 c2], .agg #[.int .i64 a3, .int .u32 b3, .int .u32 c3]] w fun e w' => e = .returned (.bool true) ∧ Below w.heap.size w w' := by
  have HB := Lib.hid (And.intro hb00 (And.intro hb01 (And.intro hc00 (And.intro hc01 (And.intro hb10 (And.intro hb11 (And.intro hc10 (And.intro hc11 (And.intro hb20 (And.intro hb21 (And.intro hc20 hc21)))))))))))
  clear hb00 hb01 hc00 hc01 hb10 hb11 hc10 hc11 hb20 hb21 hc20 hc21
  have He12 := Lib.hid e12
  clear e12
  have He21 := Lib.hid e21
  clear e21
  have Hhdec := Lib.hid hdec
  clear hdec
  go_enter Try.func4, Try.ntmps4
  go_wp2_with fail
  apply region_invA (Lets (Args3 w a1 b1 c1 a2 b2 c2 a3 b3 c3) (w.heap.size + 3) 6 3 (fun j => ([.agg #[.int .i64 a1, .int .u32 b1, .int .u32 c1], .agg #[.int .i64 a1, .int .u32 b1, .int .u32 c1], .agg #[.int .i64 a2, .int .u32 b2, .int .u32 c2], .agg #[.int .i64 a2, .int .u32 b2, .int .u32 c2], .agg #[.int .i64 a3, .int .u32 b3, .int .u32 c3], .agg #[.int .i64 a3, .int .u32 b3, .int .u32 c3]] : List Value).getD j undef) (fun j => ([(a1, b1, c1), (a2, b2, c2), (a3, b3, c3)] : List (Int × Int × Int)).getD j (0, 0, 0)))
  case hm => kernel_rfl
  case hf => kernel_rfl
  case hQ => exact (by intro c x y w e h; exact And.intro (e.symm.trans (And.left h)) (And.right h))
  case hF => intro vs; simp only [putAll, Act.put, List.setIfInBounds_toArray, List.set_cons_zero, List.set_cons_succ, Nat.reduceAdd]; rfl
  case h0 =>
    exact ⟨⟨⟨(by repeat' (first | (with_reducible assumption) | (simp; done) | (with_reducible apply keptD) | (simp [go_sem]; done) | (with_reducible apply keptA))), (by repeat' (first | (with_reducible assumption) | (simp; done) | (with_reducible apply keptD) | (simp [go_sem]; done) | (with_reducible apply keptA))), (by repeat' (first | (with_reducible assumption) | (simp; done) | (with_reducible apply keptD) | (simp [go_sem]; done) | (with_reducible apply keptA)))⟩, ⟨(by repeat' (first | (with_reducible assumption) | (simp; done) | (with_reducible apply keptD) | (simp [go_sem]; done) | (with_reducible apply keptA))), (by repeat' (first | (with_reducible assumption) | (simp; done) | (with_reducible apply keptD) | (simp [go_sem]; done) | (with_reducible apply keptA))), (by repeat' (first | (with_reducible assumption) | (simp; done) | (with_reducible apply keptD) | (simp [go_sem]; done) | (with_reducible apply keptA)))⟩, ⟨(by repeat' (first | (with_reducible assumption) | (simp; done) | (with_reducible apply keptD) | (simp [go_sem]; done) | (with_reducible apply keptA))), (by repeat' (first | (with_reducible assumption) | (simp; done) | (with_reducible apply keptD) | (simp [go_sem]; done) | (with_reducible apply keptA))), (by repeat' (first | (with_reducible assumption) | (simp; done) | (with_reducible apply keptD) | (simp [go_sem]; done) | (with_reducible apply keptA)))⟩, (by go_grown)⟩, (by simp), (fun j hj h => by cases h), (fun i hi h => by cases h), (fun i j hi hj hij h => by cases h), (fun i hi h => by cases h)⟩
  case hstep =>
    repeat' (first | exact AllOps.nil | apply AllOps.cons)
    · intro l vs wx hJ hl hd K hK
      have hS := hJ.s
      obtain ⟨⟨p0, p1, p2⟩, ⟨p3, p4, p5⟩, ⟨p6, p7, p8⟩, _⟩ := hS
      simp only [Act.put, List.setIfInBounds_toArray, List.set_cons_zero, List.set_cons_succ, Nat.reduceAdd] at hK ⊢
      have HK := Lib.hid hK
      have HJ := Lib.hid hJ
      clear hK hJ hd
      go_simp
      exact HK.out _ _ (HJ.out.value (by omega) rfl (Below.refl _ _) HJ.out.s)
    · intro l vs wx hJ hl hd K hK
      simp [depsOf, AllL, Region.binds, List.filterMap] at hd
      have e0 : vs 0 = .agg #[.int .i64 a1, .int .u32 b1, .int .u32 c1] := hJ.v 0 (by omega) (by first | exact hd | exact hd.1)
      simp only [Act.put, List.setIfInBounds_toArray, List.set_cons_zero, List.set_cons_succ, Nat.reduceAdd, e0] at hK ⊢
      have HK := Lib.hid hK
      have HJ := Lib.hid hJ
      clear hK hJ hd e0
      go_simp
      refine (to_any _ _ _ _).mono ?_
      rintro e w1 ⟨rfl, hb⟩
      exact HK.out _ _ (HJ.out.value (by omega) rfl hb (HJ.out.s.below hb))
    · intro l vs wx hJ hl hd K hK
      have hS := hJ.s
      obtain ⟨⟨p0, p1, p2⟩, ⟨p3, p4, p5⟩, ⟨p6, p7, p8⟩, _⟩ := hS
      simp only [Act.put, List.setIfInBounds_toArray, List.set_cons_zero, List.set_cons_succ, Nat.reduceAdd] at hK ⊢
      have HK := Lib.hid hK
      have HJ := Lib.hid hJ
      clear hK hJ hd
      go_simp
      exact HK.out _ _ (HJ.out.value (by omega) rfl (Below.refl _ _) HJ.out.s)
    · intro l vs wx hJ hl hd K hK
      simp [depsOf, AllL, Region.binds, List.filterMap] at hd
      have e0 : vs 2 = .agg #[.int .i64 a2, .int .u32 b2, .int .u32 c2] := hJ.v 2 (by omega) (by first | exact hd | exact hd.1)
      simp only [Act.put, List.setIfInBounds_toArray, List.set_cons_zero, List.set_cons_succ, Nat.reduceAdd, e0] at hK ⊢
      have HK := Lib.hid hK
      have HJ := Lib.hid hJ
      clear hK hJ hd e0
      go_simp
      refine (to_any _ _ _ _).mono ?_
      rintro e w1 ⟨rfl, hb⟩
      exact HK.out _ _ (HJ.out.value (by omega) rfl hb (HJ.out.s.below hb))
    · intro l vs wx hJ hl hd K hK
      have hS := hJ.s
      obtain ⟨⟨p0, p1, p2⟩, ⟨p3, p4, p5⟩, ⟨p6, p7, p8⟩, _⟩ := hS
      simp only [Act.put, List.setIfInBounds_toArray, List.set_cons_zero, List.set_cons_succ, Nat.reduceAdd] at hK ⊢
      have HK := Lib.hid hK
      have HJ := Lib.hid hJ
      clear hK hJ hd
      go_simp
      exact HK.out _ _ (HJ.out.value (by omega) rfl (Below.refl _ _) HJ.out.s)
    · intro l vs wx hJ hl hd K hK
      simp [depsOf, AllL, Region.binds, List.filterMap] at hd
      have e0 : vs 4 = .agg #[.int .i64 a3, .int .u32 b3, .int .u32 c3] := hJ.v 4 (by omega) (by first | exact hd | exact hd.1)
      simp only [Act.put, List.setIfInBounds_toArray, List.set_cons_zero, List.set_cons_succ, Nat.reduceAdd, e0] at hK ⊢
      have HK := Lib.hid hK
      have HJ := Lib.hid hJ
      clear hK hJ hd e0
      go_simp
      refine (to_any _ _ _ _).mono ?_
      rintro e w1 ⟨rfl, hb⟩
      exact HK.out _ _ (HJ.out.value (by omega) rfl hb (HJ.out.s.below hb))
    · intro l vs wx hJ hl hd K hK
      simp only [Act.put, List.setIfInBounds_toArray, List.set_cons_zero, List.set_cons_succ, Nat.reduceAdd] at hK ⊢
      have HK := Lib.hid hK
      have HJ := Lib.hid hJ
      have HL := Lib.hid hl
      clear hK hJ hd hl
      go_simp
      exact HK.out _ _ (HJ.out.made (i := 0) (by omega) HL.out (HJ.out.s.below ((Below.refl _ _).alloc (Nat.le_refl _) _)))
    · intro l vs wx hJ hl hd K hK
      simp only [Act.put, List.setIfInBounds_toArray, List.set_cons_zero, List.set_cons_succ, Nat.reduceAdd] at hK ⊢
      have HK := Lib.hid hK
      have HJ := Lib.hid hJ
      have HL := Lib.hid hl
      clear hK hJ hd hl
      go_simp
      exact HK.out _ _ (HJ.out.made (i := 1) (by omega) HL.out (HJ.out.s.below ((Below.refl _ _).alloc (Nat.le_refl _) _)))
    · intro l vs wx hJ hl hd K hK
      simp only [Act.put, List.setIfInBounds_toArray, List.set_cons_zero, List.set_cons_succ, Nat.reduceAdd] at hK ⊢
      have HK := Lib.hid hK
      have HJ := Lib.hid hJ
      have HL := Lib.hid hl
      clear hK hJ hd hl
      go_simp
      exact HK.out _ _ (HJ.out.made (i := 2) (by omega) HL.out (HJ.out.s.below ((Below.refl _ _).alloc (Nat.le_refl _) _)))
    · intro l vs wx hJ hl hd K hK
      simp [depsOf, AllL, Region.binds, List.filterMap] at hd
      have h6 : l 6 = true := by simp_all
      have h1 : l 1 = true := by simp_all
      have e1 : vs 1 = .agg #[.int .i64 a1, .int .u32 b1, .int .u32 c1] := hJ.v 1 (by omega) h1
      obtain ⟨b, e6, hNb, hbw, hR⟩ := hJ.p 0 (by omega) h6
      have e6' : vs 6 = .pointer (some ⟨b, 0, none⟩) := e6
      obtain ⟨u0, r0⟩ := Option.isSome_iff_exists.1 (hR 0 (by omega)).1
      obtain ⟨u1, r1⟩ := Option.isSome_iff_exists.1 (hR 1 (by omega)).1
      obtain ⟨u2, r2⟩ := Option.isSome_iff_exists.1 (hR 2 (by omega)).1
      have f0 := (hR 0 (by omega)).2
      have f1 := (hR 1 (by omega)).2
      have f2 := (hR 2 (by omega)).2
      simp only [Act.put, List.setIfInBounds_toArray, List.set_cons_zero, List.set_cons_succ, Nat.reduceAdd, e1, e6'] at hK ⊢
      have HK := Lib.hid hK
      have HJ := Lib.hid hJ
      have H6 := Lib.hid h6
      have E6 := Lib.hid e6
      have HN := Lib.hid hNb
      clear hK hJ hd e1 e6 e6' h1 h6 hl hNb hR hbw
      go_simp
      exact HK.out undef _ (HJ.out.stored (i := 0) (by omega) H6.out E6.out (HJ.out.s.store HN.out) _)
    · intro l vs wx hJ hl hd K hK
      simp [depsOf, AllL, Region.binds, List.filterMap] at hd
      have h6 : l 7 = true := by simp_all
      have h1 : l 3 = true := by simp_all
      have e1 : vs 3 = .agg #[.int .i64 a2, .int .u32 b2, .int .u32 c2] := hJ.v 3 (by omega) h1
      obtain ⟨b, e6, hNb, hbw, hR⟩ := hJ.p 1 (by omega) h6
      have e6' : vs 7 = .pointer (some ⟨b, 0, none⟩) := e6
      obtain ⟨u0, r0⟩ := Option.isSome_iff_exists.1 (hR 0 (by omega)).1
      obtain ⟨u1, r1⟩ := Option.isSome_iff_exists.1 (hR 1 (by omega)).1
      obtain ⟨u2, r2⟩ := Option.isSome_iff_exists.1 (hR 2 (by omega)).1
      have f0 := (hR 0 (by omega)).2
      have f1 := (hR 1 (by omega)).2
      have f2 := (hR 2 (by omega)).2
      simp only [Act.put, List.setIfInBounds_toArray, List.set_cons_zero, List.set_cons_succ, Nat.reduceAdd, e1, e6'] at hK ⊢
      have HK := Lib.hid hK
      have HJ := Lib.hid hJ
      have H6 := Lib.hid h6
      have E6 := Lib.hid e6
      have HN := Lib.hid hNb
      clear hK hJ hd e1 e6 e6' h1 h6 hl hNb hR hbw
      go_simp
      exact HK.out undef _ (HJ.out.stored (i := 1) (by omega) H6.out E6.out (HJ.out.s.store HN.out) _)
    · intro l vs wx hJ hl hd K hK
      simp [depsOf, AllL, Region.binds, List.filterMap] at hd
      have h6 : l 8 = true := by simp_all
      have h1 : l 5 = true := by simp_all
      have e1 : vs 5 = .agg #[.int .i64 a3, .int .u32 b3, .int .u32 c3] := hJ.v 5 (by omega) h1
      obtain ⟨b, e6, hNb, hbw, hR⟩ := hJ.p 2 (by omega) h6
      have e6' : vs 8 = .pointer (some ⟨b, 0, none⟩) := e6
      obtain ⟨u0, r0⟩ := Option.isSome_iff_exists.1 (hR 0 (by omega)).1
      obtain ⟨u1, r1⟩ := Option.isSome_iff_exists.1 (hR 1 (by omega)).1
      obtain ⟨u2, r2⟩ := Option.isSome_iff_exists.1 (hR 2 (by omega)).1
      have f0 := (hR 0 (by omega)).2
      have f1 := (hR 1 (by omega)).2
      have f2 := (hR 2 (by omega)).2
      simp only [Act.put, List.setIfInBounds_toArray, List.set_cons_zero, List.set_cons_succ, Nat.reduceAdd, e1, e6'] at hK ⊢
      have HK := Lib.hid hK
      have HJ := Lib.hid hJ
      have H6 := Lib.hid h6
      have E6 := Lib.hid e6
      have HN := Lib.hid hNb
      clear hK hJ hd e1 e6 e6' h1 h6 hl hNb hR hbw
      go_simp
      exact HK.out undef _ (HJ.out.stored (i := 2) (by omega) H6.out E6.out (HJ.out.s.store HN.out) _)
  case hend =>
    intro l vs wx hall hJ
    obtain ⟨p, ep, _, _, _⟩ := hJ.p 0 (by omega) (hall 6 (by decide))
    obtain ⟨q, eq, _, _, _⟩ := hJ.p 1 (by omega) (hall 7 (by decide))
    obtain ⟨r, er, _, _, _⟩ := hJ.p 2 (by omega) (hall 8 (by decide))
    have ep' : vs 6 = .pointer (some ⟨p, 0, none⟩) := ep
    have eq' : vs 7 = .pointer (some ⟨q, 0, none⟩) := eq
    have er' : vs 8 = .pointer (some ⟨r, 0, none⟩) := er
    obtain ⟨p0, p1, p2⟩ := (hJ.h 0 (by omega) (hall 9 (by decide))).2 p ep
    obtain ⟨q0, q1, q2⟩ := (hJ.h 1 (by omega) (hall 10 (by decide))).2 q eq
    obtain ⟨r0, r1, r2⟩ := (hJ.h 2 (by omega) (hall 11 (by decide))).2 r er
    have hB := hJ.s.2.2.2
    simp only [ep', eq', er']
    obtain ⟨hb00, hb01, hc00, hc01, hb10, hb11, hc10, hc11, hb20, hb21, hc20, hc21⟩ := HB.out
    have e12 := He12.out
    have e21 := He21.out
    have hdec := Hhdec.out
    clear hJ ep eq er ep' eq' er' hall
    (try dsimp only at p0 p1 p2 q0 q1 q2 r0 r1 r2)
    go_wp2_with fail
    apply region_vals (fun w' => w'.cell? ⟨p, 0, none⟩ = some (.int .i64 a1) ∧ w'.cell? ⟨p, 1, none⟩ = some (.int .u32 b1) ∧ w'.cell? ⟨p, 2, none⟩ = some (.int .u32 c1) ∧ w'.cell? ⟨q, 0, none⟩ = some (.int .i64 a2) ∧ w'.cell? ⟨q, 1, none⟩ = some (.int .u32 b2) ∧ w'.cell? ⟨q, 2, none⟩ = some (.int .u32 c2) ∧ w'.cell? ⟨r, 0, none⟩ = some (.int .i64 a3) ∧ w'.cell? ⟨r, 1, none⟩ = some (.int .u32 b3) ∧ w'.cell? ⟨r, 2, none⟩ = some (.int .u32 c3) ∧ Below w.heap.size w w') [.agg #[.int .i64 a1, .int .u32 b1, .int .u32 c1], .agg #[.int .i64 a2, .int .u32 b2, .int .u32 c2], .int .i64 1, .agg #[.int .i64 a2, .int .u32 b2, .int .u32 c2], .agg #[.int .i64 a1, .int .u32 b1, .int .u32 c1], .int .i64 (-1), .int .i64 1, .bool false, .bool false, .agg #[.int .i64 a1, .int .u32 b1, .int .u32 c1], .agg #[.int .i64 a2, .int .u32 b2, .int .u32 c2], .int .i64 1, .bool false, .agg #[.int .i64 a1, .int .u32 b1, .int .u32 c1], .agg #[.int .i64 a2, .int .u32 b2, .int .u32 c2], .bool false, .bool false, .bool false]
    case hm => kernel_rfl
    case hf => kernel_rfl
    case hQ => exact (by intro c x y w e h; exact And.intro (e.symm.trans (And.left h)) (And.right h))
    case hF => simp only [putAll, Act.put, List.setIfInBounds_toArray, List.set_cons_zero, List.set_cons_succ, Nat.reduceAdd, List.getD_cons_zero, List.getD_cons_succ]; rfl
    case h0 => (((try dsimp only); go_split_ands; (repeat' apply And.intro) <;> first | assumption | (apply kept; assumption; assumption) | (apply via; assumption; assumption; apply Below.size; assumption) | (go_grown; done) | (repeat' first | assumption | (simp; done) | apply keptD | apply keptA | (apply kept; assumption))))
    case hstep =>
      repeat' (first | exact AllOps.nil | apply AllOps.cons)
      all_goals
        intro wx hS K hK
        simp only [Act.put, List.setIfInBounds_toArray, List.set_cons_zero, List.set_cons_succ, Nat.reduceAdd, List.getD_cons_zero, List.getD_cons_succ] at hK ⊢
        have HK := Lib.hid hK
        have HS := Lib.hid hS
        clear hK
        go_split_ands
        first
          | (rw [if_pos (by rfl)]; refine eq_st rfl rfl ?_; (simp only [Act.put, List.setIfInBounds_toArray, List.set_cons_zero, List.set_cons_succ]); refine HK.out _ _ ?_ HS.out; rw [hdec])
          | (go_simp; (first | (refine HK.out _ _ ?_ ?_; (first | rfl | (first | rw [e12] | rw [e21])); exact HS.out) | (go_at_call 14; refine (compare_any _ _ _ _ _ _ (by omega) (by omega) (by omega) (by omega) (by omega) (by omega) (by omega) (by omega) _).mono ?_; rintro e w1 ⟨rfl, hb⟩; refine HK.out _ _ ?_ ?_; (first | rfl | (first | rw [e12] | rw [e21])); (((try dsimp only); go_split_ands; (repeat' apply And.intro) <;> first | assumption | (apply kept; assumption; assumption) | (apply via; assumption; assumption; apply Below.size; assumption) | (go_grown; done) | (repeat' first | assumption | (simp; done) | apply keptD | apply keptA | (apply kept; assumption))))) | fail))
    case hend =>
      intro wx hS
      go_split_ands
      have hzx : w.heap.size ≤ wx.heap.size := Below.size (by assumption)
      go_wp2_with fail
      refine (compare_any _ _ _ _ _ _ (by omega) (by omega) (by omega) (by omega) (by omega) (by omega) (by omega) (by omega) _).mono ?_
      rintro e w20 ⟨rfl, lb20⟩
      have lz20 := lb20.size
      (try simp at lz20)
      have lB20 : Below w.heap.size w w20 := via lb20 (by go_grown) (by go_size)
      have m20_0 : w20.cell? ⟨p, 0, none⟩ = some (.int .i64 a1) := kept lb20 (by repeat' (first | assumption | (simp; done) | apply keptD | apply keptA))
      have m20_1 : w20.cell? ⟨p, 1, none⟩ = some (.int .u32 b1) := kept lb20 (by repeat' (first | assumption | (simp; done) | apply keptD | apply keptA))
      have m20_2 : w20.cell? ⟨p, 2, none⟩ = some (.int .u32 c1) := kept lb20 (by repeat' (first | assumption | (simp; done) | apply keptD | apply keptA))
      have m20_3 : w20.cell? ⟨q, 0, none⟩ = some (.int .i64 a2) := kept lb20 (by repeat' (first | assumption | (simp; done) | apply keptD | apply keptA))
      have m20_4 : w20.cell? ⟨q, 1, none⟩ = some (.int .u32 b2) := kept lb20 (by repeat' (first | assumption | (simp; done) | apply keptD | apply keptA))
      have m20_5 : w20.cell? ⟨q, 2, none⟩ = some (.int .u32 c2) := kept lb20 (by repeat' (first | assumption | (simp; done) | apply keptD | apply keptA))
      have m20_6 : w20.cell? ⟨r, 0, none⟩ = some (.int .i64 a3) := kept lb20 (by repeat' (first | assumption | (simp; done) | apply keptD | apply keptA))
      have m20_7 : w20.cell? ⟨r, 1, none⟩ = some (.int .u32 b3) := kept lb20 (by repeat' (first | assumption | (simp; done) | apply keptD | apply keptA))
      have m20_8 : w20.cell? ⟨r, 2, none⟩ = some (.int .u32 c3) := kept lb20 (by repeat' (first | assumption | (simp; done) | apply keptD | apply keptA))
      clear lb20
      go_wp2
      go_ret
      exact ⟨by first | rfl | exact ret_bool (by decide), by go_grown⟩

set_option maxHeartbeats 4000000 in
theorem line_zp (a1 b1 c1 a2 b2 c2 a3 b3 c3 : Int) (hb00 : 0 ≤ b1) (hb01 : b1 ≤ 4294967295) (hc00 : 0 ≤ c1) (hc01 : c1 ≤ 4294967295) (hb10 : 0 ≤ b2) (hb11 : b2 ≤ 4294967295) (hc10 : 0 ≤ c2) (hc11 : c2 ≤ 4294967295) (hb20 : 0 ≤ b3) (hb21 : b3 ≤ 4294967295) (hc20 : 0 ≤ c3) (hc21 : c3 ≤ 4294967295) (e12 : cmpS a1 b1 c1 a2 b2 c2 = 0) (e21 : cmpS a2 b2 c2 a1 b1 c1 = 0) (hdec : decide (a1 = a2 ∧ b1 = b2 ∧ c1 = c2) = true) (e23 : cmpS a2 b2 c2 a3 b3 c3 = 1) (w : World) :
    Calls Try.prog 4 #[.agg #[.int .i64 a1, .int .u32 b1, .int .u32 c1], .agg #[.int .i64 a2, .int .u32 b2, .int .u32 c2], .agg #[.int .i64 a3, .int .u32 b3, .int .u32 c3]] w fun e w' => e = .returned (.bool true) ∧ Below w.heap.size w w' := by
  have HB := Lib.hid (And.intro hb00 (And.intro hb01 (And.intro hc00 (And.intro hc01 (And.intro hb10 (And.intro hb11 (And.intro hc10 (And.intro hc11 (And.intro hb20 (And.intro hb21 (And.intro hc20 hc21)))))))))))
  clear hb00 hb01 hc00 hc01 hb10 hb11 hc10 hc11 hb20 hb21 hc20 hc21
  have He12 := Lib.hid e12
  clear e12
  have He21 := Lib.hid e21
  clear e21
  have Hhdec := Lib.hid hdec
  clear hdec
  have He23 := Lib.hid e23
  clear e23
  go_enter Try.func4, Try.ntmps4
  go_wp2_with fail
  apply region_invA (Lets (Args3 w a1 b1 c1 a2 b2 c2 a3 b3 c3) (w.heap.size + 3) 6 3 (fun j => ([.agg #[.int .i64 a1, .int .u32 b1, .int .u32 c1], .agg #[.int .i64 a1, .int .u32 b1, .int .u32 c1], .agg #[.int .i64 a2, .int .u32 b2, .int .u32 c2], .agg #[.int .i64 a2, .int .u32 b2, .int .u32 c2], .agg #[.int .i64 a3, .int .u32 b3, .int .u32 c3], .agg #[.int .i64 a3, .int .u32 b3, .int .u32 c3]] : List Value).getD j undef) (fun j => ([(a1, b1, c1), (a2, b2, c2), (a3, b3, c3)] : List (Int × Int × Int)).getD j (0, 0, 0)))
  case hm => kernel_rfl
  case hf => kernel_rfl
  case hQ => exact (by intro c x y w e h; exact And.intro (e.symm.trans (And.left h)) (And.right h))
  case hF => intro vs; simp only [putAll, Act.put, List.setIfInBounds_toArray, List.set_cons_zero, List.set_cons_succ, Nat.reduceAdd]; rfl
  case h0 =>
    exact ⟨⟨⟨(by repeat' (first | (with_reducible assumption) | (simp; done) | (with_reducible apply keptD) | (simp [go_sem]; done) | (with_reducible apply keptA))), (by repeat' (first | (with_reducible assumption) | (simp; done) | (with_reducible apply keptD) | (simp [go_sem]; done) | (with_reducible apply keptA))), (by repeat' (first | (with_reducible assumption) | (simp; done) | (with_reducible apply keptD) | (simp [go_sem]; done) | (with_reducible apply keptA)))⟩, ⟨(by repeat' (first | (with_reducible assumption) | (simp; done) | (with_reducible apply keptD) | (simp [go_sem]; done) | (with_reducible apply keptA))), (by repeat' (first | (with_reducible assumption) | (simp; done) | (with_reducible apply keptD) | (simp [go_sem]; done) | (with_reducible apply keptA))), (by repeat' (first | (with_reducible assumption) | (simp; done) | (with_reducible apply keptD) | (simp [go_sem]; done) | (with_reducible apply keptA)))⟩, ⟨(by repeat' (first | (with_reducible assumption) | (simp; done) | (with_reducible apply keptD) | (simp [go_sem]; done) | (with_reducible apply keptA))), (by repeat' (first | (with_reducible assumption) | (simp; done) | (with_reducible apply keptD) | (simp [go_sem]; done) | (with_reducible apply keptA))), (by repeat' (first | (with_reducible assumption) | (simp; done) | (with_reducible apply keptD) | (simp [go_sem]; done) | (with_reducible apply keptA)))⟩, (by go_grown)⟩, (by simp), (fun j hj h => by cases h), (fun i hi h => by cases h), (fun i j hi hj hij h => by cases h), (fun i hi h => by cases h)⟩
  case hstep =>
    repeat' (first | exact AllOps.nil | apply AllOps.cons)
    · intro l vs wx hJ hl hd K hK
      have hS := hJ.s
      obtain ⟨⟨p0, p1, p2⟩, ⟨p3, p4, p5⟩, ⟨p6, p7, p8⟩, _⟩ := hS
      simp only [Act.put, List.setIfInBounds_toArray, List.set_cons_zero, List.set_cons_succ, Nat.reduceAdd] at hK ⊢
      have HK := Lib.hid hK
      have HJ := Lib.hid hJ
      clear hK hJ hd
      go_simp
      exact HK.out _ _ (HJ.out.value (by omega) rfl (Below.refl _ _) HJ.out.s)
    · intro l vs wx hJ hl hd K hK
      simp [depsOf, AllL, Region.binds, List.filterMap] at hd
      have e0 : vs 0 = .agg #[.int .i64 a1, .int .u32 b1, .int .u32 c1] := hJ.v 0 (by omega) (by first | exact hd | exact hd.1)
      simp only [Act.put, List.setIfInBounds_toArray, List.set_cons_zero, List.set_cons_succ, Nat.reduceAdd, e0] at hK ⊢
      have HK := Lib.hid hK
      have HJ := Lib.hid hJ
      clear hK hJ hd e0
      go_simp
      refine (to_any _ _ _ _).mono ?_
      rintro e w1 ⟨rfl, hb⟩
      exact HK.out _ _ (HJ.out.value (by omega) rfl hb (HJ.out.s.below hb))
    · intro l vs wx hJ hl hd K hK
      have hS := hJ.s
      obtain ⟨⟨p0, p1, p2⟩, ⟨p3, p4, p5⟩, ⟨p6, p7, p8⟩, _⟩ := hS
      simp only [Act.put, List.setIfInBounds_toArray, List.set_cons_zero, List.set_cons_succ, Nat.reduceAdd] at hK ⊢
      have HK := Lib.hid hK
      have HJ := Lib.hid hJ
      clear hK hJ hd
      go_simp
      exact HK.out _ _ (HJ.out.value (by omega) rfl (Below.refl _ _) HJ.out.s)
    · intro l vs wx hJ hl hd K hK
      simp [depsOf, AllL, Region.binds, List.filterMap] at hd
      have e0 : vs 2 = .agg #[.int .i64 a2, .int .u32 b2, .int .u32 c2] := hJ.v 2 (by omega) (by first | exact hd | exact hd.1)
      simp only [Act.put, List.setIfInBounds_toArray, List.set_cons_zero, List.set_cons_succ, Nat.reduceAdd, e0] at hK ⊢
      have HK := Lib.hid hK
      have HJ := Lib.hid hJ
      clear hK hJ hd e0
      go_simp
      refine (to_any _ _ _ _).mono ?_
      rintro e w1 ⟨rfl, hb⟩
      exact HK.out _ _ (HJ.out.value (by omega) rfl hb (HJ.out.s.below hb))
    · intro l vs wx hJ hl hd K hK
      have hS := hJ.s
      obtain ⟨⟨p0, p1, p2⟩, ⟨p3, p4, p5⟩, ⟨p6, p7, p8⟩, _⟩ := hS
      simp only [Act.put, List.setIfInBounds_toArray, List.set_cons_zero, List.set_cons_succ, Nat.reduceAdd] at hK ⊢
      have HK := Lib.hid hK
      have HJ := Lib.hid hJ
      clear hK hJ hd
      go_simp
      exact HK.out _ _ (HJ.out.value (by omega) rfl (Below.refl _ _) HJ.out.s)
    · intro l vs wx hJ hl hd K hK
      simp [depsOf, AllL, Region.binds, List.filterMap] at hd
      have e0 : vs 4 = .agg #[.int .i64 a3, .int .u32 b3, .int .u32 c3] := hJ.v 4 (by omega) (by first | exact hd | exact hd.1)
      simp only [Act.put, List.setIfInBounds_toArray, List.set_cons_zero, List.set_cons_succ, Nat.reduceAdd, e0] at hK ⊢
      have HK := Lib.hid hK
      have HJ := Lib.hid hJ
      clear hK hJ hd e0
      go_simp
      refine (to_any _ _ _ _).mono ?_
      rintro e w1 ⟨rfl, hb⟩
      exact HK.out _ _ (HJ.out.value (by omega) rfl hb (HJ.out.s.below hb))
    · intro l vs wx hJ hl hd K hK
      simp only [Act.put, List.setIfInBounds_toArray, List.set_cons_zero, List.set_cons_succ, Nat.reduceAdd] at hK ⊢
      have HK := Lib.hid hK
      have HJ := Lib.hid hJ
      have HL := Lib.hid hl
      clear hK hJ hd hl
      go_simp
      exact HK.out _ _ (HJ.out.made (i := 0) (by omega) HL.out (HJ.out.s.below ((Below.refl _ _).alloc (Nat.le_refl _) _)))
    · intro l vs wx hJ hl hd K hK
      simp only [Act.put, List.setIfInBounds_toArray, List.set_cons_zero, List.set_cons_succ, Nat.reduceAdd] at hK ⊢
      have HK := Lib.hid hK
      have HJ := Lib.hid hJ
      have HL := Lib.hid hl
      clear hK hJ hd hl
      go_simp
      exact HK.out _ _ (HJ.out.made (i := 1) (by omega) HL.out (HJ.out.s.below ((Below.refl _ _).alloc (Nat.le_refl _) _)))
    · intro l vs wx hJ hl hd K hK
      simp only [Act.put, List.setIfInBounds_toArray, List.set_cons_zero, List.set_cons_succ, Nat.reduceAdd] at hK ⊢
      have HK := Lib.hid hK
      have HJ := Lib.hid hJ
      have HL := Lib.hid hl
      clear hK hJ hd hl
      go_simp
      exact HK.out _ _ (HJ.out.made (i := 2) (by omega) HL.out (HJ.out.s.below ((Below.refl _ _).alloc (Nat.le_refl _) _)))
    · intro l vs wx hJ hl hd K hK
      simp [depsOf, AllL, Region.binds, List.filterMap] at hd
      have h6 : l 6 = true := by simp_all
      have h1 : l 1 = true := by simp_all
      have e1 : vs 1 = .agg #[.int .i64 a1, .int .u32 b1, .int .u32 c1] := hJ.v 1 (by omega) h1
      obtain ⟨b, e6, hNb, hbw, hR⟩ := hJ.p 0 (by omega) h6
      have e6' : vs 6 = .pointer (some ⟨b, 0, none⟩) := e6
      obtain ⟨u0, r0⟩ := Option.isSome_iff_exists.1 (hR 0 (by omega)).1
      obtain ⟨u1, r1⟩ := Option.isSome_iff_exists.1 (hR 1 (by omega)).1
      obtain ⟨u2, r2⟩ := Option.isSome_iff_exists.1 (hR 2 (by omega)).1
      have f0 := (hR 0 (by omega)).2
      have f1 := (hR 1 (by omega)).2
      have f2 := (hR 2 (by omega)).2
      simp only [Act.put, List.setIfInBounds_toArray, List.set_cons_zero, List.set_cons_succ, Nat.reduceAdd, e1, e6'] at hK ⊢
      have HK := Lib.hid hK
      have HJ := Lib.hid hJ
      have H6 := Lib.hid h6
      have E6 := Lib.hid e6
      have HN := Lib.hid hNb
      clear hK hJ hd e1 e6 e6' h1 h6 hl hNb hR hbw
      go_simp
      exact HK.out undef _ (HJ.out.stored (i := 0) (by omega) H6.out E6.out (HJ.out.s.store HN.out) _)
    · intro l vs wx hJ hl hd K hK
      simp [depsOf, AllL, Region.binds, List.filterMap] at hd
      have h6 : l 7 = true := by simp_all
      have h1 : l 3 = true := by simp_all
      have e1 : vs 3 = .agg #[.int .i64 a2, .int .u32 b2, .int .u32 c2] := hJ.v 3 (by omega) h1
      obtain ⟨b, e6, hNb, hbw, hR⟩ := hJ.p 1 (by omega) h6
      have e6' : vs 7 = .pointer (some ⟨b, 0, none⟩) := e6
      obtain ⟨u0, r0⟩ := Option.isSome_iff_exists.1 (hR 0 (by omega)).1
      obtain ⟨u1, r1⟩ := Option.isSome_iff_exists.1 (hR 1 (by omega)).1
      obtain ⟨u2, r2⟩ := Option.isSome_iff_exists.1 (hR 2 (by omega)).1
      have f0 := (hR 0 (by omega)).2
      have f1 := (hR 1 (by omega)).2
      have f2 := (hR 2 (by omega)).2
      simp only [Act.put, List.setIfInBounds_toArray, List.set_cons_zero, List.set_cons_succ, Nat.reduceAdd, e1, e6'] at hK ⊢
      have HK := Lib.hid hK
      have HJ := Lib.hid hJ
      have H6 := Lib.hid h6
      have E6 := Lib.hid e6
      have HN := Lib.hid hNb
      clear hK hJ hd e1 e6 e6' h1 h6 hl hNb hR hbw
      go_simp
      exact HK.out undef _ (HJ.out.stored (i := 1) (by omega) H6.out E6.out (HJ.out.s.store HN.out) _)
    · intro l vs wx hJ hl hd K hK
      simp [depsOf, AllL, Region.binds, List.filterMap] at hd
      have h6 : l 8 = true := by simp_all
      have h1 : l 5 = true := by simp_all
      have e1 : vs 5 = .agg #[.int .i64 a3, .int .u32 b3, .int .u32 c3] := hJ.v 5 (by omega) h1
      obtain ⟨b, e6, hNb, hbw, hR⟩ := hJ.p 2 (by omega) h6
      have e6' : vs 8 = .pointer (some ⟨b, 0, none⟩) := e6
      obtain ⟨u0, r0⟩ := Option.isSome_iff_exists.1 (hR 0 (by omega)).1
      obtain ⟨u1, r1⟩ := Option.isSome_iff_exists.1 (hR 1 (by omega)).1
      obtain ⟨u2, r2⟩ := Option.isSome_iff_exists.1 (hR 2 (by omega)).1
      have f0 := (hR 0 (by omega)).2
      have f1 := (hR 1 (by omega)).2
      have f2 := (hR 2 (by omega)).2
      simp only [Act.put, List.setIfInBounds_toArray, List.set_cons_zero, List.set_cons_succ, Nat.reduceAdd, e1, e6'] at hK ⊢
      have HK := Lib.hid hK
      have HJ := Lib.hid hJ
      have H6 := Lib.hid h6
      have E6 := Lib.hid e6
      have HN := Lib.hid hNb
      clear hK hJ hd e1 e6 e6' h1 h6 hl hNb hR hbw
      go_simp
      exact HK.out undef _ (HJ.out.stored (i := 2) (by omega) H6.out E6.out (HJ.out.s.store HN.out) _)
  case hend =>
    intro l vs wx hall hJ
    obtain ⟨p, ep, _, _, _⟩ := hJ.p 0 (by omega) (hall 6 (by decide))
    obtain ⟨q, eq, _, _, _⟩ := hJ.p 1 (by omega) (hall 7 (by decide))
    obtain ⟨r, er, _, _, _⟩ := hJ.p 2 (by omega) (hall 8 (by decide))
    have ep' : vs 6 = .pointer (some ⟨p, 0, none⟩) := ep
    have eq' : vs 7 = .pointer (some ⟨q, 0, none⟩) := eq
    have er' : vs 8 = .pointer (some ⟨r, 0, none⟩) := er
    obtain ⟨p0, p1, p2⟩ := (hJ.h 0 (by omega) (hall 9 (by decide))).2 p ep
    obtain ⟨q0, q1, q2⟩ := (hJ.h 1 (by omega) (hall 10 (by decide))).2 q eq
    obtain ⟨r0, r1, r2⟩ := (hJ.h 2 (by omega) (hall 11 (by decide))).2 r er
    have hB := hJ.s.2.2.2
    simp only [ep', eq', er']
    obtain ⟨hb00, hb01, hc00, hc01, hb10, hb11, hc10, hc11, hb20, hb21, hc20, hc21⟩ := HB.out
    have e12 := He12.out
    have e21 := He21.out
    have hdec := Hhdec.out
    have e23 := He23.out
    clear hJ ep eq er ep' eq' er' hall
    (try dsimp only at p0 p1 p2 q0 q1 q2 r0 r1 r2)
    go_wp2_with fail
    apply region_vals (fun w' => w'.cell? ⟨p, 0, none⟩ = some (.int .i64 a1) ∧ w'.cell? ⟨p, 1, none⟩ = some (.int .u32 b1) ∧ w'.cell? ⟨p, 2, none⟩ = some (.int .u32 c1) ∧ w'.cell? ⟨q, 0, none⟩ = some (.int .i64 a2) ∧ w'.cell? ⟨q, 1, none⟩ = some (.int .u32 b2) ∧ w'.cell? ⟨q, 2, none⟩ = some (.int .u32 c2) ∧ w'.cell? ⟨r, 0, none⟩ = some (.int .i64 a3) ∧ w'.cell? ⟨r, 1, none⟩ = some (.int .u32 b3) ∧ w'.cell? ⟨r, 2, none⟩ = some (.int .u32 c3) ∧ Below w.heap.size w w') [.agg #[.int .i64 a1, .int .u32 b1, .int .u32 c1], .agg #[.int .i64 a2, .int .u32 b2, .int .u32 c2], .int .i64 0, .agg #[.int .i64 a2, .int .u32 b2, .int .u32 c2], .agg #[.int .i64 a1, .int .u32 b1, .int .u32 c1], .int .i64 0, .int .i64 0, .bool false, .bool false, .agg #[.int .i64 a1, .int .u32 b1, .int .u32 c1], .agg #[.int .i64 a2, .int .u32 b2, .int .u32 c2], .int .i64 0, .bool true, .agg #[.int .i64 a1, .int .u32 b1, .int .u32 c1], .agg #[.int .i64 a2, .int .u32 b2, .int .u32 c2], .bool true, .bool false, .bool false]
    case hm => kernel_rfl
    case hf => kernel_rfl
    case hQ => exact (by intro c x y w e h; exact And.intro (e.symm.trans (And.left h)) (And.right h))
    case hF => simp only [putAll, Act.put, List.setIfInBounds_toArray, List.set_cons_zero, List.set_cons_succ, Nat.reduceAdd, List.getD_cons_zero, List.getD_cons_succ]; rfl
    case h0 => (((try dsimp only); go_split_ands; (repeat' apply And.intro) <;> first | assumption | (apply kept; assumption; assumption) | (apply via; assumption; assumption; apply Below.size; assumption) | (go_grown; done) | (repeat' first | assumption | (simp; done) | apply keptD | apply keptA | (apply kept; assumption))))
    case hstep =>
      repeat' (first | exact AllOps.nil | apply AllOps.cons)
      all_goals
        intro wx hS K hK
        simp only [Act.put, List.setIfInBounds_toArray, List.set_cons_zero, List.set_cons_succ, Nat.reduceAdd, List.getD_cons_zero, List.getD_cons_succ] at hK ⊢
        have HK := Lib.hid hK
        have HS := Lib.hid hS
        clear hK
        go_split_ands
        first
          | (rw [if_pos (by rfl)]; refine eq_st rfl rfl ?_; (simp only [Act.put, List.setIfInBounds_toArray, List.set_cons_zero, List.set_cons_succ]); refine HK.out _ _ ?_ HS.out; rw [hdec])
          | (go_simp; (first | (refine HK.out _ _ ?_ ?_; (first | rfl | (first | rw [e12] | rw [e21])); exact HS.out) | (go_at_call 14; refine (compare_any _ _ _ _ _ _ (by omega) (by omega) (by omega) (by omega) (by omega) (by omega) (by omega) (by omega) _).mono ?_; rintro e w1 ⟨rfl, hb⟩; refine HK.out _ _ ?_ ?_; (first | rfl | (first | rw [e12] | rw [e21])); (((try dsimp only); go_split_ands; (repeat' apply And.intro) <;> first | assumption | (apply kept; assumption; assumption) | (apply via; assumption; assumption; apply Below.size; assumption) | (go_grown; done) | (repeat' first | assumption | (simp; done) | apply keptD | apply keptA | (apply kept; assumption))))) | fail))
    case hend =>
      intro wx hS
      go_split_ands
      have hzx : w.heap.size ≤ wx.heap.size := Below.size (by assumption)
      go_wp2_with fail
      refine (compare_any _ _ _ _ _ _ (by omega) (by omega) (by omega) (by omega) (by omega) (by omega) (by omega) (by omega) _).mono ?_
      rintro e w20 ⟨rfl, lb20⟩
      have lz20 := lb20.size
      (try simp at lz20)
      have lB20 : Below w.heap.size w w20 := via lb20 (by go_grown) (by go_size)
      have m20_0 : w20.cell? ⟨p, 0, none⟩ = some (.int .i64 a1) := kept lb20 (by repeat' (first | assumption | (simp; done) | apply keptD | apply keptA))
      have m20_1 : w20.cell? ⟨p, 1, none⟩ = some (.int .u32 b1) := kept lb20 (by repeat' (first | assumption | (simp; done) | apply keptD | apply keptA))
      have m20_2 : w20.cell? ⟨p, 2, none⟩ = some (.int .u32 c1) := kept lb20 (by repeat' (first | assumption | (simp; done) | apply keptD | apply keptA))
      have m20_3 : w20.cell? ⟨q, 0, none⟩ = some (.int .i64 a2) := kept lb20 (by repeat' (first | assumption | (simp; done) | apply keptD | apply keptA))
      have m20_4 : w20.cell? ⟨q, 1, none⟩ = some (.int .u32 b2) := kept lb20 (by repeat' (first | assumption | (simp; done) | apply keptD | apply keptA))
      have m20_5 : w20.cell? ⟨q, 2, none⟩ = some (.int .u32 c2) := kept lb20 (by repeat' (first | assumption | (simp; done) | apply keptD | apply keptA))
      have m20_6 : w20.cell? ⟨r, 0, none⟩ = some (.int .i64 a3) := kept lb20 (by repeat' (first | assumption | (simp; done) | apply keptD | apply keptA))
      have m20_7 : w20.cell? ⟨r, 1, none⟩ = some (.int .u32 b3) := kept lb20 (by repeat' (first | assumption | (simp; done) | apply keptD | apply keptA))
      have m20_8 : w20.cell? ⟨r, 2, none⟩ = some (.int .u32 c3) := kept lb20 (by repeat' (first | assumption | (simp; done) | apply keptD | apply keptA))
      clear lb20
      go_wp2_with fail
      refine (compare_any _ _ _ _ _ _ (by omega) (by omega) (by omega) (by omega) (by omega) (by omega) (by omega) (by omega) _).mono ?_
      rintro e w21 ⟨rfl, lb21⟩
      have lz21 := lb21.size
      (try simp at lz21)
      have lB21 : Below w.heap.size w w21 := via lb21 (by go_grown) (by go_size)
      have m21_0 : w21.cell? ⟨p, 0, none⟩ = some (.int .i64 a1) := kept lb21 (by repeat' (first | assumption | (simp; done) | apply keptD | apply keptA))
      have m21_1 : w21.cell? ⟨p, 1, none⟩ = some (.int .u32 b1) := kept lb21 (by repeat' (first | assumption | (simp; done) | apply keptD | apply keptA))
      have m21_2 : w21.cell? ⟨p, 2, none⟩ = some (.int .u32 c1) := kept lb21 (by repeat' (first | assumption | (simp; done) | apply keptD | apply keptA))
      have m21_3 : w21.cell? ⟨q, 0, none⟩ = some (.int .i64 a2) := kept lb21 (by repeat' (first | assumption | (simp; done) | apply keptD | apply keptA))
      have m21_4 : w21.cell? ⟨q, 1, none⟩ = some (.int .u32 b2) := kept lb21 (by repeat' (first | assumption | (simp; done) | apply keptD | apply keptA))
      have m21_5 : w21.cell? ⟨q, 2, none⟩ = some (.int .u32 c2) := kept lb21 (by repeat' (first | assumption | (simp; done) | apply keptD | apply keptA))
      have m21_6 : w21.cell? ⟨r, 0, none⟩ = some (.int .i64 a3) := kept lb21 (by repeat' (first | assumption | (simp; done) | apply keptD | apply keptA))
      have m21_7 : w21.cell? ⟨r, 1, none⟩ = some (.int .u32 b3) := kept lb21 (by repeat' (first | assumption | (simp; done) | apply keptD | apply keptA))
      have m21_8 : w21.cell? ⟨r, 2, none⟩ = some (.int .u32 c3) := kept lb21 (by repeat' (first | assumption | (simp; done) | apply keptD | apply keptA))
      clear lb21
      go_wp2
      go_ret
      exact ⟨by first | rfl | exact ret_bool (by decide), by go_grown⟩

set_option maxHeartbeats 4000000 in
theorem line_zz (a1 b1 c1 a2 b2 c2 a3 b3 c3 : Int) (hb00 : 0 ≤ b1) (hb01 : b1 ≤ 4294967295) (hc00 : 0 ≤ c1) (hc01 : c1 ≤ 4294967295) (hb10 : 0 ≤ b2) (hb11 : b2 ≤ 4294967295) (hc10 : 0 ≤ c2) (hc11 : c2 ≤ 4294967295) (hb20 : 0 ≤ b3) (hb21 : b3 ≤ 4294967295) (hc20 : 0 ≤ c3) (hc21 : c3 ≤ 4294967295) (e12 : cmpS a1 b1 c1 a2 b2 c2 = 0) (e21 : cmpS a2 b2 c2 a1 b1 c1 = 0) (hdec : decide (a1 = a2 ∧ b1 = b2 ∧ c1 = c2) = true) (e23 : cmpS a2 b2 c2 a3 b3 c3 = 0) (d13 : decide (cmpS a1 b1 c1 a3 b3 c3 ≤ 0) = true) (w : World) :
    Calls Try.prog 4 #[.agg #[.int .i64 a1, .int .u32 b1, .int .u32 c1], .agg #[.int .i64 a2, .int .u32 b2, .int .u32 c2], .agg #[.int .i64 a3, .int .u32 b3, .int .u32 c3]] w fun e w' => e = .returned (.bool true) ∧ Below w.heap.size w w' := by
  have HB := Lib.hid (And.intro hb00 (And.intro hb01 (And.intro hc00 (And.intro hc01 (And.intro hb10 (And.intro hb11 (And.intro hc10 (And.intro hc11 (And.intro hb20 (And.intro hb21 (And.intro hc20 hc21)))))))))))
  clear hb00 hb01 hc00 hc01 hb10 hb11 hc10 hc11 hb20 hb21 hc20 hc21
  have He12 := Lib.hid e12
  clear e12
  have He21 := Lib.hid e21
  clear e21
  have Hhdec := Lib.hid hdec
  clear hdec
  have He23 := Lib.hid e23
  clear e23
  have Hd13 := Lib.hid d13
  clear d13
  go_enter Try.func4, Try.ntmps4
  go_wp2_with fail
  apply region_invA (Lets (Args3 w a1 b1 c1 a2 b2 c2 a3 b3 c3) (w.heap.size + 3) 6 3 (fun j => ([.agg #[.int .i64 a1, .int .u32 b1, .int .u32 c1], .agg #[.int .i64 a1, .int .u32 b1, .int .u32 c1], .agg #[.int .i64 a2, .int .u32 b2, .int .u32 c2], .agg #[.int .i64 a2, .int .u32 b2, .int .u32 c2], .agg #[.int .i64 a3, .int .u32 b3, .int .u32 c3], .agg #[.int .i64 a3, .int .u32 b3, .int .u32 c3]] : List Value).getD j undef) (fun j => ([(a1, b1, c1), (a2, b2, c2), (a3, b3, c3)] : List (Int × Int × Int)).getD j (0, 0, 0)))
  case hm => kernel_rfl
  case hf => kernel_rfl
  case hQ => exact (by intro c x y w e h; exact And.intro (e.symm.trans (And.left h)) (And.right h))
  case hF => intro vs; simp only [putAll, Act.put, List.setIfInBounds_toArray, List.set_cons_zero, List.set_cons_succ, Nat.reduceAdd]; rfl
  case h0 =>
    exact ⟨⟨⟨(by repeat' (first | (with_reducible assumption) | (simp; done) | (with_reducible apply keptD) | (simp [go_sem]; done) | (with_reducible apply keptA))), (by repeat' (first | (with_reducible assumption) | (simp; done) | (with_reducible apply keptD) | (simp [go_sem]; done) | (with_reducible apply keptA))), (by repeat' (first | (with_reducible assumption) | (simp; done) | (with_reducible apply keptD) | (simp [go_sem]; done) | (with_reducible apply keptA)))⟩, ⟨(by repeat' (first | (with_reducible assumption) | (simp; done) | (with_reducible apply keptD) | (simp [go_sem]; done) | (with_reducible apply keptA))), (by repeat' (first | (with_reducible assumption) | (simp; done) | (with_reducible apply keptD) | (simp [go_sem]; done) | (with_reducible apply keptA))), (by repeat' (first | (with_reducible assumption) | (simp; done) | (with_reducible apply keptD) | (simp [go_sem]; done) | (with_reducible apply keptA)))⟩, ⟨(by repeat' (first | (with_reducible assumption) | (simp; done) | (with_reducible apply keptD) | (simp [go_sem]; done) | (with_reducible apply keptA))), (by repeat' (first | (with_reducible assumption) | (simp; done) | (with_reducible apply keptD) | (simp [go_sem]; done) | (with_reducible apply keptA))), (by repeat' (first | (with_reducible assumption) | (simp; done) | (with_reducible apply keptD) | (simp [go_sem]; done) | (with_reducible apply keptA)))⟩, (by go_grown)⟩, (by simp), (fun j hj h => by cases h), (fun i hi h => by cases h), (fun i j hi hj hij h => by cases h), (fun i hi h => by cases h)⟩
  case hstep =>
    repeat' (first | exact AllOps.nil | apply AllOps.cons)
    · intro l vs wx hJ hl hd K hK
      have hS := hJ.s
      obtain ⟨⟨p0, p1, p2⟩, ⟨p3, p4, p5⟩, ⟨p6, p7, p8⟩, _⟩ := hS
      simp only [Act.put, List.setIfInBounds_toArray, List.set_cons_zero, List.set_cons_succ, Nat.reduceAdd] at hK ⊢
      have HK := Lib.hid hK
      have HJ := Lib.hid hJ
      clear hK hJ hd
      go_simp
      exact HK.out _ _ (HJ.out.value (by omega) rfl (Below.refl _ _) HJ.out.s)
    · intro l vs wx hJ hl hd K hK
      simp [depsOf, AllL, Region.binds, List.filterMap] at hd
      have e0 : vs 0 = .agg #[.int .i64 a1, .int .u32 b1, .int .u32 c1] := hJ.v 0 (by omega) (by first | exact hd | exact hd.1)
      simp only [Act.put, List.setIfInBounds_toArray, List.set_cons_zero, List.set_cons_succ, Nat.reduceAdd, e0] at hK ⊢
      have HK := Lib.hid hK
      have HJ := Lib.hid hJ
      clear hK hJ hd e0
      go_simp
      refine (to_any _ _ _ _).mono ?_
      rintro e w1 ⟨rfl, hb⟩
      exact HK.out _ _ (HJ.out.value (by omega) rfl hb (HJ.out.s.below hb))
    · intro l vs wx hJ hl hd K hK
      have hS := hJ.s
      obtain ⟨⟨p0, p1, p2⟩, ⟨p3, p4, p5⟩, ⟨p6, p7, p8⟩, _⟩ := hS
      simp only [Act.put, List.setIfInBounds_toArray, List.set_cons_zero, List.set_cons_succ, Nat.reduceAdd] at hK ⊢
      have HK := Lib.hid hK
      have HJ := Lib.hid hJ
      clear hK hJ hd
      go_simp
      exact HK.out _ _ (HJ.out.value (by omega) rfl (Below.refl _ _) HJ.out.s)
    · intro l vs wx hJ hl hd K hK
      simp [depsOf, AllL, Region.binds, List.filterMap] at hd
      have e0 : vs 2 = .agg #[.int .i64 a2, .int .u32 b2, .int .u32 c2] := hJ.v 2 (by omega) (by first | exact hd | exact hd.1)
      simp only [Act.put, List.setIfInBounds_toArray, List.set_cons_zero, List.set_cons_succ, Nat.reduceAdd, e0] at hK ⊢
      have HK := Lib.hid hK
      have HJ := Lib.hid hJ
      clear hK hJ hd e0
      go_simp
      refine (to_any _ _ _ _).mono ?_
      rintro e w1 ⟨rfl, hb⟩
      exact HK.out _ _ (HJ.out.value (by omega) rfl hb (HJ.out.s.below hb))
    · intro l vs wx hJ hl hd K hK
      have hS := hJ.s
      obtain ⟨⟨p0, p1, p2⟩, ⟨p3, p4, p5⟩, ⟨p6, p7, p8⟩, _⟩ := hS
      simp only [Act.put, List.setIfInBounds_toArray, List.set_cons_zero, List.set_cons_succ, Nat.reduceAdd] at hK ⊢
      have HK := Lib.hid hK
      have HJ := Lib.hid hJ
      clear hK hJ hd
      go_simp
      exact HK.out _ _ (HJ.out.value (by omega) rfl (Below.refl _ _) HJ.out.s)
    · intro l vs wx hJ hl hd K hK
      simp [depsOf, AllL, Region.binds, List.filterMap] at hd
      have e0 : vs 4 = .agg #[.int .i64 a3, .int .u32 b3, .int .u32 c3] := hJ.v 4 (by omega) (by first | exact hd | exact hd.1)
      simp only [Act.put, List.setIfInBounds_toArray, List.set_cons_zero, List.set_cons_succ, Nat.reduceAdd, e0] at hK ⊢
      have HK := Lib.hid hK
      have HJ := Lib.hid hJ
      clear hK hJ hd e0
      go_simp
      refine (to_any _ _ _ _).mono ?_
      rintro e w1 ⟨rfl, hb⟩
      exact HK.out _ _ (HJ.out.value (by omega) rfl hb (HJ.out.s.below hb))
    · intro l vs wx hJ hl hd K hK
      simp only [Act.put, List.setIfInBounds_toArray, List.set_cons_zero, List.set_cons_succ, Nat.reduceAdd] at hK ⊢
      have HK := Lib.hid hK
      have HJ := Lib.hid hJ
      have HL := Lib.hid hl
      clear hK hJ hd hl
      go_simp
      exact HK.out _ _ (HJ.out.made (i := 0) (by omega) HL.out (HJ.out.s.below ((Below.refl _ _).alloc (Nat.le_refl _) _)))
    · intro l vs wx hJ hl hd K hK
      simp only [Act.put, List.setIfInBounds_toArray, List.set_cons_zero, List.set_cons_succ, Nat.reduceAdd] at hK ⊢
      have HK := Lib.hid hK
      have HJ := Lib.hid hJ
      have HL := Lib.hid hl
      clear hK hJ hd hl
      go_simp
      exact HK.out _ _ (HJ.out.made (i := 1) (by omega) HL.out (HJ.out.s.below ((Below.refl _ _).alloc (Nat.le_refl _) _)))
    · intro l vs wx hJ hl hd K hK
      simp only [Act.put, List.setIfInBounds_toArray, List.set_cons_zero, List.set_cons_succ, Nat.reduceAdd] at hK ⊢
      have HK := Lib.hid hK
      have HJ := Lib.hid hJ
      have HL := Lib.hid hl
      clear hK hJ hd hl
      go_simp
      exact HK.out _ _ (HJ.out.made (i := 2) (by omega) HL.out (HJ.out.s.below ((Below.refl _ _).alloc (Nat.le_refl _) _)))
    · intro l vs wx hJ hl hd K hK
      simp [depsOf, AllL, Region.binds, List.filterMap] at hd
      have h6 : l 6 = true := by simp_all
      have h1 : l 1 = true := by simp_all
      have e1 : vs 1 = .agg #[.int .i64 a1, .int .u32 b1, .int .u32 c1] := hJ.v 1 (by omega) h1
      obtain ⟨b, e6, hNb, hbw, hR⟩ := hJ.p 0 (by omega) h6
      have e6' : vs 6 = .pointer (some ⟨b, 0, none⟩) := e6
      obtain ⟨u0, r0⟩ := Option.isSome_iff_exists.1 (hR 0 (by omega)).1
      obtain ⟨u1, r1⟩ := Option.isSome_iff_exists.1 (hR 1 (by omega)).1
      obtain ⟨u2, r2⟩ := Option.isSome_iff_exists.1 (hR 2 (by omega)).1
      have f0 := (hR 0 (by omega)).2
      have f1 := (hR 1 (by omega)).2
      have f2 := (hR 2 (by omega)).2
      simp only [Act.put, List.setIfInBounds_toArray, List.set_cons_zero, List.set_cons_succ, Nat.reduceAdd, e1, e6'] at hK ⊢
      have HK := Lib.hid hK
      have HJ := Lib.hid hJ
      have H6 := Lib.hid h6
      have E6 := Lib.hid e6
      have HN := Lib.hid hNb
      clear hK hJ hd e1 e6 e6' h1 h6 hl hNb hR hbw
      go_simp
      exact HK.out undef _ (HJ.out.stored (i := 0) (by omega) H6.out E6.out (HJ.out.s.store HN.out) _)
    · intro l vs wx hJ hl hd K hK
      simp [depsOf, AllL, Region.binds, List.filterMap] at hd
      have h6 : l 7 = true := by simp_all
      have h1 : l 3 = true := by simp_all
      have e1 : vs 3 = .agg #[.int .i64 a2, .int .u32 b2, .int .u32 c2] := hJ.v 3 (by omega) h1
      obtain ⟨b, e6, hNb, hbw, hR⟩ := hJ.p 1 (by omega) h6
      have e6' : vs 7 = .pointer (some ⟨b, 0, none⟩) := e6
      obtain ⟨u0, r0⟩ := Option.isSome_iff_exists.1 (hR 0 (by omega)).1
      obtain ⟨u1, r1⟩ := Option.isSome_iff_exists.1 (hR 1 (by omega)).1
      obtain ⟨u2, r2⟩ := Option.isSome_iff_exists.1 (hR 2 (by omega)).1
      have f0 := (hR 0 (by omega)).2
      have f1 := (hR 1 (by omega)).2
      have f2 := (hR 2 (by omega)).2
      simp only [Act.put, List.setIfInBounds_toArray, List.set_cons_zero, List.set_cons_succ, Nat.reduceAdd, e1, e6'] at hK ⊢
      have HK := Lib.hid hK
      have HJ := Lib.hid hJ
      have H6 := Lib.hid h6
      have E6 := Lib.hid e6
      have HN := Lib.hid hNb
      clear hK hJ hd e1 e6 e6' h1 h6 hl hNb hR hbw
      go_simp
      exact HK.out undef _ (HJ.out.stored (i := 1) (by omega) H6.out E6.out (HJ.out.s.store HN.out) _)
    · intro l vs wx hJ hl hd K hK
      simp [depsOf, AllL, Region.binds, List.filterMap] at hd
      have h6 : l 8 = true := by simp_all
      have h1 : l 5 = true := by simp_all
      have e1 : vs 5 = .agg #[.int .i64 a3, .int .u32 b3, .int .u32 c3] := hJ.v 5 (by omega) h1
      obtain ⟨b, e6, hNb, hbw, hR⟩ := hJ.p 2 (by omega) h6
      have e6' : vs 8 = .pointer (some ⟨b, 0, none⟩) := e6
      obtain ⟨u0, r0⟩ := Option.isSome_iff_exists.1 (hR 0 (by omega)).1
      obtain ⟨u1, r1⟩ := Option.isSome_iff_exists.1 (hR 1 (by omega)).1
      obtain ⟨u2, r2⟩ := Option.isSome_iff_exists.1 (hR 2 (by omega)).1
      have f0 := (hR 0 (by omega)).2
      have f1 := (hR 1 (by omega)).2
      have f2 := (hR 2 (by omega)).2
      simp only [Act.put, List.setIfInBounds_toArray, List.set_cons_zero, List.set_cons_succ, Nat.reduceAdd, e1, e6'] at hK ⊢
      have HK := Lib.hid hK
      have HJ := Lib.hid hJ
      have H6 := Lib.hid h6
      have E6 := Lib.hid e6
      have HN := Lib.hid hNb
      clear hK hJ hd e1 e6 e6' h1 h6 hl hNb hR hbw
      go_simp
      exact HK.out undef _ (HJ.out.stored (i := 2) (by omega) H6.out E6.out (HJ.out.s.store HN.out) _)
  case hend =>
    intro l vs wx hall hJ
    obtain ⟨p, ep, _, _, _⟩ := hJ.p 0 (by omega) (hall 6 (by decide))
    obtain ⟨q, eq, _, _, _⟩ := hJ.p 1 (by omega) (hall 7 (by decide))
    obtain ⟨r, er, _, _, _⟩ := hJ.p 2 (by omega) (hall 8 (by decide))
    have ep' : vs 6 = .pointer (some ⟨p, 0, none⟩) := ep
    have eq' : vs 7 = .pointer (some ⟨q, 0, none⟩) := eq
    have er' : vs 8 = .pointer (some ⟨r, 0, none⟩) := er
    obtain ⟨p0, p1, p2⟩ := (hJ.h 0 (by omega) (hall 9 (by decide))).2 p ep
    obtain ⟨q0, q1, q2⟩ := (hJ.h 1 (by omega) (hall 10 (by decide))).2 q eq
    obtain ⟨r0, r1, r2⟩ := (hJ.h 2 (by omega) (hall 11 (by decide))).2 r er
    have hB := hJ.s.2.2.2
    simp only [ep', eq', er']
    obtain ⟨hb00, hb01, hc00, hc01, hb10, hb11, hc10, hc11, hb20, hb21, hc20, hc21⟩ := HB.out
    have e12 := He12.out
    have e21 := He21.out
    have hdec := Hhdec.out
    have e23 := He23.out
    have d13 := Hd13.out
    clear hJ ep eq er ep' eq' er' hall
    (try dsimp only at p0 p1 p2 q0 q1 q2 r0 r1 r2)
    go_wp2_with fail
    apply region_vals (fun w' => w'.cell? ⟨p, 0, none⟩ = some (.int .i64 a1) ∧ w'.cell? ⟨p, 1, none⟩ = some (.int .u32 b1) ∧ w'.cell? ⟨p, 2, none⟩ = some (.int .u32 c1) ∧ w'.cell? ⟨q, 0, none⟩ = some (.int .i64 a2) ∧ w'.cell? ⟨q, 1, none⟩ = some (.int .u32 b2) ∧ w'.cell? ⟨q, 2, none⟩ = some (.int .u32 c2) ∧ w'.cell? ⟨r, 0, none⟩ = some (.int .i64 a3) ∧ w'.cell? ⟨r, 1, none⟩ = some (.int .u32 b3) ∧ w'.cell? ⟨r, 2, none⟩ = some (.int .u32 c3) ∧ Below w.heap.size w w') [.agg #[.int .i64 a1, .int .u32 b1, .int .u32 c1], .agg #[.int .i64 a2, .int .u32 b2, .int .u32 c2], .int .i64 0, .agg #[.int .i64 a2, .int .u32 b2, .int .u32 c2], .agg #[.int .i64 a1, .int .u32 b1, .int .u32 c1], .int .i64 0, .int .i64 0, .bool false, .bool false, .agg #[.int .i64 a1, .int .u32 b1, .int .u32 c1], .agg #[.int .i64 a2, .int .u32 b2, .int .u32 c2], .int .i64 0, .bool true, .agg #[.int .i64 a1, .int .u32 b1, .int .u32 c1], .agg #[.int .i64 a2, .int .u32 b2, .int .u32 c2], .bool true, .bool false, .bool false]
    case hm => kernel_rfl
    case hf => kernel_rfl
    case hQ => exact (by intro c x y w e h; exact And.intro (e.symm.trans (And.left h)) (And.right h))
    case hF => simp only [putAll, Act.put, List.setIfInBounds_toArray, List.set_cons_zero, List.set_cons_succ, Nat.reduceAdd, List.getD_cons_zero, List.getD_cons_succ]; rfl
    case h0 => (((try dsimp only); go_split_ands; (repeat' apply And.intro) <;> first | assumption | (apply kept; assumption; assumption) | (apply via; assumption; assumption; apply Below.size; assumption) | (go_grown; done) | (repeat' first | assumption | (simp; done) | apply keptD | apply keptA | (apply kept; assumption))))
    case hstep =>
      repeat' (first | exact AllOps.nil | apply AllOps.cons)
      all_goals
        intro wx hS K hK
        simp only [Act.put, List.setIfInBounds_toArray, List.set_cons_zero, List.set_cons_succ, Nat.reduceAdd, List.getD_cons_zero, List.getD_cons_succ] at hK ⊢
        have HK := Lib.hid hK
        have HS := Lib.hid hS
        clear hK
        go_split_ands
        first
          | (rw [if_pos (by rfl)]; refine eq_st rfl rfl ?_; (simp only [Act.put, List.setIfInBounds_toArray, List.set_cons_zero, List.set_cons_succ]); refine HK.out _ _ ?_ HS.out; rw [hdec])
          | (go_simp; (first | (refine HK.out _ _ ?_ ?_; (first | rfl | (first | rw [e12] | rw [e21])); exact HS.out) | (go_at_call 14; refine (compare_any _ _ _ _ _ _ (by omega) (by omega) (by omega) (by omega) (by omega) (by omega) (by omega) (by omega) _).mono ?_; rintro e w1 ⟨rfl, hb⟩; refine HK.out _ _ ?_ ?_; (first | rfl | (first | rw [e12] | rw [e21])); (((try dsimp only); go_split_ands; (repeat' apply And.intro) <;> first | assumption | (apply kept; assumption; assumption) | (apply via; assumption; assumption; apply Below.size; assumption) | (go_grown; done) | (repeat' first | assumption | (simp; done) | apply keptD | apply keptA | (apply kept; assumption))))) | fail))
    case hend =>
      intro wx hS
      go_split_ands
      have hzx : w.heap.size ≤ wx.heap.size := Below.size (by assumption)
      go_wp2_with fail
      refine (compare_any _ _ _ _ _ _ (by omega) (by omega) (by omega) (by omega) (by omega) (by omega) (by omega) (by omega) _).mono ?_
      rintro e w20 ⟨rfl, lb20⟩
      have lz20 := lb20.size
      (try simp at lz20)
      have lB20 : Below w.heap.size w w20 := via lb20 (by go_grown) (by go_size)
      have m20_0 : w20.cell? ⟨p, 0, none⟩ = some (.int .i64 a1) := kept lb20 (by repeat' (first | assumption | (simp; done) | apply keptD | apply keptA))
      have m20_1 : w20.cell? ⟨p, 1, none⟩ = some (.int .u32 b1) := kept lb20 (by repeat' (first | assumption | (simp; done) | apply keptD | apply keptA))
      have m20_2 : w20.cell? ⟨p, 2, none⟩ = some (.int .u32 c1) := kept lb20 (by repeat' (first | assumption | (simp; done) | apply keptD | apply keptA))
      have m20_3 : w20.cell? ⟨q, 0, none⟩ = some (.int .i64 a2) := kept lb20 (by repeat' (first | assumption | (simp; done) | apply keptD | apply keptA))
      have m20_4 : w20.cell? ⟨q, 1, none⟩ = some (.int .u32 b2) := kept lb20 (by repeat' (first | assumption | (simp; done) | apply keptD | apply keptA))
      have m20_5 : w20.cell? ⟨q, 2, none⟩ = some (.int .u32 c2) := kept lb20 (by repeat' (first | assumption | (simp; done) | apply keptD | apply keptA))
      have m20_6 : w20.cell? ⟨r, 0, none⟩ = some (.int .i64 a3) := kept lb20 (by repeat' (first | assumption | (simp; done) | apply keptD | apply keptA))
      have m20_7 : w20.cell? ⟨r, 1, none⟩ = some (.int .u32 b3) := kept lb20 (by repeat' (first | assumption | (simp; done) | apply keptD | apply keptA))
      have m20_8 : w20.cell? ⟨r, 2, none⟩ = some (.int .u32 c3) := kept lb20 (by repeat' (first | assumption | (simp; done) | apply keptD | apply keptA))
      clear lb20
      go_wp2_with fail
      refine (compare_any _ _ _ _ _ _ (by omega) (by omega) (by omega) (by omega) (by omega) (by omega) (by omega) (by omega) _).mono ?_
      rintro e w21 ⟨rfl, lb21⟩
      have lz21 := lb21.size
      (try simp at lz21)
      have lB21 : Below w.heap.size w w21 := via lb21 (by go_grown) (by go_size)
      have m21_0 : w21.cell? ⟨p, 0, none⟩ = some (.int .i64 a1) := kept lb21 (by repeat' (first | assumption | (simp; done) | apply keptD | apply keptA))
      have m21_1 : w21.cell? ⟨p, 1, none⟩ = some (.int .u32 b1) := kept lb21 (by repeat' (first | assumption | (simp; done) | apply keptD | apply keptA))
      have m21_2 : w21.cell? ⟨p, 2, none⟩ = some (.int .u32 c1) := kept lb21 (by repeat' (first | assumption | (simp; done) | apply keptD | apply keptA))
      have m21_3 : w21.cell? ⟨q, 0, none⟩ = some (.int .i64 a2) := kept lb21 (by repeat' (first | assumption | (simp; done) | apply keptD | apply keptA))
      have m21_4 : w21.cell? ⟨q, 1, none⟩ = some (.int .u32 b2) := kept lb21 (by repeat' (first | assumption | (simp; done) | apply keptD | apply keptA))
      have m21_5 : w21.cell? ⟨q, 2, none⟩ = some (.int .u32 c2) := kept lb21 (by repeat' (first | assumption | (simp; done) | apply keptD | apply keptA))
      have m21_6 : w21.cell? ⟨r, 0, none⟩ = some (.int .i64 a3) := kept lb21 (by repeat' (first | assumption | (simp; done) | apply keptD | apply keptA))
      have m21_7 : w21.cell? ⟨r, 1, none⟩ = some (.int .u32 b3) := kept lb21 (by repeat' (first | assumption | (simp; done) | apply keptD | apply keptA))
      have m21_8 : w21.cell? ⟨r, 2, none⟩ = some (.int .u32 c3) := kept lb21 (by repeat' (first | assumption | (simp; done) | apply keptD | apply keptA))
      clear lb21
      go_wp2_with fail
      refine (compare_any _ _ _ _ _ _ (by omega) (by omega) (by omega) (by omega) (by omega) (by omega) (by omega) (by omega) _).mono ?_
      rintro e w22 ⟨rfl, lb22⟩
      have lz22 := lb22.size
      (try simp at lz22)
      have lB22 : Below w.heap.size w w22 := via lb22 (by go_grown) (by go_size)
      have m22_0 : w22.cell? ⟨p, 0, none⟩ = some (.int .i64 a1) := kept lb22 (by repeat' (first | assumption | (simp; done) | apply keptD | apply keptA))
      have m22_1 : w22.cell? ⟨p, 1, none⟩ = some (.int .u32 b1) := kept lb22 (by repeat' (first | assumption | (simp; done) | apply keptD | apply keptA))
      have m22_2 : w22.cell? ⟨p, 2, none⟩ = some (.int .u32 c1) := kept lb22 (by repeat' (first | assumption | (simp; done) | apply keptD | apply keptA))
      have m22_3 : w22.cell? ⟨q, 0, none⟩ = some (.int .i64 a2) := kept lb22 (by repeat' (first | assumption | (simp; done) | apply keptD | apply keptA))
      have m22_4 : w22.cell? ⟨q, 1, none⟩ = some (.int .u32 b2) := kept lb22 (by repeat' (first | assumption | (simp; done) | apply keptD | apply keptA))
      have m22_5 : w22.cell? ⟨q, 2, none⟩ = some (.int .u32 c2) := kept lb22 (by repeat' (first | assumption | (simp; done) | apply keptD | apply keptA))
      have m22_6 : w22.cell? ⟨r, 0, none⟩ = some (.int .i64 a3) := kept lb22 (by repeat' (first | assumption | (simp; done) | apply keptD | apply keptA))
      have m22_7 : w22.cell? ⟨r, 1, none⟩ = some (.int .u32 b3) := kept lb22 (by repeat' (first | assumption | (simp; done) | apply keptD | apply keptA))
      have m22_8 : w22.cell? ⟨r, 2, none⟩ = some (.int .u32 c3) := kept lb22 (by repeat' (first | assumption | (simp; done) | apply keptD | apply keptA))
      clear lb22
      go_wp2_with fail
      refine (right_any _ _ _ _).mono ?_
      rintro e w30 ⟨rfl, lb30⟩
      have lz30 := lb30.size
      (try simp at lz30)
      have lB30 : Below w.heap.size w w30 := via lb30 (by go_grown) (by go_size)
      clear lb30
      go_wp2
      go_ret
      exact ⟨by first | rfl | exact ret_bool (by decide), by go_grown⟩

set_option maxHeartbeats 4000000 in
theorem line_zm (a1 b1 c1 a2 b2 c2 a3 b3 c3 : Int) (hb00 : 0 ≤ b1) (hb01 : b1 ≤ 4294967295) (hc00 : 0 ≤ c1) (hc01 : c1 ≤ 4294967295) (hb10 : 0 ≤ b2) (hb11 : b2 ≤ 4294967295) (hc10 : 0 ≤ c2) (hc11 : c2 ≤ 4294967295) (hb20 : 0 ≤ b3) (hb21 : b3 ≤ 4294967295) (hc20 : 0 ≤ c3) (hc21 : c3 ≤ 4294967295) (e12 : cmpS a1 b1 c1 a2 b2 c2 = 0) (e21 : cmpS a2 b2 c2 a1 b1 c1 = 0) (hdec : decide (a1 = a2 ∧ b1 = b2 ∧ c1 = c2) = true) (e23 : cmpS a2 b2 c2 a3 b3 c3 = -1) (d13 : decide (cmpS a1 b1 c1 a3 b3 c3 ≤ 0) = true) (w : World) :
    Calls Try.prog 4 #[.agg #[.int .i64 a1, .int .u32 b1, .int .u32 c1], .agg #[.int .i64 a2, .int .u32 b2, .int .u32 c2], .agg #[.int .i64 a3, .int .u32 b3, .int .u32 c3]] w fun e w' => e = .returned (.bool true) ∧ Below w.heap.size w w' := by
  have HB := Lib.hid (And.intro hb00 (And.intro hb01 (And.intro hc00 (And.intro hc01 (And.intro hb10 (And.intro hb11 (And.intro hc10 (And.intro hc11 (And.intro hb20 (And.intro hb21 (And.intro hc20 hc21)))))))))))
  clear hb00 hb01 hc00 hc01 hb10 hb11 hc10 hc11 hb20 hb21 hc20 hc21
  have He12 := Lib.hid e12
  clear e12
  have He21 := Lib.hid e21
  clear e21
  have Hhdec := Lib.hid hdec
  clear hdec
  have He23 := Lib.hid e23
  clear e23
  have Hd13 := Lib.hid d13
  clear d13
  go_enter Try.func4, Try.ntmps4
  go_wp2_with fail
  apply region_invA (Lets (Args3 w a1 b1 c1 a2 b2 c2 a3 b3 c3) (w.heap.size + 3) 6 3 (fun j => ([.agg #[.int .i64 a1, .int .u32 b1, .int .u32 c1], .agg #[.int .i64 a1, .int .u32 b1, .int .u32 c1], .agg #[.int .i64 a2, .int .u32 b2, .int .u32 c2], .agg #[.int .i64 a2, .int .u32 b2, .int .u32 c2], .agg #[.int .i64 a3, .int .u32 b3, .int .u32 c3], .agg #[.int .i64 a3, .int .u32 b3, .int .u32 c3]] : List Value).getD j undef) (fun j => ([(a1, b1, c1), (a2, b2, c2), (a3, b3, c3)] : List (Int × Int × Int)).getD j (0, 0, 0)))
  case hm => kernel_rfl
  case hf => kernel_rfl
  case hQ => exact (by intro c x y w e h; exact And.intro (e.symm.trans (And.left h)) (And.right h))
  case hF => intro vs; simp only [putAll, Act.put, List.setIfInBounds_toArray, List.set_cons_zero, List.set_cons_succ, Nat.reduceAdd]; rfl
  case h0 =>
    exact ⟨⟨⟨(by repeat' (first | (with_reducible assumption) | (simp; done) | (with_reducible apply keptD) | (simp [go_sem]; done) | (with_reducible apply keptA))), (by repeat' (first | (with_reducible assumption) | (simp; done) | (with_reducible apply keptD) | (simp [go_sem]; done) | (with_reducible apply keptA))), (by repeat' (first | (with_reducible assumption) | (simp; done) | (with_reducible apply keptD) | (simp [go_sem]; done) | (with_reducible apply keptA)))⟩, ⟨(by repeat' (first | (with_reducible assumption) | (simp; done) | (with_reducible apply keptD) | (simp [go_sem]; done) | (with_reducible apply keptA))), (by repeat' (first | (with_reducible assumption) | (simp; done) | (with_reducible apply keptD) | (simp [go_sem]; done) | (with_reducible apply keptA))), (by repeat' (first | (with_reducible assumption) | (simp; done) | (with_reducible apply keptD) | (simp [go_sem]; done) | (with_reducible apply keptA)))⟩, ⟨(by repeat' (first | (with_reducible assumption) | (simp; done) | (with_reducible apply keptD) | (simp [go_sem]; done) | (with_reducible apply keptA))), (by repeat' (first | (with_reducible assumption) | (simp; done) | (with_reducible apply keptD) | (simp [go_sem]; done) | (with_reducible apply keptA))), (by repeat' (first | (with_reducible assumption) | (simp; done) | (with_reducible apply keptD) | (simp [go_sem]; done) | (with_reducible apply keptA)))⟩, (by go_grown)⟩, (by simp), (fun j hj h => by cases h), (fun i hi h => by cases h), (fun i j hi hj hij h => by cases h), (fun i hi h => by cases h)⟩
  case hstep =>
    repeat' (first | exact AllOps.nil | apply AllOps.cons)
    · intro l vs wx hJ hl hd K hK
      have hS := hJ.s
      obtain ⟨⟨p0, p1, p2⟩, ⟨p3, p4, p5⟩, ⟨p6, p7, p8⟩, _⟩ := hS
      simp only [Act.put, List.setIfInBounds_toArray, List.set_cons_zero, List.set_cons_succ, Nat.reduceAdd] at hK ⊢
      have HK := Lib.hid hK
      have HJ := Lib.hid hJ
      clear hK hJ hd
      go_simp
      exact HK.out _ _ (HJ.out.value (by omega) rfl (Below.refl _ _) HJ.out.s)
    · intro l vs wx hJ hl hd K hK
      simp [depsOf, AllL, Region.binds, List.filterMap] at hd
      have e0 : vs 0 = .agg #[.int .i64 a1, .int .u32 b1, .int .u32 c1] := hJ.v 0 (by omega) (by first | exact hd | exact hd.1)
      simp only [Act.put, List.setIfInBounds_toArray, List.set_cons_zero, List.set_cons_succ, Nat.reduceAdd, e0] at hK ⊢
      have HK := Lib.hid hK
      have HJ := Lib.hid hJ
      clear hK hJ hd e0
      go_simp
      refine (to_any _ _ _ _).mono ?_
      rintro e w1 ⟨rfl, hb⟩
      exact HK.out _ _ (HJ.out.value (by omega) rfl hb (HJ.out.s.below hb))
    · intro l vs wx hJ hl hd K hK
      have hS := hJ.s
      obtain ⟨⟨p0, p1, p2⟩, ⟨p3, p4, p5⟩, ⟨p6, p7, p8⟩, _⟩ := hS
      simp only [Act.put, List.setIfInBounds_toArray, List.set_cons_zero, List.set_cons_succ, Nat.reduceAdd] at hK ⊢
      have HK := Lib.hid hK
      have HJ := Lib.hid hJ
      clear hK hJ hd
      go_simp
      exact HK.out _ _ (HJ.out.value (by omega) rfl (Below.refl _ _) HJ.out.s)
    · intro l vs wx hJ hl hd K hK
      simp [depsOf, AllL, Region.binds, List.filterMap] at hd
      have e0 : vs 2 = .agg #[.int .i64 a2, .int .u32 b2, .int .u32 c2] := hJ.v 2 (by omega) (by first | exact hd | exact hd.1)
      simp only [Act.put, List.setIfInBounds_toArray, List.set_cons_zero, List.set_cons_succ, Nat.reduceAdd, e0] at hK ⊢
      have HK := Lib.hid hK
      have HJ := Lib.hid hJ
      clear hK hJ hd e0
      go_simp
      refine (to_any _ _ _ _).mono ?_
      rintro e w1 ⟨rfl, hb⟩
      exact HK.out _ _ (HJ.out.value (by omega) rfl hb (HJ.out.s.below hb))
    · intro l vs wx hJ hl hd K hK
      have hS := hJ.s
      obtain ⟨⟨p0, p1, p2⟩, ⟨p3, p4, p5⟩, ⟨p6, p7, p8⟩, _⟩ := hS
      simp only [Act.put, List.setIfInBounds_toArray, List.set_cons_zero, List.set_cons_succ, Nat.reduceAdd] at hK ⊢
      have HK := Lib.hid hK
      have HJ := Lib.hid hJ
      clear hK hJ hd
      go_simp
      exact HK.out _ _ (HJ.out.value (by omega) rfl (Below.refl _ _) HJ.out.s)
    · intro l vs wx hJ hl hd K hK
      simp [depsOf, AllL, Region.binds, List.filterMap] at hd
      have e0 : vs 4 = .agg #[.int .i64 a3, .int .u32 b3, .int .u32 c3] := hJ.v 4 (by omega) (by first | exact hd | exact hd.1)
      simp only [Act.put, List.setIfInBounds_toArray, List.set_cons_zero, List.set_cons_succ, Nat.reduceAdd, e0] at hK ⊢
      have HK := Lib.hid hK
      have HJ := Lib.hid hJ
      clear hK hJ hd e0
      go_simp
      refine (to_any _ _ _ _).mono ?_
      rintro e w1 ⟨rfl, hb⟩
      exact HK.out _ _ (HJ.out.value (by omega) rfl hb (HJ.out.s.below hb))
    · intro l vs wx hJ hl hd K hK
      simp only [Act.put, List.setIfInBounds_toArray, List.set_cons_zero, List.set_cons_succ, Nat.reduceAdd] at hK ⊢
      have HK := Lib.hid hK
      have HJ := Lib.hid hJ
      have HL := Lib.hid hl
      clear hK hJ hd hl
      go_simp
      exact HK.out _ _ (HJ.out.made (i := 0) (by omega) HL.out (HJ.out.s.below ((Below.refl _ _).alloc (Nat.le_refl _) _)))
    · intro l vs wx hJ hl hd K hK
      simp only [Act.put, List.setIfInBounds_toArray, List.set_cons_zero, List.set_cons_succ, Nat.reduceAdd] at hK ⊢
      have HK := Lib.hid hK
      have HJ := Lib.hid hJ
      have HL := Lib.hid hl
      clear hK hJ hd hl
      go_simp
      exact HK.out _ _ (HJ.out.made (i := 1) (by omega) HL.out (HJ.out.s.below ((Below.refl _ _).alloc (Nat.le_refl _) _)))
    · intro l vs wx hJ hl hd K hK
      simp only [Act.put, List.setIfInBounds_toArray, List.set_cons_zero, List.set_cons_succ, Nat.reduceAdd] at hK ⊢
      have HK := Lib.hid hK
      have HJ := Lib.hid hJ
      have HL := Lib.hid hl
      clear hK hJ hd hl
      go_simp
      exact HK.out _ _ (HJ.out.made (i := 2) (by omega) HL.out (HJ.out.s.below ((Below.refl _ _).alloc (Nat.le_refl _) _)))
    · intro l vs wx hJ hl hd K hK
      simp [depsOf, AllL, Region.binds, List.filterMap] at hd
      have h6 : l 6 = true := by simp_all
      have h1 : l 1 = true := by simp_all
      have e1 : vs 1 = .agg #[.int .i64 a1, .int .u32 b1, .int .u32 c1] := hJ.v 1 (by omega) h1
      obtain ⟨b, e6, hNb, hbw, hR⟩ := hJ.p 0 (by omega) h6
      have e6' : vs 6 = .pointer (some ⟨b, 0, none⟩) := e6
      obtain ⟨u0, r0⟩ := Option.isSome_iff_exists.1 (hR 0 (by omega)).1
      obtain ⟨u1, r1⟩ := Option.isSome_iff_exists.1 (hR 1 (by omega)).1
      obtain ⟨u2, r2⟩ := Option.isSome_iff_exists.1 (hR 2 (by omega)).1
      have f0 := (hR 0 (by omega)).2
      have f1 := (hR 1 (by omega)).2
      have f2 := (hR 2 (by omega)).2
      simp only [Act.put, List.setIfInBounds_toArray, List.set_cons_zero, List.set_cons_succ, Nat.reduceAdd, e1, e6'] at hK ⊢
      have HK := Lib.hid hK
      have HJ := Lib.hid hJ
      have H6 := Lib.hid h6
      have E6 := Lib.hid e6
      have HN := Lib.hid hNb
      clear hK hJ hd e1 e6 e6' h1 h6 hl hNb hR hbw
      go_simp
      exact HK.out undef _ (HJ.out.stored (i := 0) (by omega) H6.out E6.out (HJ.out.s.store HN.out) _)
    · intro l vs wx hJ hl hd K hK
      simp [depsOf, AllL, Region.binds, List.filterMap] at hd
      have h6 : l 7 = true := by simp_all
      have h1 : l 3 = true := by simp_all
      have e1 : vs 3 = .agg #[.int .i64 a2, .int .u32 b2, .int .u32 c2] := hJ.v 3 (by omega) h1
      obtain ⟨b, e6, hNb, hbw, hR⟩ := hJ.p 1 (by omega) h6
      have e6' : vs 7 = .pointer (some ⟨b, 0, none⟩) := e6
      obtain ⟨u0, r0⟩ := Option.isSome_iff_exists.1 (hR 0 (by omega)).1
      obtain ⟨u1, r1⟩ := Option.isSome_iff_exists.1 (hR 1 (by omega)).1
      obtain ⟨u2, r2⟩ := Option.isSome_iff_exists.1 (hR 2 (by omega)).1
      have f0 := (hR 0 (by omega)).2
      have f1 := (hR 1 (by omega)).2
      have f2 := (hR 2 (by omega)).2
      simp only [Act.put, List.setIfInBounds_toArray, List.set_cons_zero, List.set_cons_succ, Nat.reduceAdd, e1, e6'] at hK ⊢
      have HK := Lib.hid hK
      have HJ := Lib.hid hJ
      have H6 := Lib.hid h6
      have E6 := Lib.hid e6
      have HN := Lib.hid hNb
      clear hK hJ hd e1 e6 e6' h1 h6 hl hNb hR hbw
      go_simp
      exact HK.out undef _ (HJ.out.stored (i := 1) (by omega) H6.out E6.out (HJ.out.s.store HN.out) _)
    · intro l vs wx hJ hl hd K hK
      simp [depsOf, AllL, Region.binds, List.filterMap] at hd
      have h6 : l 8 = true := by simp_all
      have h1 : l 5 = true := by simp_all
      have e1 : vs 5 = .agg #[.int .i64 a3, .int .u32 b3, .int .u32 c3] := hJ.v 5 (by omega) h1
      obtain ⟨b, e6, hNb, hbw, hR⟩ := hJ.p 2 (by omega) h6
      have e6' : vs 8 = .pointer (some ⟨b, 0, none⟩) := e6
      obtain ⟨u0, r0⟩ := Option.isSome_iff_exists.1 (hR 0 (by omega)).1
      obtain ⟨u1, r1⟩ := Option.isSome_iff_exists.1 (hR 1 (by omega)).1
      obtain ⟨u2, r2⟩ := Option.isSome_iff_exists.1 (hR 2 (by omega)).1
      have f0 := (hR 0 (by omega)).2
      have f1 := (hR 1 (by omega)).2
      have f2 := (hR 2 (by omega)).2
      simp only [Act.put, List.setIfInBounds_toArray, List.set_cons_zero, List.set_cons_succ, Nat.reduceAdd, e1, e6'] at hK ⊢
      have HK := Lib.hid hK
      have HJ := Lib.hid hJ
      have H6 := Lib.hid h6
      have E6 := Lib.hid e6
      have HN := Lib.hid hNb
      clear hK hJ hd e1 e6 e6' h1 h6 hl hNb hR hbw
      go_simp
      exact HK.out undef _ (HJ.out.stored (i := 2) (by omega) H6.out E6.out (HJ.out.s.store HN.out) _)
  case hend =>
    intro l vs wx hall hJ
    obtain ⟨p, ep, _, _, _⟩ := hJ.p 0 (by omega) (hall 6 (by decide))
    obtain ⟨q, eq, _, _, _⟩ := hJ.p 1 (by omega) (hall 7 (by decide))
    obtain ⟨r, er, _, _, _⟩ := hJ.p 2 (by omega) (hall 8 (by decide))
    have ep' : vs 6 = .pointer (some ⟨p, 0, none⟩) := ep
    have eq' : vs 7 = .pointer (some ⟨q, 0, none⟩) := eq
    have er' : vs 8 = .pointer (some ⟨r, 0, none⟩) := er
    obtain ⟨p0, p1, p2⟩ := (hJ.h 0 (by omega) (hall 9 (by decide))).2 p ep
    obtain ⟨q0, q1, q2⟩ := (hJ.h 1 (by omega) (hall 10 (by decide))).2 q eq
    obtain ⟨r0, r1, r2⟩ := (hJ.h 2 (by omega) (hall 11 (by decide))).2 r er
    have hB := hJ.s.2.2.2
    simp only [ep', eq', er']
    obtain ⟨hb00, hb01, hc00, hc01, hb10, hb11, hc10, hc11, hb20, hb21, hc20, hc21⟩ := HB.out
    have e12 := He12.out
    have e21 := He21.out
    have hdec := Hhdec.out
    have e23 := He23.out
    have d13 := Hd13.out
    clear hJ ep eq er ep' eq' er' hall
    (try dsimp only at p0 p1 p2 q0 q1 q2 r0 r1 r2)
    go_wp2_with fail
    apply region_vals (fun w' => w'.cell? ⟨p, 0, none⟩ = some (.int .i64 a1) ∧ w'.cell? ⟨p, 1, none⟩ = some (.int .u32 b1) ∧ w'.cell? ⟨p, 2, none⟩ = some (.int .u32 c1) ∧ w'.cell? ⟨q, 0, none⟩ = some (.int .i64 a2) ∧ w'.cell? ⟨q, 1, none⟩ = some (.int .u32 b2) ∧ w'.cell? ⟨q, 2, none⟩ = some (.int .u32 c2) ∧ w'.cell? ⟨r, 0, none⟩ = some (.int .i64 a3) ∧ w'.cell? ⟨r, 1, none⟩ = some (.int .u32 b3) ∧ w'.cell? ⟨r, 2, none⟩ = some (.int .u32 c3) ∧ Below w.heap.size w w') [.agg #[.int .i64 a1, .int .u32 b1, .int .u32 c1], .agg #[.int .i64 a2, .int .u32 b2, .int .u32 c2], .int .i64 0, .agg #[.int .i64 a2, .int .u32 b2, .int .u32 c2], .agg #[.int .i64 a1, .int .u32 b1, .int .u32 c1], .int .i64 0, .int .i64 0, .bool false, .bool false, .agg #[.int .i64 a1, .int .u32 b1, .int .u32 c1], .agg #[.int .i64 a2, .int .u32 b2, .int .u32 c2], .int .i64 0, .bool true, .agg #[.int .i64 a1, .int .u32 b1, .int .u32 c1], .agg #[.int .i64 a2, .int .u32 b2, .int .u32 c2], .bool true, .bool false, .bool false]
    case hm => kernel_rfl
    case hf => kernel_rfl
    case hQ => exact (by intro c x y w e h; exact And.intro (e.symm.trans (And.left h)) (And.right h))
    case hF => simp only [putAll, Act.put, List.setIfInBounds_toArray, List.set_cons_zero, List.set_cons_succ, Nat.reduceAdd, List.getD_cons_zero, List.getD_cons_succ]; rfl
    case h0 => (((try dsimp only); go_split_ands; (repeat' apply And.intro) <;> first | assumption | (apply kept; assumption; assumption) | (apply via; assumption; assumption; apply Below.size; assumption) | (go_grown; done) | (repeat' first | assumption | (simp; done) | apply keptD | apply keptA | (apply kept; assumption))))
    case hstep =>
      repeat' (first | exact AllOps.nil | apply AllOps.cons)
      all_goals
        intro wx hS K hK
        simp only [Act.put, List.setIfInBounds_toArray, List.set_cons_zero, List.set_cons_succ, Nat.reduceAdd, List.getD_cons_zero, List.getD_cons_succ] at hK ⊢
        have HK := Lib.hid hK
        have HS := Lib.hid hS
        clear hK
        go_split_ands
        first
          | (rw [if_pos (by rfl)]; refine eq_st rfl rfl ?_; (simp only [Act.put, List.setIfInBounds_toArray, List.set_cons_zero, List.set_cons_succ]); refine HK.out _ _ ?_ HS.out; rw [hdec])
          | (go_simp; (first | (refine HK.out _ _ ?_ ?_; (first | rfl | (first | rw [e12] | rw [e21])); exact HS.out) | (go_at_call 14; refine (compare_any _ _ _ _ _ _ (by omega) (by omega) (by omega) (by omega) (by omega) (by omega) (by omega) (by omega) _).mono ?_; rintro e w1 ⟨rfl, hb⟩; refine HK.out _ _ ?_ ?_; (first | rfl | (first | rw [e12] | rw [e21])); (((try dsimp only); go_split_ands; (repeat' apply And.intro) <;> first | assumption | (apply kept; assumption; assumption) | (apply via; assumption; assumption; apply Below.size; assumption) | (go_grown; done) | (repeat' first | assumption | (simp; done) | apply keptD | apply keptA | (apply kept; assumption))))) | fail))
    case hend =>
      intro wx hS
      go_split_ands
      have hzx : w.heap.size ≤ wx.heap.size := Below.size (by assumption)
      go_wp2_with fail
      refine (compare_any _ _ _ _ _ _ (by omega) (by omega) (by omega) (by omega) (by omega) (by omega) (by omega) (by omega) _).mono ?_
      rintro e w20 ⟨rfl, lb20⟩
      have lz20 := lb20.size
      (try simp at lz20)
      have lB20 : Below w.heap.size w w20 := via lb20 (by go_grown) (by go_size)
      have m20_0 : w20.cell? ⟨p, 0, none⟩ = some (.int .i64 a1) := kept lb20 (by repeat' (first | assumption | (simp; done) | apply keptD | apply keptA))
      have m20_1 : w20.cell? ⟨p, 1, none⟩ = some (.int .u32 b1) := kept lb20 (by repeat' (first | assumption | (simp; done) | apply keptD | apply keptA))
      have m20_2 : w20.cell? ⟨p, 2, none⟩ = some (.int .u32 c1) := kept lb20 (by repeat' (first | assumption | (simp; done) | apply keptD | apply keptA))
      have m20_3 : w20.cell? ⟨q, 0, none⟩ = some (.int .i64 a2) := kept lb20 (by repeat' (first | assumption | (simp; done) | apply keptD | apply keptA))
      have m20_4 : w20.cell? ⟨q, 1, none⟩ = some (.int .u32 b2) := kept lb20 (by repeat' (first | assumption | (simp; done) | apply keptD | apply keptA))
      have m20_5 : w20.cell? ⟨q, 2, none⟩ = some (.int .u32 c2) := kept lb20 (by repeat' (first | assumption | (simp; done) | apply keptD | apply keptA))
      have m20_6 : w20.cell? ⟨r, 0, none⟩ = some (.int .i64 a3) := kept lb20 (by repeat' (first | assumption | (simp; done) | apply keptD | apply keptA))
      have m20_7 : w20.cell? ⟨r, 1, none⟩ = some (.int .u32 b3) := kept lb20 (by repeat' (first | assumption | (simp; done) | apply keptD | apply keptA))
      have m20_8 : w20.cell? ⟨r, 2, none⟩ = some (.int .u32 c3) := kept lb20 (by repeat' (first | assumption | (simp; done) | apply keptD | apply keptA))
      clear lb20
      go_wp2_with fail
      refine (compare_any _ _ _ _ _ _ (by omega) (by omega) (by omega) (by omega) (by omega) (by omega) (by omega) (by omega) _).mono ?_
      rintro e w21 ⟨rfl, lb21⟩
      have lz21 := lb21.size
      (try simp at lz21)
      have lB21 : Below w.heap.size w w21 := via lb21 (by go_grown) (by go_size)
      have m21_0 : w21.cell? ⟨p, 0, none⟩ = some (.int .i64 a1) := kept lb21 (by repeat' (first | assumption | (simp; done) | apply keptD | apply keptA))
      have m21_1 : w21.cell? ⟨p, 1, none⟩ = some (.int .u32 b1) := kept lb21 (by repeat' (first | assumption | (simp; done) | apply keptD | apply keptA))
      have m21_2 : w21.cell? ⟨p, 2, none⟩ = some (.int .u32 c1) := kept lb21 (by repeat' (first | assumption | (simp; done) | apply keptD | apply keptA))
      have m21_3 : w21.cell? ⟨q, 0, none⟩ = some (.int .i64 a2) := kept lb21 (by repeat' (first | assumption | (simp; done) | apply keptD | apply keptA))
      have m21_4 : w21.cell? ⟨q, 1, none⟩ = some (.int .u32 b2) := kept lb21 (by repeat' (first | assumption | (simp; done) | apply keptD | apply keptA))
      have m21_5 : w21.cell? ⟨q, 2, none⟩ = some (.int .u32 c2) := kept lb21 (by repeat' (first | assumption | (simp; done) | apply keptD | apply keptA))
      have m21_6 : w21.cell? ⟨r, 0, none⟩ = some (.int .i64 a3) := kept lb21 (by repeat' (first | assumption | (simp; done) | apply keptD | apply keptA))
      have m21_7 : w21.cell? ⟨r, 1, none⟩ = some (.int .u32 b3) := kept lb21 (by repeat' (first | assumption | (simp; done) | apply keptD | apply keptA))
      have m21_8 : w21.cell? ⟨r, 2, none⟩ = some (.int .u32 c3) := kept lb21 (by repeat' (first | assumption | (simp; done) | apply keptD | apply keptA))
      clear lb21
      go_wp2_with fail
      refine (compare_any _ _ _ _ _ _ (by omega) (by omega) (by omega) (by omega) (by omega) (by omega) (by omega) (by omega) _).mono ?_
      rintro e w22 ⟨rfl, lb22⟩
      have lz22 := lb22.size
      (try simp at lz22)
      have lB22 : Below w.heap.size w w22 := via lb22 (by go_grown) (by go_size)
      have m22_0 : w22.cell? ⟨p, 0, none⟩ = some (.int .i64 a1) := kept lb22 (by repeat' (first | assumption | (simp; done) | apply keptD | apply keptA))
      have m22_1 : w22.cell? ⟨p, 1, none⟩ = some (.int .u32 b1) := kept lb22 (by repeat' (first | assumption | (simp; done) | apply keptD | apply keptA))
      have m22_2 : w22.cell? ⟨p, 2, none⟩ = some (.int .u32 c1) := kept lb22 (by repeat' (first | assumption | (simp; done) | apply keptD | apply keptA))
      have m22_3 : w22.cell? ⟨q, 0, none⟩ = some (.int .i64 a2) := kept lb22 (by repeat' (first | assumption | (simp; done) | apply keptD | apply keptA))
      have m22_4 : w22.cell? ⟨q, 1, none⟩ = some (.int .u32 b2) := kept lb22 (by repeat' (first | assumption | (simp; done) | apply keptD | apply keptA))
      have m22_5 : w22.cell? ⟨q, 2, none⟩ = some (.int .u32 c2) := kept lb22 (by repeat' (first | assumption | (simp; done) | apply keptD | apply keptA))
      have m22_6 : w22.cell? ⟨r, 0, none⟩ = some (.int .i64 a3) := kept lb22 (by repeat' (first | assumption | (simp; done) | apply keptD | apply keptA))
      have m22_7 : w22.cell? ⟨r, 1, none⟩ = some (.int .u32 b3) := kept lb22 (by repeat' (first | assumption | (simp; done) | apply keptD | apply keptA))
      have m22_8 : w22.cell? ⟨r, 2, none⟩ = some (.int .u32 c3) := kept lb22 (by repeat' (first | assumption | (simp; done) | apply keptD | apply keptA))
      clear lb22
      go_wp2_with fail
      refine (right_any _ _ _ _).mono ?_
      rintro e w30 ⟨rfl, lb30⟩
      have lz30 := lb30.size
      (try simp at lz30)
      have lB30 : Below w.heap.size w w30 := via lb30 (by go_grown) (by go_size)
      clear lb30
      go_wp2
      go_ret
      exact ⟨by first | rfl | exact ret_bool (by decide), by go_grown⟩

set_option maxHeartbeats 4000000 in
theorem line_mp (a1 b1 c1 a2 b2 c2 a3 b3 c3 : Int) (hb00 : 0 ≤ b1) (hb01 : b1 ≤ 4294967295) (hc00 : 0 ≤ c1) (hc01 : c1 ≤ 4294967295) (hb10 : 0 ≤ b2) (hb11 : b2 ≤ 4294967295) (hc10 : 0 ≤ c2) (hc11 : c2 ≤ 4294967295) (hb20 : 0 ≤ b3) (hb21 : b3 ≤ 4294967295) (hc20 : 0 ≤ c3) (hc21 : c3 ≤ 4294967295) (e12 : cmpS a1 b1 c1 a2 b2 c2 = -1) (e21 : cmpS a2 b2 c2 a1 b1 c1 = 1) (hdec : decide (a1 = a2 ∧ b1 = b2 ∧ c1 = c2) = false) (e23 : cmpS a2 b2 c2 a3 b3 c3 = 1) (w : World) :
    Calls Try.prog 4 #[.agg #[.int .i64 a1, .int .u32 b1, .int .u32 c1], .agg #[.int .i64 a2, .int .u32 b2, .int .u32 c2], .agg #[.int .i64 a3, .int .u32 b3, .int .u32 c3]] w fun e w' => e = .returned (.bool true) ∧ Below w.heap.size w w' := by
  have HB := Lib.hid (And.intro hb00 (And.intro hb01 (And.intro hc00 (And.intro hc01 (And.intro hb10 (And.intro hb11 (And.intro hc10 (And.intro hc11 (And.intro hb20 (And.intro hb21 (And.intro hc20 hc21)))))))))))
  clear hb00 hb01 hc00 hc01 hb10 hb11 hc10 hc11 hb20 hb21 hc20 hc21
  have He12 := Lib.hid e12
  clear e12
  have He21 := Lib.hid e21
  clear e21
  have Hhdec := Lib.hid hdec
  clear hdec
  have He23 := Lib.hid e23
  clear e23
  go_enter Try.func4, Try.ntmps4
  go_wp2_with fail
  apply region_invA (Lets (Args3 w a1 b1 c1 a2 b2 c2 a3 b3 c3) (w.heap.size + 3) 6 3 (fun j => ([.agg #[.int .i64 a1, .int .u32 b1, .int .u32 c1], .agg #[.int .i64 a1, .int .u32 b1, .int .u32 c1], .agg #[.int .i64 a2, .int .u32 b2, .int .u32 c2], .agg #[.int .i64 a2, .int .u32 b2, .int .u32 c2], .agg #[.int .i64 a3, .int .u32 b3, .int .u32 c3], .agg #[.int .i64 a3, .int .u32 b3, .int .u32 c3]] : List Value).getD j undef) (fun j => ([(a1, b1, c1), (a2, b2, c2), (a3, b3, c3)] : List (Int × Int × Int)).getD j (0, 0, 0)))
  case hm => kernel_rfl
  case hf => kernel_rfl
  case hQ => exact (by intro c x y w e h; exact And.intro (e.symm.trans (And.left h)) (And.right h))
  case hF => intro vs; simp only [putAll, Act.put, List.setIfInBounds_toArray, List.set_cons_zero, List.set_cons_succ, Nat.reduceAdd]; rfl
  case h0 =>
    exact ⟨⟨⟨(by repeat' (first | (with_reducible assumption) | (simp; done) | (with_reducible apply keptD) | (simp [go_sem]; done) | (with_reducible apply keptA))), (by repeat' (first | (with_reducible assumption) | (simp; done) | (with_reducible apply keptD) | (simp [go_sem]; done) | (with_reducible apply keptA))), (by repeat' (first | (with_reducible assumption) | (simp; done) | (with_reducible apply keptD) | (simp [go_sem]; done) | (with_reducible apply keptA)))⟩, ⟨(by repeat' (first | (with_reducible assumption) | (simp; done) | (with_reducible apply keptD) | (simp [go_sem]; done) | (with_reducible apply keptA))), (by repeat' (first | (with_reducible assumption) | (simp; done) | (with_reducible apply keptD) | (simp [go_sem]; done) | (with_reducible apply keptA))), (by repeat' (first | (with_reducible assumption) | (simp; done) | (with_reducible apply keptD) | (simp [go_sem]; done) | (with_reducible apply keptA)))⟩, ⟨(by repeat' (first | (with_reducible assumption) | (simp; done) | (with_reducible apply keptD) | (simp [go_sem]; done) | (with_reducible apply keptA))), (by repeat' (first | (with_reducible assumption) | (simp; done) | (with_reducible apply keptD) | (simp [go_sem]; done) | (with_reducible apply keptA))), (by repeat' (first | (with_reducible assumption) | (simp; done) | (with_reducible apply keptD) | (simp [go_sem]; done) | (with_reducible apply keptA)))⟩, (by go_grown)⟩, (by simp), (fun j hj h => by cases h), (fun i hi h => by cases h), (fun i j hi hj hij h => by cases h), (fun i hi h => by cases h)⟩
  case hstep =>
    repeat' (first | exact AllOps.nil | apply AllOps.cons)
    · intro l vs wx hJ hl hd K hK
      have hS := hJ.s
      obtain ⟨⟨p0, p1, p2⟩, ⟨p3, p4, p5⟩, ⟨p6, p7, p8⟩, _⟩ := hS
      simp only [Act.put, List.setIfInBounds_toArray, List.set_cons_zero, List.set_cons_succ, Nat.reduceAdd] at hK ⊢
      have HK := Lib.hid hK
      have HJ := Lib.hid hJ
      clear hK hJ hd
      go_simp
      exact HK.out _ _ (HJ.out.value (by omega) rfl (Below.refl _ _) HJ.out.s)
    · intro l vs wx hJ hl hd K hK
      simp [depsOf, AllL, Region.binds, List.filterMap] at hd
      have e0 : vs 0 = .agg #[.int .i64 a1, .int .u32 b1, .int .u32 c1] := hJ.v 0 (by omega) (by first | exact hd | exact hd.1)
      simp only [Act.put, List.setIfInBounds_toArray, List.set_cons_zero, List.set_cons_succ, Nat.reduceAdd, e0] at hK ⊢
      have HK := Lib.hid hK
      have HJ := Lib.hid hJ
      clear hK hJ hd e0
      go_simp
      refine (to_any _ _ _ _).mono ?_
      rintro e w1 ⟨rfl, hb⟩
      exact HK.out _ _ (HJ.out.value (by omega) rfl hb (HJ.out.s.below hb))
    · intro l vs wx hJ hl hd K hK
      have hS := hJ.s
      obtain ⟨⟨p0, p1, p2⟩, ⟨p3, p4, p5⟩, ⟨p6, p7, p8⟩, _⟩ := hS
      simp only [Act.put, List.setIfInBounds_toArray, List.set_cons_zero, List.set_cons_succ, Nat.reduceAdd] at hK ⊢
      have HK := Lib.hid hK
      have HJ := Lib.hid hJ
      clear hK hJ hd
      go_simp
      exact HK.out _ _ (HJ.out.value (by omega) rfl (Below.refl _ _) HJ.out.s)
    · intro l vs wx hJ hl hd K hK
      simp [depsOf, AllL, Region.binds, List.filterMap] at hd
      have e0 : vs 2 = .agg #[.int .i64 a2, .int .u32 b2, .int .u32 c2] := hJ.v 2 (by omega) (by first | exact hd | exact hd.1)
      simp only [Act.put, List.setIfInBounds_toArray, List.set_cons_zero, List.set_cons_succ, Nat.reduceAdd, e0] at hK ⊢
      have HK := Lib.hid hK
      have HJ := Lib.hid hJ
      clear hK hJ hd e0
      go_simp
      refine (to_any _ _ _ _).mono ?_
      rintro e w1 ⟨rfl, hb⟩
      exact HK.out _ _ (HJ.out.value (by omega) rfl hb (HJ.out.s.below hb))
    · intro l vs wx hJ hl hd K hK
      have hS := hJ.s
      obtain ⟨⟨p0, p1, p2⟩, ⟨p3, p4, p5⟩, ⟨p6, p7, p8⟩, _⟩ := hS
      simp only [Act.put, List.setIfInBounds_toArray, List.set_cons_zero, List.set_cons_succ, Nat.reduceAdd] at hK ⊢
      have HK := Lib.hid hK
      have HJ := Lib.hid hJ
      clear hK hJ hd
      go_simp
      exact HK.out _ _ (HJ.out.value (by omega) rfl (Below.refl _ _) HJ.out.s)
    · intro l vs wx hJ hl hd K hK
      simp [depsOf, AllL, Region.binds, List.filterMap] at hd
      have e0 : vs 4 = .agg #[.int .i64 a3, .int .u32 b3, .int .u32 c3] := hJ.v 4 (by omega) (by first | exact hd | exact hd.1)
      simp only [Act.put, List.setIfInBounds_toArray, List.set_cons_zero, List.set_cons_succ, Nat.reduceAdd, e0] at hK ⊢
      have HK := Lib.hid hK
      have HJ := Lib.hid hJ
      clear hK hJ hd e0
      go_simp
      refine (to_any _ _ _ _).mono ?_
      rintro e w1 ⟨rfl, hb⟩
      exact HK.out _ _ (HJ.out.value (by omega) rfl hb (HJ.out.s.below hb))
    · intro l vs wx hJ hl hd K hK
      simp only [Act.put, List.setIfInBounds_toArray, List.set_cons_zero, List.set_cons_succ, Nat.reduceAdd] at hK ⊢
      have HK := Lib.hid hK
      have HJ := Lib.hid hJ
      have HL := Lib.hid hl
      clear hK hJ hd hl
      go_simp
      exact HK.out _ _ (HJ.out.made (i := 0) (by omega) HL.out (HJ.out.s.below ((Below.refl _ _).alloc (Nat.le_refl _) _)))
    · intro l vs wx hJ hl hd K hK
      simp only [Act.put, List.setIfInBounds_toArray, List.set_cons_zero, List.set_cons_succ, Nat.reduceAdd] at hK ⊢
      have HK := Lib.hid hK
      have HJ := Lib.hid hJ
      have HL := Lib.hid hl
      clear hK hJ hd hl
      go_simp
      exact HK.out _ _ (HJ.out.made (i := 1) (by omega) HL.out (HJ.out.s.below ((Below.refl _ _).alloc (Nat.le_refl _) _)))
    · intro l vs wx hJ hl hd K hK
      simp only [Act.put, List.setIfInBounds_toArray, List.set_cons_zero, List.set_cons_succ, Nat.reduceAdd] at hK ⊢
      have HK := Lib.hid hK
      have HJ := Lib.hid hJ
      have HL := Lib.hid hl
      clear hK hJ hd hl
      go_simp
      exact HK.out _ _ (HJ.out.made (i := 2) (by omega) HL.out (HJ.out.s.below ((Below.refl _ _).alloc (Nat.le_refl _) _)))
    · intro l vs wx hJ hl hd K hK
      simp [depsOf, AllL, Region.binds, List.filterMap] at hd
      have h6 : l 6 = true := by simp_all
      have h1 : l 1 = true := by simp_all
      have e1 : vs 1 = .agg #[.int .i64 a1, .int .u32 b1, .int .u32 c1] := hJ.v 1 (by omega) h1
      obtain ⟨b, e6, hNb, hbw, hR⟩ := hJ.p 0 (by omega) h6
      have e6' : vs 6 = .pointer (some ⟨b, 0, none⟩) := e6
      obtain ⟨u0, r0⟩ := Option.isSome_iff_exists.1 (hR 0 (by omega)).1
      obtain ⟨u1, r1⟩ := Option.isSome_iff_exists.1 (hR 1 (by omega)).1
      obtain ⟨u2, r2⟩ := Option.isSome_iff_exists.1 (hR 2 (by omega)).1
      have f0 := (hR 0 (by omega)).2
      have f1 := (hR 1 (by omega)).2
      have f2 := (hR 2 (by omega)).2
      simp only [Act.put, List.setIfInBounds_toArray, List.set_cons_zero, List.set_cons_succ, Nat.reduceAdd, e1, e6'] at hK ⊢
      have HK := Lib.hid hK
      have HJ := Lib.hid hJ
      have H6 := Lib.hid h6
      have E6 := Lib.hid e6
      have HN := Lib.hid hNb
      clear hK hJ hd e1 e6 e6' h1 h6 hl hNb hR hbw
      go_simp
      exact HK.out undef _ (HJ.out.stored (i := 0) (by omega) H6.out E6.out (HJ.out.s.store HN.out) _)
    · intro l vs wx hJ hl hd K hK
      simp [depsOf, AllL, Region.binds, List.filterMap] at hd
      have h6 : l 7 = true := by simp_all
      have h1 : l 3 = true := by simp_all
      have e1 : vs 3 = .agg #[.int .i64 a2, .int .u32 b2, .int .u32 c2] := hJ.v 3 (by omega) h1
      obtain ⟨b, e6, hNb, hbw, hR⟩ := hJ.p 1 (by omega) h6
      have e6' : vs 7 = .pointer (some ⟨b, 0, none⟩) := e6
      obtain ⟨u0, r0⟩ := Option.isSome_iff_exists.1 (hR 0 (by omega)).1
      obtain ⟨u1, r1⟩ := Option.isSome_iff_exists.1 (hR 1 (by omega)).1
      obtain ⟨u2, r2⟩ := Option.isSome_iff_exists.1 (hR 2 (by omega)).1
      have f0 := (hR 0 (by omega)).2
      have f1 := (hR 1 (by omega)).2
      have f2 := (hR 2 (by omega)).2
      simp only [Act.put, List.setIfInBounds_toArray, List.set_cons_zero, List.set_cons_succ, Nat.reduceAdd, e1, e6'] at hK ⊢
      have HK := Lib.hid hK
      have HJ := Lib.hid hJ
      have H6 := Lib.hid h6
      have E6 := Lib.hid e6
      have HN := Lib.hid hNb
      clear hK hJ hd e1 e6 e6' h1 h6 hl hNb hR hbw
      go_simp
      exact HK.out undef _ (HJ.out.stored (i := 1) (by omega) H6.out E6.out (HJ.out.s.store HN.out) _)
    · intro l vs wx hJ hl hd K hK
      simp [depsOf, AllL, Region.binds, List.filterMap] at hd
      have h6 : l 8 = true := by simp_all
      have h1 : l 5 = true := by simp_all
      have e1 : vs 5 = .agg #[.int .i64 a3, .int .u32 b3, .int .u32 c3] := hJ.v 5 (by omega) h1
      obtain ⟨b, e6, hNb, hbw, hR⟩ := hJ.p 2 (by omega) h6
      have e6' : vs 8 = .pointer (some ⟨b, 0, none⟩) := e6
      obtain ⟨u0, r0⟩ := Option.isSome_iff_exists.1 (hR 0 (by omega)).1
      obtain ⟨u1, r1⟩ := Option.isSome_iff_exists.1 (hR 1 (by omega)).1
      obtain ⟨u2, r2⟩ := Option.isSome_iff_exists.1 (hR 2 (by omega)).1
      have f0 := (hR 0 (by omega)).2
      have f1 := (hR 1 (by omega)).2
      have f2 := (hR 2 (by omega)).2
      simp only [Act.put, List.setIfInBounds_toArray, List.set_cons_zero, List.set_cons_succ, Nat.reduceAdd, e1, e6'] at hK ⊢
      have HK := Lib.hid hK
      have HJ := Lib.hid hJ
      have H6 := Lib.hid h6
      have E6 := Lib.hid e6
      have HN := Lib.hid hNb
      clear hK hJ hd e1 e6 e6' h1 h6 hl hNb hR hbw
      go_simp
      exact HK.out undef _ (HJ.out.stored (i := 2) (by omega) H6.out E6.out (HJ.out.s.store HN.out) _)
  case hend =>
    intro l vs wx hall hJ
    obtain ⟨p, ep, _, _, _⟩ := hJ.p 0 (by omega) (hall 6 (by decide))
    obtain ⟨q, eq, _, _, _⟩ := hJ.p 1 (by omega) (hall 7 (by decide))
    obtain ⟨r, er, _, _, _⟩ := hJ.p 2 (by omega) (hall 8 (by decide))
    have ep' : vs 6 = .pointer (some ⟨p, 0, none⟩) := ep
    have eq' : vs 7 = .pointer (some ⟨q, 0, none⟩) := eq
    have er' : vs 8 = .pointer (some ⟨r, 0, none⟩) := er
    obtain ⟨p0, p1, p2⟩ := (hJ.h 0 (by omega) (hall 9 (by decide))).2 p ep
    obtain ⟨q0, q1, q2⟩ := (hJ.h 1 (by omega) (hall 10 (by decide))).2 q eq
    obtain ⟨r0, r1, r2⟩ := (hJ.h 2 (by omega) (hall 11 (by decide))).2 r er
    have hB := hJ.s.2.2.2
    simp only [ep', eq', er']
    obtain ⟨hb00, hb01, hc00, hc01, hb10, hb11, hc10, hc11, hb20, hb21, hc20, hc21⟩ := HB.out
    have e12 := He12.out
    have e21 := He21.out
    have hdec := Hhdec.out
    have e23 := He23.out
    clear hJ ep eq er ep' eq' er' hall
    (try dsimp only at p0 p1 p2 q0 q1 q2 r0 r1 r2)
    go_wp2_with fail
    apply region_vals (fun w' => w'.cell? ⟨p, 0, none⟩ = some (.int .i64 a1) ∧ w'.cell? ⟨p, 1, none⟩ = some (.int .u32 b1) ∧ w'.cell? ⟨p, 2, none⟩ = some (.int .u32 c1) ∧ w'.cell? ⟨q, 0, none⟩ = some (.int .i64 a2) ∧ w'.cell? ⟨q, 1, none⟩ = some (.int .u32 b2) ∧ w'.cell? ⟨q, 2, none⟩ = some (.int .u32 c2) ∧ w'.cell? ⟨r, 0, none⟩ = some (.int .i64 a3) ∧ w'.cell? ⟨r, 1, none⟩ = some (.int .u32 b3) ∧ w'.cell? ⟨r, 2, none⟩ = some (.int .u32 c3) ∧ Below w.heap.size w w') [.agg #[.int .i64 a1, .int .u32 b1, .int .u32 c1], .agg #[.int .i64 a2, .int .u32 b2, .int .u32 c2], .int .i64 (-1), .agg #[.int .i64 a2, .int .u32 b2, .int .u32 c2], .agg #[.int .i64 a1, .int .u32 b1, .int .u32 c1], .int .i64 1, .int .i64 (-1), .bool false, .bool false, .agg #[.int .i64 a1, .int .u32 b1, .int .u32 c1], .agg #[.int .i64 a2, .int .u32 b2, .int .u32 c2], .int .i64 (-1), .bool false, .agg #[.int .i64 a1, .int .u32 b1, .int .u32 c1], .agg #[.int .i64 a2, .int .u32 b2, .int .u32 c2], .bool false, .bool false, .bool false]
    case hm => kernel_rfl
    case hf => kernel_rfl
    case hQ => exact (by intro c x y w e h; exact And.intro (e.symm.trans (And.left h)) (And.right h))
    case hF => simp only [putAll, Act.put, List.setIfInBounds_toArray, List.set_cons_zero, List.set_cons_succ, Nat.reduceAdd, List.getD_cons_zero, List.getD_cons_succ]; rfl
    case h0 => (((try dsimp only); go_split_ands; (repeat' apply And.intro) <;> first | assumption | (apply kept; assumption; assumption) | (apply via; assumption; assumption; apply Below.size; assumption) | (go_grown; done) | (repeat' first | assumption | (simp; done) | apply keptD | apply keptA | (apply kept; assumption))))
    case hstep =>
      repeat' (first | exact AllOps.nil | apply AllOps.cons)
      all_goals
        intro wx hS K hK
        simp only [Act.put, List.setIfInBounds_toArray, List.set_cons_zero, List.set_cons_succ, Nat.reduceAdd, List.getD_cons_zero, List.getD_cons_succ] at hK ⊢
        have HK := Lib.hid hK
        have HS := Lib.hid hS
        clear hK
        go_split_ands
        first
          | (rw [if_pos (by rfl)]; refine eq_st rfl rfl ?_; (simp only [Act.put, List.setIfInBounds_toArray, List.set_cons_zero, List.set_cons_succ]); refine HK.out _ _ ?_ HS.out; rw [hdec])
          | (go_simp; (first | (refine HK.out _ _ ?_ ?_; (first | rfl | (first | rw [e12] | rw [e21])); exact HS.out) | (go_at_call 14; refine (compare_any _ _ _ _ _ _ (by omega) (by omega) (by omega) (by omega) (by omega) (by omega) (by omega) (by omega) _).mono ?_; rintro e w1 ⟨rfl, hb⟩; refine HK.out _ _ ?_ ?_; (first | rfl | (first | rw [e12] | rw [e21])); (((try dsimp only); go_split_ands; (repeat' apply And.intro) <;> first | assumption | (apply kept; assumption; assumption) | (apply via; assumption; assumption; apply Below.size; assumption) | (go_grown; done) | (repeat' first | assumption | (simp; done) | apply keptD | apply keptA | (apply kept; assumption))))) | fail))
    case hend =>
      intro wx hS
      go_split_ands
      have hzx : w.heap.size ≤ wx.heap.size := Below.size (by assumption)
      go_wp2_with fail
      refine (compare_any _ _ _ _ _ _ (by omega) (by omega) (by omega) (by omega) (by omega) (by omega) (by omega) (by omega) _).mono ?_
      rintro e w20 ⟨rfl, lb20⟩
      have lz20 := lb20.size
      (try simp at lz20)
      have lB20 : Below w.heap.size w w20 := via lb20 (by go_grown) (by go_size)
      have m20_0 : w20.cell? ⟨p, 0, none⟩ = some (.int .i64 a1) := kept lb20 (by repeat' (first | assumption | (simp; done) | apply keptD | apply keptA))
      have m20_1 : w20.cell? ⟨p, 1, none⟩ = some (.int .u32 b1) := kept lb20 (by repeat' (first | assumption | (simp; done) | apply keptD | apply keptA))
      have m20_2 : w20.cell? ⟨p, 2, none⟩ = some (.int .u32 c1) := kept lb20 (by repeat' (first | assumption | (simp; done) | apply keptD | apply keptA))
      have m20_3 : w20.cell? ⟨q, 0, none⟩ = some (.int .i64 a2) := kept lb20 (by repeat' (first | assumption | (simp; done) | apply keptD | apply keptA))
      have m20_4 : w20.cell? ⟨q, 1, none⟩ = some (.int .u32 b2) := kept lb20 (by repeat' (first | assumption | (simp; done) | apply keptD | apply keptA))
      have m20_5 : w20.cell? ⟨q, 2, none⟩ = some (.int .u32 c2) := kept lb20 (by repeat' (first | assumption | (simp; done) | apply keptD | apply keptA))
      have m20_6 : w20.cell? ⟨r, 0, none⟩ = some (.int .i64 a3) := kept lb20 (by repeat' (first | assumption | (simp; done) | apply keptD | apply keptA))
      have m20_7 : w20.cell? ⟨r, 1, none⟩ = some (.int .u32 b3) := kept lb20 (by repeat' (first | assumption | (simp; done) | apply keptD | apply keptA))
      have m20_8 : w20.cell? ⟨r, 2, none⟩ = some (.int .u32 c3) := kept lb20 (by repeat' (first | assumption | (simp; done) | apply keptD | apply keptA))
      clear lb20
      go_wp2_with fail
      refine (compare_any _ _ _ _ _ _ (by omega) (by omega) (by omega) (by omega) (by omega) (by omega) (by omega) (by omega) _).mono ?_
      rintro e w21 ⟨rfl, lb21⟩
      have lz21 := lb21.size
      (try simp at lz21)
      have lB21 : Below w.heap.size w w21 := via lb21 (by go_grown) (by go_size)
      have m21_0 : w21.cell? ⟨p, 0, none⟩ = some (.int .i64 a1) := kept lb21 (by repeat' (first | assumption | (simp; done) | apply keptD | apply keptA))
      have m21_1 : w21.cell? ⟨p, 1, none⟩ = some (.int .u32 b1) := kept lb21 (by repeat' (first | assumption | (simp; done) | apply keptD | apply keptA))
      have m21_2 : w21.cell? ⟨p, 2, none⟩ = some (.int .u32 c1) := kept lb21 (by repeat' (first | assumption | (simp; done) | apply keptD | apply keptA))
      have m21_3 : w21.cell? ⟨q, 0, none⟩ = some (.int .i64 a2) := kept lb21 (by repeat' (first | assumption | (simp; done) | apply keptD | apply keptA))
      have m21_4 : w21.cell? ⟨q, 1, none⟩ = some (.int .u32 b2) := kept lb21 (by repeat' (first | assumption | (simp; done) | apply keptD | apply keptA))
      have m21_5 : w21.cell? ⟨q, 2, none⟩ = some (.int .u32 c2) := kept lb21 (by repeat' (first | assumption | (simp; done) | apply keptD | apply keptA))
      have m21_6 : w21.cell? ⟨r, 0, none⟩ = some (.int .i64 a3) := kept lb21 (by repeat' (first | assumption | (simp; done) | apply keptD | apply keptA))
      have m21_7 : w21.cell? ⟨r, 1, none⟩ = some (.int .u32 b3) := kept lb21 (by repeat' (first | assumption | (simp; done) | apply keptD | apply keptA))
      have m21_8 : w21.cell? ⟨r, 2, none⟩ = some (.int .u32 c3) := kept lb21 (by repeat' (first | assumption | (simp; done) | apply keptD | apply keptA))
      clear lb21
      go_wp2
      go_ret
      exact ⟨by first | rfl | exact ret_bool (by decide), by go_grown⟩

set_option maxHeartbeats 4000000 in
theorem line_mz (a1 b1 c1 a2 b2 c2 a3 b3 c3 : Int) (hb00 : 0 ≤ b1) (hb01 : b1 ≤ 4294967295) (hc00 : 0 ≤ c1) (hc01 : c1 ≤ 4294967295) (hb10 : 0 ≤ b2) (hb11 : b2 ≤ 4294967295) (hc10 : 0 ≤ c2) (hc11 : c2 ≤ 4294967295) (hb20 : 0 ≤ b3) (hb21 : b3 ≤ 4294967295) (hc20 : 0 ≤ c3) (hc21 : c3 ≤ 4294967295) (e12 : cmpS a1 b1 c1 a2 b2 c2 = -1) (e21 : cmpS a2 b2 c2 a1 b1 c1 = 1) (hdec : decide (a1 = a2 ∧ b1 = b2 ∧ c1 = c2) = false) (e23 : cmpS a2 b2 c2 a3 b3 c3 = 0) (d13 : decide (cmpS a1 b1 c1 a3 b3 c3 ≤ 0) = true) (w : World) :
    Calls Try.prog 4 #[.agg #[.int .i64 a1, .int .u32 b1, .int .u32 c1], .agg #[.int .i64 a2, .int .u32 b2, .int .u32 c2], .agg #[.int .i64 a3, .int .u32 b3, .int .u32 c3]] w fun e w' => e = .returned (.bool true) ∧ Below w.heap.size w w' := by
  have HB := Lib.hid (And.intro hb00 (And.intro hb01 (And.intro hc00 (And.intro hc01 (And.intro hb10 (And.intro hb11 (And.intro hc10 (And.intro hc11 (And.intro hb20 (And.intro hb21 (And.intro hc20 hc21)))))))))))
  clear hb00 hb01 hc00 hc01 hb10 hb11 hc10 hc11 hb20 hb21 hc20 hc21
  have He12 := Lib.hid e12
  clear e12
  have He21 := Lib.hid e21
  clear e21
  have Hhdec := Lib.hid hdec
  clear hdec
  have He23 := Lib.hid e23
  clear e23
  have Hd13 := Lib.hid d13
  clear d13
  go_enter Try.func4, Try.ntmps4
  go_wp2_with fail
  apply region_invA (Lets (Args3 w a1 b1 c1 a2 b2 c2 a3 b3 c3) (w.heap.size + 3) 6 3 (fun j => ([.agg #[.int .i64 a1, .int .u32 b1, .int .u32 c1], .agg #[.int .i64 a1, .int .u32 b1, .int .u32 c1], .agg #[.int .i64 a2, .int .u32 b2, .int .u32 c2], .agg #[.int .i64 a2, .int .u32 b2, .int .u32 c2], .agg #[.int .i64 a3, .int .u32 b3, .int .u32 c3], .agg #[.int .i64 a3, .int .u32 b3, .int .u32 c3]] : List Value).getD j undef) (fun j => ([(a1, b1, c1), (a2, b2, c2), (a3, b3, c3)] : List (Int × Int × Int)).getD j (0, 0, 0)))
  case hm => kernel_rfl
  case hf => kernel_rfl
  case hQ => exact (by intro c x y w e h; exact And.intro (e.symm.trans (And.left h)) (And.right h))
  case hF => intro vs; simp only [putAll, Act.put, List.setIfInBounds_toArray, List.set_cons_zero, List.set_cons_succ, Nat.reduceAdd]; rfl
  case h0 =>
    exact ⟨⟨⟨(by repeat' (first | (with_reducible assumption) | (simp; done) | (with_reducible apply keptD) | (simp [go_sem]; done) | (with_reducible apply keptA))), (by repeat' (first | (with_reducible assumption) | (simp; done) | (with_reducible apply keptD) | (simp [go_sem]; done) | (with_reducible apply keptA))), (by repeat' (first | (with_reducible assumption) | (simp; done) | (with_reducible apply keptD) | (simp [go_sem]; done) | (with_reducible apply keptA)))⟩, ⟨(by repeat' (first | (with_reducible assumption) | (simp; done) | (with_reducible apply keptD) | (simp [go_sem]; done) | (with_reducible apply keptA))), (by repeat' (first | (with_reducible assumption) | (simp; done) | (with_reducible apply keptD) | (simp [go_sem]; done) | (with_reducible apply keptA))), (by repeat' (first | (with_reducible assumption) | (simp; done) | (with_reducible apply keptD) | (simp [go_sem]; done) | (with_reducible apply keptA)))⟩, ⟨(by repeat' (first | (with_reducible assumption) | (simp; done) | (with_reducible apply keptD) | (simp [go_sem]; done) | (with_reducible apply keptA))), (by repeat' (first | (with_reducible assumption) | (simp; done) | (with_reducible apply keptD) | (simp [go_sem]; done) | (with_reducible apply keptA))), (by repeat' (first | (with_reducible assumption) | (simp; done) | (with_reducible apply keptD) | (simp [go_sem]; done) | (with_reducible apply keptA)))⟩, (by go_grown)⟩, (by simp), (fun j hj h => by cases h), (fun i hi h => by cases h), (fun i j hi hj hij h => by cases h), (fun i hi h => by cases h)⟩
  case hstep =>
    repeat' (first | exact AllOps.nil | apply AllOps.cons)
    · intro l vs wx hJ hl hd K hK
      have hS := hJ.s
      obtain ⟨⟨p0, p1, p2⟩, ⟨p3, p4, p5⟩, ⟨p6, p7, p8⟩, _⟩ := hS
      simp only [Act.put, List.setIfInBounds_toArray, List.set_cons_zero, List.set_cons_succ, Nat.reduceAdd] at hK ⊢
      have HK := Lib.hid hK
      have HJ := Lib.hid hJ
      clear hK hJ hd
      go_simp
      exact HK.out _ _ (HJ.out.value (by omega) rfl (Below.refl _ _) HJ.out.s)
    · intro l vs wx hJ hl hd K hK
      simp [depsOf, AllL, Region.binds, List.filterMap] at hd
      have e0 : vs 0 = .agg #[.int .i64 a1, .int .u32 b1, .int .u32 c1] := hJ.v 0 (by omega) (by first | exact hd | exact hd.1)
      simp only [Act.put, List.setIfInBounds_toArray, List.set_cons_zero, List.set_cons_succ, Nat.reduceAdd, e0] at hK ⊢
      have HK := Lib.hid hK
      have HJ := Lib.hid hJ
      clear hK hJ hd e0
      go_simp
      refine (to_any _ _ _ _).mono ?_
      rintro e w1 ⟨rfl, hb⟩
      exact HK.out _ _ (HJ.out.value (by omega) rfl hb (HJ.out.s.below hb))
    · intro l vs wx hJ hl hd K hK
      have hS := hJ.s
      obtain ⟨⟨p0, p1, p2⟩, ⟨p3, p4, p5⟩, ⟨p6, p7, p8⟩, _⟩ := hS
      simp only [Act.put, List.setIfInBounds_toArray, List.set_cons_zero, List.set_cons_succ, Nat.reduceAdd] at hK ⊢
      have HK := Lib.hid hK
      have HJ := Lib.hid hJ
      clear hK hJ hd
      go_simp
      exact HK.out _ _ (HJ.out.value (by omega) rfl (Below.refl _ _) HJ.out.s)
    · intro l vs wx hJ hl hd K hK
      simp [depsOf, AllL, Region.binds, List.filterMap] at hd
      have e0 : vs 2 = .agg #[.int .i64 a2, .int .u32 b2, .int .u32 c2] := hJ.v 2 (by omega) (by first | exact hd | exact hd.1)
      simp only [Act.put, List.setIfInBounds_toArray, List.set_cons_zero, List.set_cons_succ, Nat.reduceAdd, e0] at hK ⊢
      have HK := Lib.hid hK
      have HJ := Lib.hid hJ
      clear hK hJ hd e0
      go_simp
      refine (to_any _ _ _ _).mono ?_
      rintro e w1 ⟨rfl, hb⟩
      exact HK.out _ _ (HJ.out.value (by omega) rfl hb (HJ.out.s.below hb))
    · intro l vs wx hJ hl hd K hK
      have hS := hJ.s
      obtain ⟨⟨p0, p1, p2⟩, ⟨p3, p4, p5⟩, ⟨p6, p7, p8⟩, _⟩ := hS
      simp only [Act.put, List.setIfInBounds_toArray, List.set_cons_zero, List.set_cons_succ, Nat.reduceAdd] at hK ⊢
      have HK := Lib.hid hK
      have HJ := Lib.hid hJ
      clear hK hJ hd
      go_simp
      exact HK.out _ _ (HJ.out.value (by omega) rfl (Below.refl _ _) HJ.out.s)
    · intro l vs wx hJ hl hd K hK
      simp [depsOf, AllL, Region.binds, List.filterMap] at hd
      have e0 : vs 4 = .agg #[.int .i64 a3, .int .u32 b3, .int .u32 c3] := hJ.v 4 (by omega) (by first | exact hd | exact hd.1)
      simp only [Act.put, List.setIfInBounds_toArray, List.set_cons_zero, List.set_cons_succ, Nat.reduceAdd, e0] at hK ⊢
      have HK := Lib.hid hK
      have HJ := Lib.hid hJ
      clear hK hJ hd e0
      go_simp
      refine (to_any _ _ _ _).mono ?_
      rintro e w1 ⟨rfl, hb⟩
      exact HK.out _ _ (HJ.out.value (by omega) rfl hb (HJ.out.s.below hb))
    · intro l vs wx hJ hl hd K hK
      simp only [Act.put, List.setIfInBounds_toArray, List.set_cons_zero, List.set_cons_succ, Nat.reduceAdd] at hK ⊢
      have HK := Lib.hid hK
      have HJ := Lib.hid hJ
      have HL := Lib.hid hl
      clear hK hJ hd hl
      go_simp
      exact HK.out _ _ (HJ.out.made (i := 0) (by omega) HL.out (HJ.out.s.below ((Below.refl _ _).alloc (Nat.le_refl _) _)))
    · intro l vs wx hJ hl hd K hK
      simp only [Act.put, List.setIfInBounds_toArray, List.set_cons_zero, List.set_cons_succ, Nat.reduceAdd] at hK ⊢
      have HK := Lib.hid hK
      have HJ := Lib.hid hJ
      have HL := Lib.hid hl
      clear hK hJ hd hl
      go_simp
      exact HK.out _ _ (HJ.out.made (i := 1) (by omega) HL.out (HJ.out.s.below ((Below.refl _ _).alloc (Nat.le_refl _) _)))
    · intro l vs wx hJ hl hd K hK
      simp only [Act.put, List.setIfInBounds_toArray, List.set_cons_zero, List.set_cons_succ, Nat.reduceAdd] at hK ⊢
      have HK := Lib.hid hK
      have HJ := Lib.hid hJ
      have HL := Lib.hid hl
      clear hK hJ hd hl
      go_simp
      exact HK.out _ _ (HJ.out.made (i := 2) (by omega) HL.out (HJ.out.s.below ((Below.refl _ _).alloc (Nat.le_refl _) _)))
    · intro l vs wx hJ hl hd K hK
      simp [depsOf, AllL, Region.binds, List.filterMap] at hd
      have h6 : l 6 = true := by simp_all
      have h1 : l 1 = true := by simp_all
      have e1 : vs 1 = .agg #[.int .i64 a1, .int .u32 b1, .int .u32 c1] := hJ.v 1 (by omega) h1
      obtain ⟨b, e6, hNb, hbw, hR⟩ := hJ.p 0 (by omega) h6
      have e6' : vs 6 = .pointer (some ⟨b, 0, none⟩) := e6
      obtain ⟨u0, r0⟩ := Option.isSome_iff_exists.1 (hR 0 (by omega)).1
      obtain ⟨u1, r1⟩ := Option.isSome_iff_exists.1 (hR 1 (by omega)).1
      obtain ⟨u2, r2⟩ := Option.isSome_iff_exists.1 (hR 2 (by omega)).1
      have f0 := (hR 0 (by omega)).2
      have f1 := (hR 1 (by omega)).2
      have f2 := (hR 2 (by omega)).2
      simp only [Act.put, List.setIfInBounds_toArray, List.set_cons_zero, List.set_cons_succ, Nat.reduceAdd, e1, e6'] at hK ⊢
      have HK := Lib.hid hK
      have HJ := Lib.hid hJ
      have H6 := Lib.hid h6
      have E6 := Lib.hid e6
      have HN := Lib.hid hNb
      clear hK hJ hd e1 e6 e6' h1 h6 hl hNb hR hbw
      go_simp
      exact HK.out undef _ (HJ.out.stored (i := 0) (by omega) H6.out E6.out (HJ.out.s.store HN.out) _)
    · intro l vs wx hJ hl hd K hK
      simp [depsOf, AllL, Region.binds, List.filterMap] at hd
      have h6 : l 7 = true := by simp_all
      have h1 : l 3 = true := by simp_all
      have e1 : vs 3 = .agg #[.int .i64 a2, .int .u32 b2, .int .u32 c2] := hJ.v 3 (by omega) h1
      obtain ⟨b, e6, hNb, hbw, hR⟩ := hJ.p 1 (by omega) h6
      have e6' : vs 7 = .pointer (some ⟨b, 0, none⟩) := e6
      obtain ⟨u0, r0⟩ := Option.isSome_iff_exists.1 (hR 0 (by omega)).1
      obtain ⟨u1, r1⟩ := Option.isSome_iff_exists.1 (hR 1 (by omega)).1
      obtain ⟨u2, r2⟩ := Option.isSome_iff_exists.1 (hR 2 (by omega)).1
      have f0 := (hR 0 (by omega)).2
      have f1 := (hR 1 (by omega)).2
      have f2 := (hR 2 (by omega)).2
      simp only [Act.put, List.setIfInBounds_toArray, List.set_cons_zero, List.set_cons_succ, Nat.reduceAdd, e1, e6'] at hK ⊢
      have HK := Lib.hid hK
      have HJ := Lib.hid hJ
      have H6 := Lib.hid h6
      have E6 := Lib.hid e6
      have HN := Lib.hid hNb
      clear hK hJ hd e1 e6 e6' h1 h6 hl hNb hR hbw
      go_simp
      exact HK.out undef _ (HJ.out.stored (i := 1) (by omega) H6.out E6.out (HJ.out.s.store HN.out) _)
    · intro l vs wx hJ hl hd K hK
      simp [depsOf, AllL, Region.binds, List.filterMap] at hd
      have h6 : l 8 = true := by simp_all
      have h1 : l 5 = true := by simp_all
      have e1 : vs 5 = .agg #[.int .i64 a3, .int .u32 b3, .int .u32 c3] := hJ.v 5 (by omega) h1
      obtain ⟨b, e6, hNb, hbw, hR⟩ := hJ.p 2 (by omega) h6
      have e6' : vs 8 = .pointer (some ⟨b, 0, none⟩) := e6
      obtain ⟨u0, r0⟩ := Option.isSome_iff_exists.1 (hR 0 (by omega)).1
      obtain ⟨u1, r1⟩ := Option.isSome_iff_exists.1 (hR 1 (by omega)).1
      obtain ⟨u2, r2⟩ := Option.isSome_iff_exists.1 (hR 2 (by omega)).1
      have f0 := (hR 0 (by omega)).2
      have f1 := (hR 1 (by omega)).2
      have f2 := (hR 2 (by omega)).2
      simp only [Act.put, List.setIfInBounds_toArray, List.set_cons_zero, List.set_cons_succ, Nat.reduceAdd, e1, e6'] at hK ⊢
      have HK := Lib.hid hK
      have HJ := Lib.hid hJ
      have H6 := Lib.hid h6
      have E6 := Lib.hid e6
      have HN := Lib.hid hNb
      clear hK hJ hd e1 e6 e6' h1 h6 hl hNb hR hbw
      go_simp
      exact HK.out undef _ (HJ.out.stored (i := 2) (by omega) H6.out E6.out (HJ.out.s.store HN.out) _)
  case hend =>
    intro l vs wx hall hJ
    obtain ⟨p, ep, _, _, _⟩ := hJ.p 0 (by omega) (hall 6 (by decide))
    obtain ⟨q, eq, _, _, _⟩ := hJ.p 1 (by omega) (hall 7 (by decide))
    obtain ⟨r, er, _, _, _⟩ := hJ.p 2 (by omega) (hall 8 (by decide))
    have ep' : vs 6 = .pointer (some ⟨p, 0, none⟩) := ep
    have eq' : vs 7 = .pointer (some ⟨q, 0, none⟩) := eq
    have er' : vs 8 = .pointer (some ⟨r, 0, none⟩) := er
    obtain ⟨p0, p1, p2⟩ := (hJ.h 0 (by omega) (hall 9 (by decide))).2 p ep
    obtain ⟨q0, q1, q2⟩ := (hJ.h 1 (by omega) (hall 10 (by decide))).2 q eq
    obtain ⟨r0, r1, r2⟩ := (hJ.h 2 (by omega) (hall 11 (by decide))).2 r er
    have hB := hJ.s.2.2.2
    simp only [ep', eq', er']
    obtain ⟨hb00, hb01, hc00, hc01, hb10, hb11, hc10, hc11, hb20, hb21, hc20, hc21⟩ := HB.out
    have e12 := He12.out
    have e21 := He21.out
    have hdec := Hhdec.out
    have e23 := He23.out
    have d13 := Hd13.out
    clear hJ ep eq er ep' eq' er' hall
    (try dsimp only at p0 p1 p2 q0 q1 q2 r0 r1 r2)
    go_wp2_with fail
    apply region_vals (fun w' => w'.cell? ⟨p, 0, none⟩ = some (.int .i64 a1) ∧ w'.cell? ⟨p, 1, none⟩ = some (.int .u32 b1) ∧ w'.cell? ⟨p, 2, none⟩ = some (.int .u32 c1) ∧ w'.cell? ⟨q, 0, none⟩ = some (.int .i64 a2) ∧ w'.cell? ⟨q, 1, none⟩ = some (.int .u32 b2) ∧ w'.cell? ⟨q, 2, none⟩ = some (.int .u32 c2) ∧ w'.cell? ⟨r, 0, none⟩ = some (.int .i64 a3) ∧ w'.cell? ⟨r, 1, none⟩ = some (.int .u32 b3) ∧ w'.cell? ⟨r, 2, none⟩ = some (.int .u32 c3) ∧ Below w.heap.size w w') [.agg #[.int .i64 a1, .int .u32 b1, .int .u32 c1], .agg #[.int .i64 a2, .int .u32 b2, .int .u32 c2], .int .i64 (-1), .agg #[.int .i64 a2, .int .u32 b2, .int .u32 c2], .agg #[.int .i64 a1, .int .u32 b1, .int .u32 c1], .int .i64 1, .int .i64 (-1), .bool false, .bool false, .agg #[.int .i64 a1, .int .u32 b1, .int .u32 c1], .agg #[.int .i64 a2, .int .u32 b2, .int .u32 c2], .int .i64 (-1), .bool false, .agg #[.int .i64 a1, .int .u32 b1, .int .u32 c1], .agg #[.int .i64 a2, .int .u32 b2, .int .u32 c2], .bool false, .bool false, .bool false]
    case hm => kernel_rfl
    case hf => kernel_rfl
    case hQ => exact (by intro c x y w e h; exact And.intro (e.symm.trans (And.left h)) (And.right h))
    case hF => simp only [putAll, Act.put, List.setIfInBounds_toArray, List.set_cons_zero, List.set_cons_succ, Nat.reduceAdd, List.getD_cons_zero, List.getD_cons_succ]; rfl
    case h0 => (((try dsimp only); go_split_ands; (repeat' apply And.intro) <;> first | assumption | (apply kept; assumption; assumption) | (apply via; assumption; assumption; apply Below.size; assumption) | (go_grown; done) | (repeat' first | assumption | (simp; done) | apply keptD | apply keptA | (apply kept; assumption))))
    case hstep =>
      repeat' (first | exact AllOps.nil | apply AllOps.cons)
      all_goals
        intro wx hS K hK
        simp only [Act.put, List.setIfInBounds_toArray, List.set_cons_zero, List.set_cons_succ, Nat.reduceAdd, List.getD_cons_zero, List.getD_cons_succ] at hK ⊢
        have HK := Lib.hid hK
        have HS := Lib.hid hS
        clear hK
        go_split_ands
        first
          | (rw [if_pos (by rfl)]; refine eq_st rfl rfl ?_; (simp only [Act.put, List.setIfInBounds_toArray, List.set_cons_zero, List.set_cons_succ]); refine HK.out _ _ ?_ HS.out; rw [hdec])
          | (go_simp; (first | (refine HK.out _ _ ?_ ?_; (first | rfl | (first | rw [e12] | rw [e21])); exact HS.out) | (go_at_call 14; refine (compare_any _ _ _ _ _ _ (by omega) (by omega) (by omega) (by omega) (by omega) (by omega) (by omega) (by omega) _).mono ?_; rintro e w1 ⟨rfl, hb⟩; refine HK.out _ _ ?_ ?_; (first | rfl | (first | rw [e12] | rw [e21])); (((try dsimp only); go_split_ands; (repeat' apply And.intro) <;> first | assumption | (apply kept; assumption; assumption) | (apply via; assumption; assumption; apply Below.size; assumption) | (go_grown; done) | (repeat' first | assumption | (simp; done) | apply keptD | apply keptA | (apply kept; assumption))))) | fail))
    case hend =>
      intro wx hS
      go_split_ands
      have hzx : w.heap.size ≤ wx.heap.size := Below.size (by assumption)
      go_wp2_with fail
      refine (compare_any _ _ _ _ _ _ (by omega) (by omega) (by omega) (by omega) (by omega) (by omega) (by omega) (by omega) _).mono ?_
      rintro e w20 ⟨rfl, lb20⟩
      have lz20 := lb20.size
      (try simp at lz20)
      have lB20 : Below w.heap.size w w20 := via lb20 (by go_grown) (by go_size)
      have m20_0 : w20.cell? ⟨p, 0, none⟩ = some (.int .i64 a1) := kept lb20 (by repeat' (first | assumption | (simp; done) | apply keptD | apply keptA))
      have m20_1 : w20.cell? ⟨p, 1, none⟩ = some (.int .u32 b1) := kept lb20 (by repeat' (first | assumption | (simp; done) | apply keptD | apply keptA))
      have m20_2 : w20.cell? ⟨p, 2, none⟩ = some (.int .u32 c1) := kept lb20 (by repeat' (first | assumption | (simp; done) | apply keptD | apply keptA))
      have m20_3 : w20.cell? ⟨q, 0, none⟩ = some (.int .i64 a2) := kept lb20 (by repeat' (first | assumption | (simp; done) | apply keptD | apply keptA))
      have m20_4 : w20.cell? ⟨q, 1, none⟩ = some (.int .u32 b2) := kept lb20 (by repeat' (first | assumption | (simp; done) | apply keptD | apply keptA))
      have m20_5 : w20.cell? ⟨q, 2, none⟩ = some (.int .u32 c2) := kept lb20 (by repeat' (first | assumption | (simp; done) | apply keptD | apply keptA))
      have m20_6 : w20.cell? ⟨r, 0, none⟩ = some (.int .i64 a3) := kept lb20 (by repeat' (first | assumption | (simp; done) | apply keptD | apply keptA))
      have m20_7 : w20.cell? ⟨r, 1, none⟩ = some (.int .u32 b3) := kept lb20 (by repeat' (first | assumption | (simp; done) | apply keptD | apply keptA))
      have m20_8 : w20.cell? ⟨r, 2, none⟩ = some (.int .u32 c3) := kept lb20 (by repeat' (first | assumption | (simp; done) | apply keptD | apply keptA))
      clear lb20
      go_wp2_with fail
      refine (compare_any _ _ _ _ _ _ (by omega) (by omega) (by omega) (by omega) (by omega) (by omega) (by omega) (by omega) _).mono ?_
      rintro e w21 ⟨rfl, lb21⟩
      have lz21 := lb21.size
      (try simp at lz21)
      have lB21 : Below w.heap.size w w21 := via lb21 (by go_grown) (by go_size)
      have m21_0 : w21.cell? ⟨p, 0, none⟩ = some (.int .i64 a1) := kept lb21 (by repeat' (first | assumption | (simp; done) | apply keptD | apply keptA))
      have m21_1 : w21.cell? ⟨p, 1, none⟩ = some (.int .u32 b1) := kept lb21 (by repeat' (first | assumption | (simp; done) | apply keptD | apply keptA))
      have m21_2 : w21.cell? ⟨p, 2, none⟩ = some (.int .u32 c1) := kept lb21 (by repeat' (first | assumption | (simp; done) | apply keptD | apply keptA))
      have m21_3 : w21.cell? ⟨q, 0, none⟩ = some (.int .i64 a2) := kept lb21 (by repeat' (first | assumption | (simp; done) | apply keptD | apply keptA))
      have m21_4 : w21.cell? ⟨q, 1, none⟩ = some (.int .u32 b2) := kept lb21 (by repeat' (first | assumption | (simp; done) | apply keptD | apply keptA))
      have m21_5 : w21.cell? ⟨q, 2, none⟩ = some (.int .u32 c2) := kept lb21 (by repeat' (first | assumption | (simp; done) | apply keptD | apply keptA))
      have m21_6 : w21.cell? ⟨r, 0, none⟩ = some (.int .i64 a3) := kept lb21 (by repeat' (first | assumption | (simp; done) | apply keptD | apply keptA))
      have m21_7 : w21.cell? ⟨r, 1, none⟩ = some (.int .u32 b3) := kept lb21 (by repeat' (first | assumption | (simp; done) | apply keptD | apply keptA))
      have m21_8 : w21.cell? ⟨r, 2, none⟩ = some (.int .u32 c3) := kept lb21 (by repeat' (first | assumption | (simp; done) | apply keptD | apply keptA))
      clear lb21
      go_wp2_with fail
      refine (compare_any _ _ _ _ _ _ (by omega) (by omega) (by omega) (by omega) (by omega) (by omega) (by omega) (by omega) _).mono ?_
      rintro e w22 ⟨rfl, lb22⟩
      have lz22 := lb22.size
      (try simp at lz22)
      have lB22 : Below w.heap.size w w22 := via lb22 (by go_grown) (by go_size)
      have m22_0 : w22.cell? ⟨p, 0, none⟩ = some (.int .i64 a1) := kept lb22 (by repeat' (first | assumption | (simp; done) | apply keptD | apply keptA))
      have m22_1 : w22.cell? ⟨p, 1, none⟩ = some (.int .u32 b1) := kept lb22 (by repeat' (first | assumption | (simp; done) | apply keptD | apply keptA))
      have m22_2 : w22.cell? ⟨p, 2, none⟩ = some (.int .u32 c1) := kept lb22 (by repeat' (first | assumption | (simp; done) | apply keptD | apply keptA))
      have m22_3 : w22.cell? ⟨q, 0, none⟩ = some (.int .i64 a2) := kept lb22 (by repeat' (first | assumption | (simp; done) | apply keptD | apply keptA))
      have m22_4 : w22.cell? ⟨q, 1, none⟩ = some (.int .u32 b2) := kept lb22 (by repeat' (first | assumption | (simp; done) | apply keptD | apply keptA))
      have m22_5 : w22.cell? ⟨q, 2, none⟩ = some (.int .u32 c2) := kept lb22 (by repeat' (first | assumption | (simp; done) | apply keptD | apply keptA))
      have m22_6 : w22.cell? ⟨r, 0, none⟩ = some (.int .i64 a3) := kept lb22 (by repeat' (first | assumption | (simp; done) | apply keptD | apply keptA))
      have m22_7 : w22.cell? ⟨r, 1, none⟩ = some (.int .u32 b3) := kept lb22 (by repeat' (first | assumption | (simp; done) | apply keptD | apply keptA))
      have m22_8 : w22.cell? ⟨r, 2, none⟩ = some (.int .u32 c3) := kept lb22 (by repeat' (first | assumption | (simp; done) | apply keptD | apply keptA))
      clear lb22
      go_wp2_with fail
      refine (right_any _ _ _ _).mono ?_
      rintro e w30 ⟨rfl, lb30⟩
      have lz30 := lb30.size
      (try simp at lz30)
      have lB30 : Below w.heap.size w w30 := via lb30 (by go_grown) (by go_size)
      clear lb30
      go_wp2
      go_ret
      exact ⟨by first | rfl | exact ret_bool (by decide), by go_grown⟩

set_option maxHeartbeats 4000000 in
theorem line_mm (a1 b1 c1 a2 b2 c2 a3 b3 c3 : Int) (hb00 : 0 ≤ b1) (hb01 : b1 ≤ 4294967295) (hc00 : 0 ≤ c1) (hc01 : c1 ≤ 4294967295) (hb10 : 0 ≤ b2) (hb11 : b2 ≤ 4294967295) (hc10 : 0 ≤ c2) (hc11 : c2 ≤ 4294967295) (hb20 : 0 ≤ b3) (hb21 : b3 ≤ 4294967295) (hc20 : 0 ≤ c3) (hc21 : c3 ≤ 4294967295) (e12 : cmpS a1 b1 c1 a2 b2 c2 = -1) (e21 : cmpS a2 b2 c2 a1 b1 c1 = 1) (hdec : decide (a1 = a2 ∧ b1 = b2 ∧ c1 = c2) = false) (e23 : cmpS a2 b2 c2 a3 b3 c3 = -1) (d13 : decide (cmpS a1 b1 c1 a3 b3 c3 ≤ 0) = true) (w : World) :
    Calls Try.prog 4 #[.agg #[.int .i64 a1, .int .u32 b1, .int .u32 c1], .agg #[.int .i64 a2, .int .u32 b2, .int .u32 c2], .agg #[.int .i64 a3, .int .u32 b3, .int .u32 c3]] w fun e w' => e = .returned (.bool true) ∧ Below w.heap.size w w' := by
  have HB := Lib.hid (And.intro hb00 (And.intro hb01 (And.intro hc00 (And.intro hc01 (And.intro hb10 (And.intro hb11 (And.intro hc10 (And.intro hc11 (And.intro hb20 (And.intro hb21 (And.intro hc20 hc21)))))))))))
  clear hb00 hb01 hc00 hc01 hb10 hb11 hc10 hc11 hb20 hb21 hc20 hc21
  have He12 := Lib.hid e12
  clear e12
  have He21 := Lib.hid e21
  clear e21
  have Hhdec := Lib.hid hdec
  clear hdec
  have He23 := Lib.hid e23
  clear e23
  have Hd13 := Lib.hid d13
  clear d13
  go_enter Try.func4, Try.ntmps4
  go_wp2_with fail
  apply region_invA (Lets (Args3 w a1 b1 c1 a2 b2 c2 a3 b3 c3) (w.heap.size + 3) 6 3 (fun j => ([.agg #[.int .i64 a1, .int .u32 b1, .int .u32 c1], .agg #[.int .i64 a1, .int .u32 b1, .int .u32 c1], .agg #[.int .i64 a2, .int .u32 b2, .int .u32 c2], .agg #[.int .i64 a2, .int .u32 b2, .int .u32 c2], .agg #[.int .i64 a3, .int .u32 b3, .int .u32 c3], .agg #[.int .i64 a3, .int .u32 b3, .int .u32 c3]] : List Value).getD j undef) (fun j => ([(a1, b1, c1), (a2, b2, c2), (a3, b3, c3)] : List (Int × Int × Int)).getD j (0, 0, 0)))
  case hm => kernel_rfl
  case hf => kernel_rfl
  case hQ => exact (by intro c x y w e h; exact And.intro (e.symm.trans (And.left h)) (And.right h))
  case hF => intro vs; simp only [putAll, Act.put, List.setIfInBounds_toArray, List.set_cons_zero, List.set_cons_succ, Nat.reduceAdd]; rfl
  case h0 =>
    exact ⟨⟨⟨(by repeat' (first | (with_reducible assumption) | (simp; done) | (with_reducible apply keptD) | (simp [go_sem]; done) | (with_reducible apply keptA))), (by repeat' (first | (with_reducible assumption) | (simp; done) | (with_reducible apply keptD) | (simp [go_sem]; done) | (with_reducible apply keptA))), (by repeat' (first | (with_reducible assumption) | (simp; done) | (with_reducible apply keptD) | (simp [go_sem]; done) | (with_reducible apply keptA)))⟩, ⟨(by repeat' (first | (with_reducible assumption) | (simp; done) | (with_reducible apply keptD) | (simp [go_sem]; done) | (with_reducible apply keptA))), (by repeat' (first | (with_reducible assumption) | (simp; done) | (with_reducible apply keptD) | (simp [go_sem]; done) | (with_reducible apply keptA))), (by repeat' (first | (with_reducible assumption) | (simp; done) | (with_reducible apply keptD) | (simp [go_sem]; done) | (with_reducible apply keptA)))⟩, ⟨(by repeat' (first | (with_reducible assumption) | (simp; done) | (with_reducible apply keptD) | (simp [go_sem]; done) | (with_reducible apply keptA))), (by repeat' (first | (with_reducible assumption) | (simp; done) | (with_reducible apply keptD) | (simp [go_sem]; done) | (with_reducible apply keptA))), (by repeat' (first | (with_reducible assumption) | (simp; done) | (with_reducible apply keptD) | (simp [go_sem]; done) | (with_reducible apply keptA)))⟩, (by go_grown)⟩, (by simp), (fun j hj h => by cases h), (fun i hi h => by cases h), (fun i j hi hj hij h => by cases h), (fun i hi h => by cases h)⟩
  case hstep =>
    repeat' (first | exact AllOps.nil | apply AllOps.cons)
    · intro l vs wx hJ hl hd K hK
      have hS := hJ.s
      obtain ⟨⟨p0, p1, p2⟩, ⟨p3, p4, p5⟩, ⟨p6, p7, p8⟩, _⟩ := hS
      simp only [Act.put, List.setIfInBounds_toArray, List.set_cons_zero, List.set_cons_succ, Nat.reduceAdd] at hK ⊢
      have HK := Lib.hid hK
      have HJ := Lib.hid hJ
      clear hK hJ hd
      go_simp
      exact HK.out _ _ (HJ.out.value (by omega) rfl (Below.refl _ _) HJ.out.s)
    · intro l vs wx hJ hl hd K hK
      simp [depsOf, AllL, Region.binds, List.filterMap] at hd
      have e0 : vs 0 = .agg #[.int .i64 a1, .int .u32 b1, .int .u32 c1] := hJ.v 0 (by omega) (by first | exact hd | exact hd.1)
      simp only [Act.put, List.setIfInBounds_toArray, List.set_cons_zero, List.set_cons_succ, Nat.reduceAdd, e0] at hK ⊢
      have HK := Lib.hid hK
      have HJ := Lib.hid hJ
      clear hK hJ hd e0
      go_simp
      refine (to_any _ _ _ _).mono ?_
      rintro e w1 ⟨rfl, hb⟩
      exact HK.out _ _ (HJ.out.value (by omega) rfl hb (HJ.out.s.below hb))
    · intro l vs wx hJ hl hd K hK
      have hS := hJ.s
      obtain ⟨⟨p0, p1, p2⟩, ⟨p3, p4, p5⟩, ⟨p6, p7, p8⟩, _⟩ := hS
      simp only [Act.put, List.setIfInBounds_toArray, List.set_cons_zero, List.set_cons_succ, Nat.reduceAdd] at hK ⊢
      have HK := Lib.hid hK
      have HJ := Lib.hid hJ
      clear hK hJ hd
      go_simp
      exact HK.out _ _ (HJ.out.value (by omega) rfl (Below.refl _ _) HJ.out.s)
    · intro l vs wx hJ hl hd K hK
      simp [depsOf, AllL, Region.binds, List.filterMap] at hd
      have e0 : vs 2 = .agg #[.int .i64 a2, .int .u32 b2, .int .u32 c2] := hJ.v 2 (by omega) (by first | exact hd | exact hd.1)
      simp only [Act.put, List.setIfInBounds_toArray, List.set_cons_zero, List.set_cons_succ, Nat.reduceAdd, e0] at hK ⊢
      have HK := Lib.hid hK
      have HJ := Lib.hid hJ
      clear hK hJ hd e0
      go_simp
      refine (to_any _ _ _ _).mono ?_
      rintro e w1 ⟨rfl, hb⟩
      exact HK.out _ _ (HJ.out.value (by omega) rfl hb (HJ.out.s.below hb))
    · intro l vs wx hJ hl hd K hK
      have hS := hJ.s
      obtain ⟨⟨p0, p1, p2⟩, ⟨p3, p4, p5⟩, ⟨p6, p7, p8⟩, _⟩ := hS
      simp only [Act.put, List.setIfInBounds_toArray, List.set_cons_zero, List.set_cons_succ, Nat.reduceAdd] at hK ⊢
      have HK := Lib.hid hK
      have HJ := Lib.hid hJ
      clear hK hJ hd
      go_simp
      exact HK.out _ _ (HJ.out.value (by omega) rfl (Below.refl _ _) HJ.out.s)
    · intro l vs wx hJ hl hd K hK
      simp [depsOf, AllL, Region.binds, List.filterMap] at hd
      have e0 : vs 4 = .agg #[.int .i64 a3, .int .u32 b3, .int .u32 c3] := hJ.v 4 (by omega) (by first | exact hd | exact hd.1)
      simp only [Act.put, List.setIfInBounds_toArray, List.set_cons_zero, List.set_cons_succ, Nat.reduceAdd, e0] at hK ⊢
      have HK := Lib.hid hK
      have HJ := Lib.hid hJ
      clear hK hJ hd e0
      go_simp
      refine (to_any _ _ _ _).mono ?_
      rintro e w1 ⟨rfl, hb⟩
      exact HK.out _ _ (HJ.out.value (by omega) rfl hb (HJ.out.s.below hb))
    · intro l vs wx hJ hl hd K hK
      simp only [Act.put, List.setIfInBounds_toArray, List.set_cons_zero, List.set_cons_succ, Nat.reduceAdd] at hK ⊢
      have HK := Lib.hid hK
      have HJ := Lib.hid hJ
      have HL := Lib.hid hl
      clear hK hJ hd hl
      go_simp
      exact HK.out _ _ (HJ.out.made (i := 0) (by omega) HL.out (HJ.out.s.below ((Below.refl _ _).alloc (Nat.le_refl _) _)))
    · intro l vs wx hJ hl hd K hK
      simp only [Act.put, List.setIfInBounds_toArray, List.set_cons_zero, List.set_cons_succ, Nat.reduceAdd] at hK ⊢
      have HK := Lib.hid hK
      have HJ := Lib.hid hJ
      have HL := Lib.hid hl
      clear hK hJ hd hl
      go_simp
      exact HK.out _ _ (HJ.out.made (i := 1) (by omega) HL.out (HJ.out.s.below ((Below.refl _ _).alloc (Nat.le_refl _) _)))
    · intro l vs wx hJ hl hd K hK
      simp only [Act.put, List.setIfInBounds_toArray, List.set_cons_zero, List.set_cons_succ, Nat.reduceAdd] at hK ⊢
      have HK := Lib.hid hK
      have HJ := Lib.hid hJ
      have HL := Lib.hid hl
      clear hK hJ hd hl
      go_simp
      exact HK.out _ _ (HJ.out.made (i := 2) (by omega) HL.out (HJ.out.s.below ((Below.refl _ _).alloc (Nat.le_refl _) _)))
    · intro l vs wx hJ hl hd K hK
      simp [depsOf, AllL, Region.binds, List.filterMap] at hd
      have h6 : l 6 = true := by simp_all
      have h1 : l 1 = true := by simp_all
      have e1 : vs 1 = .agg #[.int .i64 a1, .int .u32 b1, .int .u32 c1] := hJ.v 1 (by omega) h1
      obtain ⟨b, e6, hNb, hbw, hR⟩ := hJ.p 0 (by omega) h6
      have e6' : vs 6 = .pointer (some ⟨b, 0, none⟩) := e6
      obtain ⟨u0, r0⟩ := Option.isSome_iff_exists.1 (hR 0 (by omega)).1
      obtain ⟨u1, r1⟩ := Option.isSome_iff_exists.1 (hR 1 (by omega)).1
      obtain ⟨u2, r2⟩ := Option.isSome_iff_exists.1 (hR 2 (by omega)).1
      have f0 := (hR 0 (by omega)).2
      have f1 := (hR 1 (by omega)).2
      have f2 := (hR 2 (by omega)).2
      simp only [Act.put, List.setIfInBounds_toArray, List.set_cons_zero, List.set_cons_succ, Nat.reduceAdd, e1, e6'] at hK ⊢
      have HK := Lib.hid hK
      have HJ := Lib.hid hJ
      have H6 := Lib.hid h6
      have E6 := Lib.hid e6
      have HN := Lib.hid hNb
      clear hK hJ hd e1 e6 e6' h1 h6 hl hNb hR hbw
      go_simp
      exact HK.out undef _ (HJ.out.stored (i := 0) (by omega) H6.out E6.out (HJ.out.s.store HN.out) _)
    · intro l vs wx hJ hl hd K hK
      simp [depsOf, AllL, Region.binds, List.filterMap] at hd
      have h6 : l 7 = true := by simp_all
      have h1 : l 3 = true := by simp_all
      have e1 : vs 3 = .agg #[.int .i64 a2, .int .u32 b2, .int .u32 c2] := hJ.v 3 (by omega) h1
      obtain ⟨b, e6, hNb, hbw, hR⟩ := hJ.p 1 (by omega) h6
      have e6' : vs 7 = .pointer (some ⟨b, 0, none⟩) := e6
      obtain ⟨u0, r0⟩ := Option.isSome_iff_exists.1 (hR 0 (by omega)).1
      obtain ⟨u1, r1⟩ := Option.isSome_iff_exists.1 (hR 1 (by omega)).1
      obtain ⟨u2, r2⟩ := Option.isSome_iff_exists.1 (hR 2 (by omega)).1
      have f0 := (hR 0 (by omega)).2
      have f1 := (hR 1 (by omega)).2
      have f2 := (hR 2 (by omega)).2
      simp only [Act.put, List.setIfInBounds_toArray, List.set_cons_zero, List.set_cons_succ, Nat.reduceAdd, e1, e6'] at hK ⊢
      have HK := Lib.hid hK
      have HJ := Lib.hid hJ
      have H6 := Lib.hid h6
      have E6 := Lib.hid e6
      have HN := Lib.hid hNb
      clear hK hJ hd e1 e6 e6' h1 h6 hl hNb hR hbw
      go_simp
      exact HK.out undef _ (HJ.out.stored (i := 1) (by omega) H6.out E6.out (HJ.out.s.store HN.out) _)
    · intro l vs wx hJ hl hd K hK
      simp [depsOf, AllL, Region.binds, List.filterMap] at hd
      have h6 : l 8 = true := by simp_all
      have h1 : l 5 = true := by simp_all
      have e1 : vs 5 = .agg #[.int .i64 a3, .int .u32 b3, .int .u32 c3] := hJ.v 5 (by omega) h1
      obtain ⟨b, e6, hNb, hbw, hR⟩ := hJ.p 2 (by omega) h6
      have e6' : vs 8 = .pointer (some ⟨b, 0, none⟩) := e6
      obtain ⟨u0, r0⟩ := Option.isSome_iff_exists.1 (hR 0 (by omega)).1
      obtain ⟨u1, r1⟩ := Option.isSome_iff_exists.1 (hR 1 (by omega)).1
      obtain ⟨u2, r2⟩ := Option.isSome_iff_exists.1 (hR 2 (by omega)).1
      have f0 := (hR 0 (by omega)).2
      have f1 := (hR 1 (by omega)).2
      have f2 := (hR 2 (by omega)).2
      simp only [Act.put, List.setIfInBounds_toArray, List.set_cons_zero, List.set_cons_succ, Nat.reduceAdd, e1, e6'] at hK ⊢
      have HK := Lib.hid hK
      have HJ := Lib.hid hJ
      have H6 := Lib.hid h6
      have E6 := Lib.hid e6
      have HN := Lib.hid hNb
      clear hK hJ hd e1 e6 e6' h1 h6 hl hNb hR hbw
      go_simp
      exact HK.out undef _ (HJ.out.stored (i := 2) (by omega) H6.out E6.out (HJ.out.s.store HN.out) _)
  case hend =>
    intro l vs wx hall hJ
    obtain ⟨p, ep, _, _, _⟩ := hJ.p 0 (by omega) (hall 6 (by decide))
    obtain ⟨q, eq, _, _, _⟩ := hJ.p 1 (by omega) (hall 7 (by decide))
    obtain ⟨r, er, _, _, _⟩ := hJ.p 2 (by omega) (hall 8 (by decide))
    have ep' : vs 6 = .pointer (some ⟨p, 0, none⟩) := ep
    have eq' : vs 7 = .pointer (some ⟨q, 0, none⟩) := eq
    have er' : vs 8 = .pointer (some ⟨r, 0, none⟩) := er
    obtain ⟨p0, p1, p2⟩ := (hJ.h 0 (by omega) (hall 9 (by decide))).2 p ep
    obtain ⟨q0, q1, q2⟩ := (hJ.h 1 (by omega) (hall 10 (by decide))).2 q eq
    obtain ⟨r0, r1, r2⟩ := (hJ.h 2 (by omega) (hall 11 (by decide))).2 r er
    have hB := hJ.s.2.2.2
    simp only [ep', eq', er']
    obtain ⟨hb00, hb01, hc00, hc01, hb10, hb11, hc10, hc11, hb20, hb21, hc20, hc21⟩ := HB.out
    have e12 := He12.out
    have e21 := He21.out
    have hdec := Hhdec.out
    have e23 := He23.out
    have d13 := Hd13.out
    clear hJ ep eq er ep' eq' er' hall
    (try dsimp only at p0 p1 p2 q0 q1 q2 r0 r1 r2)
    go_wp2_with fail
    apply region_vals (fun w' => w'.cell? ⟨p, 0, none⟩ = some (.int .i64 a1) ∧ w'.cell? ⟨p, 1, none⟩ = some (.int .u32 b1) ∧ w'.cell? ⟨p, 2, none⟩ = some (.int .u32 c1) ∧ w'.cell? ⟨q, 0, none⟩ = some (.int .i64 a2) ∧ w'.cell? ⟨q, 1, none⟩ = some (.int .u32 b2) ∧ w'.cell? ⟨q, 2, none⟩ = some (.int .u32 c2) ∧ w'.cell? ⟨r, 0, none⟩ = some (.int .i64 a3) ∧ w'.cell? ⟨r, 1, none⟩ = some (.int .u32 b3) ∧ w'.cell? ⟨r, 2, none⟩ = some (.int .u32 c3) ∧ Below w.heap.size w w') [.agg #[.int .i64 a1, .int .u32 b1, .int .u32 c1], .agg #[.int .i64 a2, .int .u32 b2, .int .u32 c2], .int .i64 (-1), .agg #[.int .i64 a2, .int .u32 b2, .int .u32 c2], .agg #[.int .i64 a1, .int .u32 b1, .int .u32 c1], .int .i64 1, .int .i64 (-1), .bool false, .bool false, .agg #[.int .i64 a1, .int .u32 b1, .int .u32 c1], .agg #[.int .i64 a2, .int .u32 b2, .int .u32 c2], .int .i64 (-1), .bool false, .agg #[.int .i64 a1, .int .u32 b1, .int .u32 c1], .agg #[.int .i64 a2, .int .u32 b2, .int .u32 c2], .bool false, .bool false, .bool false]
    case hm => kernel_rfl
    case hf => kernel_rfl
    case hQ => exact (by intro c x y w e h; exact And.intro (e.symm.trans (And.left h)) (And.right h))
    case hF => simp only [putAll, Act.put, List.setIfInBounds_toArray, List.set_cons_zero, List.set_cons_succ, Nat.reduceAdd, List.getD_cons_zero, List.getD_cons_succ]; rfl
    case h0 => (((try dsimp only); go_split_ands; (repeat' apply And.intro) <;> first | assumption | (apply kept; assumption; assumption) | (apply via; assumption; assumption; apply Below.size; assumption) | (go_grown; done) | (repeat' first | assumption | (simp; done) | apply keptD | apply keptA | (apply kept; assumption))))
    case hstep =>
      repeat' (first | exact AllOps.nil | apply AllOps.cons)
      all_goals
        intro wx hS K hK
        simp only [Act.put, List.setIfInBounds_toArray, List.set_cons_zero, List.set_cons_succ, Nat.reduceAdd, List.getD_cons_zero, List.getD_cons_succ] at hK ⊢
        have HK := Lib.hid hK
        have HS := Lib.hid hS
        clear hK
        go_split_ands
        first
          | (rw [if_pos (by rfl)]; refine eq_st rfl rfl ?_; (simp only [Act.put, List.setIfInBounds_toArray, List.set_cons_zero, List.set_cons_succ]); refine HK.out _ _ ?_ HS.out; rw [hdec])
          | (go_simp; (first | (refine HK.out _ _ ?_ ?_; (first | rfl | (first | rw [e12] | rw [e21])); exact HS.out) | (go_at_call 14; refine (compare_any _ _ _ _ _ _ (by omega) (by omega) (by omega) (by omega) (by omega) (by omega) (by omega) (by omega) _).mono ?_; rintro e w1 ⟨rfl, hb⟩; refine HK.out _ _ ?_ ?_; (first | rfl | (first | rw [e12] | rw [e21])); (((try dsimp only); go_split_ands; (repeat' apply And.intro) <;> first | assumption | (apply kept; assumption; assumption) | (apply via; assumption; assumption; apply Below.size; assumption) | (go_grown; done) | (repeat' first | assumption | (simp; done) | apply keptD | apply keptA | (apply kept; assumption))))) | fail))
    case hend =>
      intro wx hS
      go_split_ands
      have hzx : w.heap.size ≤ wx.heap.size := Below.size (by assumption)
      go_wp2_with fail
      refine (compare_any _ _ _ _ _ _ (by omega) (by omega) (by omega) (by omega) (by omega) (by omega) (by omega) (by omega) _).mono ?_
      rintro e w20 ⟨rfl, lb20⟩
      have lz20 := lb20.size
      (try simp at lz20)
      have lB20 : Below w.heap.size w w20 := via lb20 (by go_grown) (by go_size)
      have m20_0 : w20.cell? ⟨p, 0, none⟩ = some (.int .i64 a1) := kept lb20 (by repeat' (first | assumption | (simp; done) | apply keptD | apply keptA))
      have m20_1 : w20.cell? ⟨p, 1, none⟩ = some (.int .u32 b1) := kept lb20 (by repeat' (first | assumption | (simp; done) | apply keptD | apply keptA))
      have m20_2 : w20.cell? ⟨p, 2, none⟩ = some (.int .u32 c1) := kept lb20 (by repeat' (first | assumption | (simp; done) | apply keptD | apply keptA))
      have m20_3 : w20.cell? ⟨q, 0, none⟩ = some (.int .i64 a2) := kept lb20 (by repeat' (first | assumption | (simp; done) | apply keptD | apply keptA))
      have m20_4 : w20.cell? ⟨q, 1, none⟩ = some (.int .u32 b2) := kept lb20 (by repeat' (first | assumption | (simp; done) | apply keptD | apply keptA))
      have m20_5 : w20.cell? ⟨q, 2, none⟩ = some (.int .u32 c2) := kept lb20 (by repeat' (first | assumption | (simp; done) | apply keptD | apply keptA))
      have m20_6 : w20.cell? ⟨r, 0, none⟩ = some (.int .i64 a3) := kept lb20 (by repeat' (first | assumption | (simp; done) | apply keptD | apply keptA))
      have m20_7 : w20.cell? ⟨r, 1, none⟩ = some (.int .u32 b3) := kept lb20 (by repeat' (first | assumption | (simp; done) | apply keptD | apply keptA))
      have m20_8 : w20.cell? ⟨r, 2, none⟩ = some (.int .u32 c3) := kept lb20 (by repeat' (first | assumption | (simp; done) | apply keptD | apply keptA))
      clear lb20
      go_wp2_with fail
      refine (compare_any _ _ _ _ _ _ (by omega) (by omega) (by omega) (by omega) (by omega) (by omega) (by omega) (by omega) _).mono ?_
      rintro e w21 ⟨rfl, lb21⟩
      have lz21 := lb21.size
      (try simp at lz21)
      have lB21 : Below w.heap.size w w21 := via lb21 (by go_grown) (by go_size)
      have m21_0 : w21.cell? ⟨p, 0, none⟩ = some (.int .i64 a1) := kept lb21 (by repeat' (first | assumption | (simp; done) | apply keptD | apply keptA))
      have m21_1 : w21.cell? ⟨p, 1, none⟩ = some (.int .u32 b1) := kept lb21 (by repeat' (first | assumption | (simp; done) | apply keptD | apply keptA))
      have m21_2 : w21.cell? ⟨p, 2, none⟩ = some (.int .u32 c1) := kept lb21 (by repeat' (first | assumption | (simp; done) | apply keptD | apply keptA))
      have m21_3 : w21.cell? ⟨q, 0, none⟩ = some (.int .i64 a2) := kept lb21 (by repeat' (first | assumption | (simp; done) | apply keptD | apply keptA))
      have m21_4 : w21.cell? ⟨q, 1, none⟩ = some (.int .u32 b2) := kept lb21 (by repeat' (first | assumption | (simp; done) | apply keptD | apply keptA))
      have m21_5 : w21.cell? ⟨q, 2, none⟩ = some (.int .u32 c2) := kept lb21 (by repeat' (first | assumption | (simp; done) | apply keptD | apply keptA))
      have m21_6 : w21.cell? ⟨r, 0, none⟩ = some (.int .i64 a3) := kept lb21 (by repeat' (first | assumption | (simp; done) | apply keptD | apply keptA))
      have m21_7 : w21.cell? ⟨r, 1, none⟩ = some (.int .u32 b3) := kept lb21 (by repeat' (first | assumption | (simp; done) | apply keptD | apply keptA))
      have m21_8 : w21.cell? ⟨r, 2, none⟩ = some (.int .u32 c3) := kept lb21 (by repeat' (first | assumption | (simp; done) | apply keptD | apply keptA))
      clear lb21
      go_wp2_with fail
      refine (compare_any _ _ _ _ _ _ (by omega) (by omega) (by omega) (by omega) (by omega) (by omega) (by omega) (by omega) _).mono ?_
      rintro e w22 ⟨rfl, lb22⟩
      have lz22 := lb22.size
      (try simp at lz22)
      have lB22 : Below w.heap.size w w22 := via lb22 (by go_grown) (by go_size)
      have m22_0 : w22.cell? ⟨p, 0, none⟩ = some (.int .i64 a1) := kept lb22 (by repeat' (first | assumption | (simp; done) | apply keptD | apply keptA))
      have m22_1 : w22.cell? ⟨p, 1, none⟩ = some (.int .u32 b1) := kept lb22 (by repeat' (first | assumption | (simp; done) | apply keptD | apply keptA))
      have m22_2 : w22.cell? ⟨p, 2, none⟩ = some (.int .u32 c1) := kept lb22 (by repeat' (first | assumption | (simp; done) | apply keptD | apply keptA))
      have m22_3 : w22.cell? ⟨q, 0, none⟩ = some (.int .i64 a2) := kept lb22 (by repeat' (first | assumption | (simp; done) | apply keptD | apply keptA))
      have m22_4 : w22.cell? ⟨q, 1, none⟩ = some (.int .u32 b2) := kept lb22 (by repeat' (first | assumption | (simp; done) | apply keptD | apply keptA))
      have m22_5 : w22.cell? ⟨q, 2, none⟩ = some (.int .u32 c2) := kept lb22 (by repeat' (first | assumption | (simp; done) | apply keptD | apply keptA))
      have m22_6 : w22.cell? ⟨r, 0, none⟩ = some (.int .i64 a3) := kept lb22 (by repeat' (first | assumption | (simp; done) | apply keptD | apply keptA))
      have m22_7 : w22.cell? ⟨r, 1, none⟩ = some (.int .u32 b3) := kept lb22 (by repeat' (first | assumption | (simp; done) | apply keptD | apply keptA))
      have m22_8 : w22.cell? ⟨r, 2, none⟩ = some (.int .u32 c3) := kept lb22 (by repeat' (first | assumption | (simp; done) | apply keptD | apply keptA))
      clear lb22
      go_wp2_with fail
      refine (right_any _ _ _ _).mono ?_
      rintro e w30 ⟨rfl, lb30⟩
      have lz30 := lb30.size
      (try simp at lz30)
      have lB30 : Below w.heap.size w w30 := via lb30 (by go_grown) (by go_size)
      clear lb30
      go_wp2
      go_ret
      exact ⟨by first | rfl | exact ret_bool (by decide), by go_grown⟩

theorem line_any (a1 b1 c1 a2 b2 c2 a3 b3 c3 : Int) (hb00 : 0 ≤ b1) (hb01 : b1 ≤ 4294967295) (hc00 : 0 ≤ c1) (hc01 : c1 ≤ 4294967295) (hb10 : 0 ≤ b2) (hb11 : b2 ≤ 4294967295) (hc10 : 0 ≤ c2) (hc11 : c2 ≤ 4294967295) (hb20 : 0 ≤ b3) (hb21 : b3 ≤ 4294967295) (hc20 : 0 ≤ c3) (hc21 : c3 ≤ 4294967295) (w : World) :
    Calls Try.prog 4 #[.agg #[.int .i64 a1, .int .u32 b1, .int .u32 c1], .agg #[.int .i64 a2, .int .u32 b2, .int .u32 c2], .agg #[.int .i64 a3, .int .u32 b3, .int .u32 c3]] w fun e w' => e = .returned (.bool true) ∧ Below w.heap.size w w' := by
  have q12 := cmpS_cases a1 b1 c1 a2 b2 c2
  have q21 := cmpS_cases a2 b2 c2 a1 b1 c1
  have q23 := cmpS_cases a2 b2 c2 a3 b3 c3
  have q13 := cmpS_cases a1 b1 c1 a3 b3 c3
  rcases q12 with ⟨e12, h12⟩ | ⟨e12, h12⟩ | ⟨e12, h12⟩
  · have e21 : cmpS a2 b2 c2 a1 b1 c1 = 1 := by omega
    have hd : decide (a1 = a2 ∧ b1 = b2 ∧ c1 = c2) = false := by apply decide_eq_false; omega
    rcases q23 with ⟨e23, h23⟩ | ⟨e23, h23⟩ | ⟨e23, h23⟩
    · exact line_mm a1 b1 c1 a2 b2 c2 a3 b3 c3 hb00 hb01 hc00 hc01 hb10 hb11 hc10 hc11 hb20 hb21 hc20 hc21 e12 e21 hd e23 (by apply decide_eq_true; omega) w
    · exact line_mp a1 b1 c1 a2 b2 c2 a3 b3 c3 hb00 hb01 hc00 hc01 hb10 hb11 hc10 hc11 hb20 hb21 hc20 hc21 e12 e21 hd e23 w
    · exact line_mz a1 b1 c1 a2 b2 c2 a3 b3 c3 hb00 hb01 hc00 hc01 hb10 hb11 hc10 hc11 hb20 hb21 hc20 hc21 e12 e21 hd e23 (by apply decide_eq_true; omega) w
  · have e21 : cmpS a2 b2 c2 a1 b1 c1 = -1 := by omega
    have hd : decide (a1 = a2 ∧ b1 = b2 ∧ c1 = c2) = false := by apply decide_eq_false; omega
    exact line_a a1 b1 c1 a2 b2 c2 a3 b3 c3 hb00 hb01 hc00 hc01 hb10 hb11 hc10 hc11 hb20 hb21 hc20 hc21 e12 e21 hd w
  · have e21 : cmpS a2 b2 c2 a1 b1 c1 = 0 := by omega
    have hd : decide (a1 = a2 ∧ b1 = b2 ∧ c1 = c2) = true := by apply decide_eq_true; omega
    rcases q23 with ⟨e23, h23⟩ | ⟨e23, h23⟩ | ⟨e23, h23⟩
    · exact line_zm a1 b1 c1 a2 b2 c2 a3 b3 c3 hb00 hb01 hc00 hc01 hb10 hb11 hc10 hc11 hb20 hb21 hc20 hc21 e12 e21 hd e23 (by apply decide_eq_true; omega) w
    · exact line_zp a1 b1 c1 a2 b2 c2 a3 b3 c3 hb00 hb01 hc00 hc01 hb10 hb11 hc10 hc11 hb20 hb21 hc20 hc21 e12 e21 hd e23 w
    · exact line_zz a1 b1 c1 a2 b2 c2 a3 b3 c3 hb00 hb01 hc00 hc01 hb10 hb11 hc10 hc11 hb20 hb21 hc20 hc21 e12 e21 hd e23 (by apply decide_eq_true; omega) w

end Go.Proofs.Yteibigiehpkdjaa
