/- The law WalPlays: its walk. -/
import Derived.Test.YtkkaehaoahpibaaPk23
import Derived.Test.YtkkaehaoahpibaaPk2
import Derived.Deep.CutBlock
namespace Go.Proofs.Ytkkaehaoahpibaa
open Go.RowKit Go.BigFrame

/-- Only new memory since. -/
def Gy (w wx : World) : Prop := Below w.heap.size w wx
theorem Gy.below {w wx wy : World} (h : Gy w wx) (hb : Below wx.heap.size wx wy) : Gy w wy := Below.trans h (hb.mono (Below.size h))
theorem Lz.isB {w W : World} {d m : Nat} {wv rv : Value} (Z : Lz w d m wv rv W) : Calls Try.prog 11 #[dP d, rP m] W fun e w' => e = .returned (.bool true) ∧ Below W.heap.size W w' := by
  obtain ⟨a, B, C, D, R, h1, h2, h3, b, h⟩ := Z
  exact is_any D R
set_option maxRecDepth 100000 in
set_option maxHeartbeats 6400000 in
theorem wplays_any (x : Int) (A : Option Addr) (cap : Nat) (bs : List Op7) (A9 : Option Addr) (cap9 : Nat) (os : List Op9) (w : World) (hb : Os7 w w.heap.size A cap bs) (hkb : ∀ o ∈ bs, o.ks.length * 8 ≤ 140737488351232) (ho : Os9 w w.heap.size A9 cap9 os) (hks : ∀ o ∈ os, o.ks.length * 8 ≤ 140737488351232) : Calls Try.prog 3 #[.int .i64 x, .slice A bs.length cap, .slice A9 os.length cap9] w (Ok0 w) := by
  have HB := Lib.hid hb
  have HO := Lib.hid ho
  have HKB := Lib.hid hkb
  have HKS := Lib.hid hks
  have hbl := hb.le
  have hbm := hb.max
  have hol := ho.le
  have hom := ho.max
  unfold maxLen at hbm hom
  clear hb ho hkb hks
  go_enter Try.func3, Try.ntmps3
  go_wp2_with fail
  refine (wawake_any w).mono ?_
  rintro e w1 ⟨rfl, b1⟩
  have HB1 := Lib.hid b1
  have hz1 := b1.size
  clear b1
  obtain ⟨R, hR⟩ : ∃ R, wrap64 ((IntKind.u64.wrap x).tmod 9000) = R := ⟨_, rfl⟩
  have hR1 : 0 ≤ R ∧ R ≤ 9000 := by
    have h1 : 0 ≤ IntKind.u64.wrap x := by unfold IntKind.wrap; simp [IntKind.signed, IntKind.bits]; omega
    have h2 := Int.tmod_nonneg 9000 h1
    have h3 := Int.tmod_lt_of_pos (IntKind.u64.wrap x) (show (0 : Int) < 9000 by decide)
    have h4 : wrap64 ((IntKind.u64.wrap x).tmod 9000) = (IntKind.u64.wrap x).tmod 9000 := by unfold wrap64; omega
    omega
  have HR := Lib.hid hR
  have HR1 := Lib.hid hR1
  clear hR hR1
  go_wp2_with (rw [HR.out]; have r0 := HR1.out; clear r0; refine (new_DD R (by have := HR1.out; omega) (by have := HR1.out; omega) w1).mono ?_; rintro e w2 ⟨rfl, ⟨B, D2, hB⟩, b2⟩; have HD2 := Lib.hid D2; have HBb := Lib.hid hB; have HB2 := Lib.hid b2; have hz2 := b2.size; clear D2 hB b2)
  refine (rnew_RD R w2).mono ?_
  rintro e w3 ⟨rfl, ⟨C, R3, hC⟩, b3⟩
  have HZ : Hid (Dz w (w1.heap.size + 1) w2.heap.size w3) := Lib.hid ⟨_, B, C, HD2.out.below b3, R3, fun k hk => Nat.le_trans hz1 (HBb.out k hk), fun k hk => Nat.le_trans hz1 (Nat.le_trans hz2 (hC k hk)), fun k hk hc => by
    have h1 := HD2.out.bt k hk
    have h2 := hC k hc
    omega, HB1.out.trans ((HB2.out.trans (b3.mono hz2)).mono hz1)⟩
  clear R3 hC b3 HD2 HBb HB2 HB1 HR HR1
  generalize w1.heap.size + 1 = d at HZ ⊢
  generalize w2.heap.size = m at HZ hz2 ⊢
  clear hz1 hz2
  go_upto_block 0 with fail
  go_cut [] from 35 to 63 (fun wr => Dz w d m wr)
  case first =>
    go_wp2_with fail
    go_loopw [35] (fun iv wr => ∃ i : Nat, iv = .int .i64 (i : Int) ∧ i ≤ bs.length ∧ Hid (Dz w d m wr)) (fun iv _ => bs.length - (intOf iv).toNat)
    case atStart => exact ⟨0, rfl, Nat.zero_le _, HZ⟩
    case round =>
      obtain ⟨i, rfl, hi, Z⟩ := hrel
      rename World => W0
      clear HZ
      by_cases hlt : i < bs.length
      · obtain ⟨ad, A1, c1, A2, c2, hA, X⟩ := HB.out.get (List.getElem?_eq_getElem hlt)
        subst hA
        have hk0 := HKB.out bs[i] (List.getElem_mem hlt)
        generalize bs[i] = o at X hk0
        have x0 := (Z.out.bel.cell X.lt).trans X.x0
        have x1 := (Z.out.bel.cell (p := ⟨_, _, none⟩) X.lt).trans X.x1
        have x2 := (Z.out.bel.cell (p := ⟨_, _, none⟩) X.lt).trans X.x2
        have x3 := (Z.out.bel.cell (p := ⟨_, _, none⟩) X.lt).trans X.x3
        have hpl := X.bs.le
        have hpm := X.bs.max
        unfold maxLen at hpm
        have i0 : 0 ≤ (i : Int) := by omega
        have i1 : (i : Int) < bs.length := by omega
        have n1 := X.n1
        have n2 := X.n2
        have HX := Lib.hid X
        have HKO := Lib.hid hk0
        clear X hk0
        have HZX := Lib.hid (Z.out.below ((Below.refl _ _).alloc (Nat.le_refl _) (.cells #[.int .i64 o.k, .int .i64 o.n, .slice A1 o.p.length c1, .slice A2 o.ks.length c2] 35)))
        by_cases hst : (12 ≤ i ∨ 1000 < o.p.length) ∨ (o.k = 3 ∨ 1099511627776 < o.n)
        · have q : (decide ((12 : Int) ≤ (i : Int)) = true) ∨ (decide ((12 : Int) ≤ (i : Int)) = false ∧ decide ((1000 : Int) < (o.p.length : Int)) = true) ∨ (decide ((12 : Int) ≤ (i : Int)) = false ∧ decide ((1000 : Int) < (o.p.length : Int)) = false ∧ (o.k == 3) = true) ∨ (decide ((12 : Int) ≤ (i : Int)) = false ∧ decide ((1000 : Int) < (o.p.length : Int)) = false ∧ (o.k == 3) = false ∧ decide (1099511627776 < o.n) = true) := by
            simp only [decide_eq_true_eq, decide_eq_false_iff_not, beq_iff_eq, beq_eq_false_iff_ne, ne_eq]
            omega
          clear hst
          rcases q with q | ⟨q, q2⟩ | ⟨q, q2, q3⟩ | ⟨q, q2, q3, q4⟩
          all_goals
            go_wp2_with fail
            go_meet
            case rel => exact HZX.out.below (Below.refl _ _)
        · have q1 : decide ((12 : Int) ≤ (i : Int)) = false := by simp; omega
          have q2 : decide ((1000 : Int) < (o.p.length : Int)) = false := by simp; omega
          have q3 : (o.k == 3) = false := by simp; omega
          have q4 : decide (1099511627776 < o.n) = false := by simp; omega
          have HP : Hid (o.p.length ≤ 3000) := Lib.hid (by omega)
          clear hst
          go_wp2_with fail
          refine (HZX.out.does (o := o) HX.out.n1 HX.out.n2 HX.out.bs HP.out HX.out.sr (by have := HKO.out; omega)).mono ?_
          rintro e W2 ⟨rfl, Z2⟩
          have HZ2 := Lib.hid Z2
          clear Z2
          go_wp2_with fail
          go_roundw
          case rel => exact ⟨i + 1, by go_num, hlt, HZ2⟩
          case measure => simp [intOf]; omega
      · have i1 : ¬ (i : Int) < bs.length := by omega
        go_wp2_with fail
        go_meet
        case rel => exact Z.out
  case rest =>
    rename World => W0
    obtain ⟨a, a', r, s, hrs, hs, hL, hn, hc⟩ := Dz.popen hcut
    have HRS := Lib.hid hrs
    have HSS := Lib.hid hs
    have HLM := Lib.hid hL
    have HNN := Lib.hid hn
    have HPO := Lib.hid hc
    clear hrs hs hL hn hc hcut HZ
    go_wp2_with fail
    refine HPO.out.mono ?_
    rintro e W1 ⟨wv, bv9, lv, rfl, M⟩
    have HM := Lib.hid M
    clear M
    go_wp2_with fail
    refine (HM.out.ropen HRS.out HSS.out HLM.out HNN.out).mono ?_
    rintro e W2 ⟨rv, rfl, O⟩
    have HZ := Lib.hid O.1
    have hO := O.2
    have HIS : Hid (∀ wx, Gy W2 wx → Calls Try.prog 11 #[dP d, rP m] wx fun e w' => e = .returned (.bool true) ∧ Below wx.heap.size wx w') := Lib.hid fun wx h => (HZ.out.below h).isB
    clear O HM HPO HRS HSS HLM HNN
    go_upto_region 15 with fail
    go_cut [114] from 76 to 114 (fun u wx => u = .bool false ∧ Lz w d m wv rv wx)
    case first =>
      rcases hO with ⟨hr, rfl, rfl⟩ | ⟨rfl, p, q, s9, base, rs, A1, c1, A2, c2, A3, c3, A4, c4, rfl, rfl, rfl, rfl, hq, hb1, hb3, hr2, hr4⟩
      · go_wp2_with fail
        apply region_V (Hb W2) (Gy W2) [.inl (.int .i64 r), .inl (.int .i64 r), .inl (.bool false), .inl (.bool false), .inl (.pointer none), .inl (.bool true), .inl (.pointer none), .inl (.bool true), .inl (.bool false), .inl (.bool false), .inl (.bool false), .inl (.pointer none), .inl (.bool false), .inl (.bool false), .inl (undef), .inl (undef), .inl (undef), .inl (undef), .inl (undef), .inl (undef), .inl (undef), .inl (undef), .inl (undef), .inl (undef), .inl (undef), .inl (undef), .inl (undef), .inl (undef), .inl (undef), .inl (undef), .inl (undef), .inl (.bool false), .inl (.bool false), .inl (.bool false), .inl (dP d), .inl (rP m), .inl (.bool true), .inl (.bool false), .inl (.bool false)] (.inl undef)
        case mono => exact fun p v w w1 h hb => Hb.mono h hb
        case hm => kernel_rfl
        case hf => kernel_rfl
        case hQ => exact (by intro c x y w e h; exact And.intro (e.symm.trans (And.left h)) (And.right h))
        case hF => intro vs; simp only [putAll, Act.put, List.setIfInBounds_toArray, List.set_cons_zero, List.set_cons_succ, Nat.reduceAdd]; rfl
        case h0 => exact ⟨rfl, rfl, rfl, Nat.le_refl _, fun _ _ => rfl⟩
        case hstep =>
          repeat' (first | exact AllOps.nil | apply AllOps.cons)
          · intro vs wx hG hd K hK
            replace hK : ∀ (uu : Value) (w' : World), Below wx.heap.size wx w' → ((Gy W2)) w' → (Hb W2) (.inl (.int .i64 r)) uu w' → K _ w' := hK
            simp only [Act.put, List.setIfInBounds_toArray, List.set_cons_zero, List.set_cons_succ] at hK ⊢
            have HK := Lib.hid hK
            have HG := Lib.hid hG
            clear hK hd
            clear hG
            go_simp
            exact HK.out _ _ (Below.refl _ _) HG.out rfl
          · intro vs wx hG hd K hK
            replace hK : ∀ (uu : Value) (w' : World), Below wx.heap.size wx w' → ((Gy W2)) w' → (Hb W2) (.inl (.int .i64 r)) uu w' → K _ w' := hK
            simp only [Act.put, List.setIfInBounds_toArray, List.set_cons_zero, List.set_cons_succ] at hK ⊢
            have HK := Lib.hid hK
            have HG := Lib.hid hG
            clear hK hd
            clear hG
            go_simp
            exact HK.out _ _ (Below.refl _ _) HG.out rfl
          · intro vs wx hG hd K hK
            have e0 : vs 0 = .int .i64 r := hd.get (j := 0) (by simp [depsOf, Region.binds])
            have e1 : vs 1 = .int .i64 r := hd.get (j := 1) (by simp [depsOf, Region.binds])
            replace hK : ∀ (uu : Value) (w' : World), Below wx.heap.size wx w' → ((Gy W2)) w' → (Hb W2) (.inl (.bool false)) uu w' → K _ w' := hK
            simp only [Act.put, List.setIfInBounds_toArray, List.set_cons_zero, List.set_cons_succ, e0, e1] at hK ⊢
            have HK := Lib.hid hK
            have HG := Lib.hid hG
            clear hK hd e0 e1
            clear hG
            go_simp
            exact HK.out _ _ (Below.refl _ _) HG.out rfl
          · intro vs wx hG hd K hK
            have e2 : vs 2 = .bool false := hd.get (j := 2) (by simp [depsOf, Region.binds])
            replace hK : ∀ (uu : Value) (w' : World), Below wx.heap.size wx w' → ((Gy W2)) w' → (Hb W2) (.inl (.bool false)) uu w' → K _ w' := hK
            simp only [Act.put, List.setIfInBounds_toArray, List.set_cons_zero, List.set_cons_succ, e2] at hK ⊢
            have HK := Lib.hid hK
            have HG := Lib.hid hG
            clear hK hd e2
            clear hG
            go_simp
            exact HK.out _ _ (Below.refl _ _) HG.out rfl
          · intro vs wx hG hd K hK
            have e3 : vs 3 = .bool false := hd.get (j := 3) (by simp [depsOf, Region.binds])
            replace hK : ∀ (uu : Value) (w' : World), Below wx.heap.size wx w' → ((Gy W2)) w' → (Hb W2) (.inl (.pointer none)) uu w' → K _ w' := hK
            simp only [Act.put, List.setIfInBounds_toArray, List.set_cons_zero, List.set_cons_succ, e3] at hK ⊢
            have HK := Lib.hid hK
            have HG := Lib.hid hG
            clear hK hd e3
            clear hG
            go_simp
            exact HK.out _ _ (Below.refl _ _) HG.out rfl
          · intro vs wx hG hd K hK
            have e3 : vs 3 = .bool false := hd.get (j := 3) (by simp [depsOf, Region.binds])
            have e4 : vs 4 = .pointer none := hd.get (j := 4) (by simp [depsOf, Region.binds])
            replace hK : ∀ (uu : Value) (w' : World), Below wx.heap.size wx w' → ((Gy W2)) w' → (Hb W2) (.inl (.bool true)) uu w' → K _ w' := hK
            simp only [Act.put, List.setIfInBounds_toArray, List.set_cons_zero, List.set_cons_succ, e3, e4] at hK ⊢
            have HK := Lib.hid hK
            have HG := Lib.hid hG
            clear hK hd e3 e4
            clear hG
            go_simp
            exact HK.out _ _ (Below.refl _ _) HG.out rfl
          · intro vs wx hG hd K hK
            have e3 : vs 3 = .bool false := hd.get (j := 3) (by simp [depsOf, Region.binds])
            replace hK : ∀ (uu : Value) (w' : World), Below wx.heap.size wx w' → ((Gy W2)) w' → (Hb W2) (.inl (.pointer none)) uu w' → K _ w' := hK
            simp only [Act.put, List.setIfInBounds_toArray, List.set_cons_zero, List.set_cons_succ, e3] at hK ⊢
            have HK := Lib.hid hK
            have HG := Lib.hid hG
            clear hK hd e3
            clear hG
            go_simp
            exact HK.out _ _ (Below.refl _ _) HG.out rfl
          · intro vs wx hG hd K hK
            have e3 : vs 3 = .bool false := hd.get (j := 3) (by simp [depsOf, Region.binds])
            have e6 : vs 6 = .pointer none := hd.get (j := 6) (by simp [depsOf, Region.binds])
            replace hK : ∀ (uu : Value) (w' : World), Below wx.heap.size wx w' → ((Gy W2)) w' → (Hb W2) (.inl (.bool true)) uu w' → K _ w' := hK
            simp only [Act.put, List.setIfInBounds_toArray, List.set_cons_zero, List.set_cons_succ, e3, e6] at hK ⊢
            have HK := Lib.hid hK
            have HG := Lib.hid hG
            clear hK hd e3 e6
            clear hG
            go_simp
            exact HK.out _ _ (Below.refl _ _) HG.out rfl
          · intro vs wx hG hd K hK
            have e3 : vs 3 = .bool false := hd.get (j := 3) (by simp [depsOf, Region.binds])
            have e5 : vs 5 = .bool true := hd.get (j := 5) (by simp [depsOf, Region.binds])
            have e7 : vs 7 = .bool true := hd.get (j := 7) (by simp [depsOf, Region.binds])
            replace hK : ∀ (uu : Value) (w' : World), Below wx.heap.size wx w' → ((Gy W2)) w' → (Hb W2) (.inl (.bool false)) uu w' → K _ w' := hK
            simp only [Act.put, List.setIfInBounds_toArray, List.set_cons_zero, List.set_cons_succ, e3, e5, e7] at hK ⊢
            have HK := Lib.hid hK
            have HG := Lib.hid hG
            clear hK hd e3 e5 e7
            clear hG
            go_simp
            exact HK.out _ _ (Below.refl _ _) HG.out rfl
          · intro vs wx hG hd K hK
            have e3 : vs 3 = .bool false := hd.get (j := 3) (by simp [depsOf, Region.binds])
            have e8 : vs 8 = .bool false := hd.get (j := 8) (by simp [depsOf, Region.binds])
            replace hK : ∀ (uu : Value) (w' : World), Below wx.heap.size wx w' → ((Gy W2)) w' → (Hb W2) (.inl (.bool false)) uu w' → K _ w' := hK
            simp only [Act.put, List.setIfInBounds_toArray, List.set_cons_zero, List.set_cons_succ, e3, e8] at hK ⊢
            have HK := Lib.hid hK
            have HG := Lib.hid hG
            clear hK hd e3 e8
            clear hG
            go_simp
            exact HK.out _ _ (Below.refl _ _) HG.out rfl
          · intro vs wx hG hd K hK
            have e9 : vs 9 = .bool false := hd.get (j := 9) (by simp [depsOf, Region.binds])
            replace hK : ∀ (uu : Value) (w' : World), Below wx.heap.size wx w' → ((Gy W2)) w' → (Hb W2) (.inl (.bool false)) uu w' → K _ w' := hK
            simp only [Act.put, List.setIfInBounds_toArray, List.set_cons_zero, List.set_cons_succ, e9] at hK ⊢
            have HK := Lib.hid hK
            have HG := Lib.hid hG
            clear hK hd e9
            clear hG
            go_simp
            exact HK.out _ _ (Below.refl _ _) HG.out rfl
          · intro vs wx hG hd K hK
            have e10 : vs 10 = .bool false := hd.get (j := 10) (by simp [depsOf, Region.binds])
            replace hK : ∀ (uu : Value) (w' : World), Below wx.heap.size wx w' → ((Gy W2)) w' → (Hb W2) (.inl (.pointer none)) uu w' → K _ w' := hK
            simp only [Act.put, List.setIfInBounds_toArray, List.set_cons_zero, List.set_cons_succ, e10] at hK ⊢
            have HK := Lib.hid hK
            have HG := Lib.hid hG
            clear hK hd e10
            clear hG
            go_simp
            exact HK.out _ _ (Below.refl _ _) HG.out rfl
          · intro vs wx hG hd K hK
            have e10 : vs 10 = .bool false := hd.get (j := 10) (by simp [depsOf, Region.binds])
            have e11 : vs 11 = .pointer none := hd.get (j := 11) (by simp [depsOf, Region.binds])
            replace hK : ∀ (uu : Value) (w' : World), Below wx.heap.size wx w' → ((Gy W2)) w' → (Hb W2) (.inl (.bool false)) uu w' → K _ w' := hK
            simp only [Act.put, List.setIfInBounds_toArray, List.set_cons_zero, List.set_cons_succ, e10, e11] at hK ⊢
            have HK := Lib.hid hK
            have HG := Lib.hid hG
            clear hK hd e10 e11
            clear hG
            go_simp
            exact HK.out _ _ (Below.refl _ _) HG.out rfl
          · intro vs wx hG hd K hK
            have e10 : vs 10 = .bool false := hd.get (j := 10) (by simp [depsOf, Region.binds])
            have e12 : vs 12 = .bool false := hd.get (j := 12) (by simp [depsOf, Region.binds])
            replace hK : ∀ (uu : Value) (w' : World), Below wx.heap.size wx w' → ((Gy W2)) w' → (Hb W2) (.inl (.bool false)) uu w' → K _ w' := hK
            simp only [Act.put, List.setIfInBounds_toArray, List.set_cons_zero, List.set_cons_succ, e10, e12] at hK ⊢
            have HK := Lib.hid hK
            have HG := Lib.hid hG
            clear hK hd e10 e12
            clear hG
            go_simp
            exact HK.out _ _ (Below.refl _ _) HG.out rfl
          · intro vs wx hG hd K hK
            have e13 : vs 13 = .bool false := hd.get (j := 13) (by simp [depsOf, Region.binds])
            replace hK : ∀ (uu : Value) (w' : World), Below wx.heap.size wx w' → ((Gy W2)) w' → (Hb W2) (.inl (undef)) uu w' → K _ w' := hK
            simp only [Act.put, List.setIfInBounds_toArray, List.set_cons_zero, List.set_cons_succ, e13] at hK ⊢
            have HK := Lib.hid hK
            have HG := Lib.hid hG
            clear hK hd e13
            clear hG
            go_simp
            exact HK.out _ _ (Below.refl _ _) HG.out rfl
          · intro vs wx hG hd K hK
            have e13 : vs 13 = .bool false := hd.get (j := 13) (by simp [depsOf, Region.binds])
            replace hK : ∀ (uu : Value) (w' : World), Below wx.heap.size wx w' → ((Gy W2)) w' → (Hb W2) (.inl (undef)) uu w' → K _ w' := hK
            simp only [Act.put, List.setIfInBounds_toArray, List.set_cons_zero, List.set_cons_succ, e13] at hK ⊢
            have HK := Lib.hid hK
            have HG := Lib.hid hG
            clear hK hd e13
            clear hG
            go_simp
            exact HK.out _ _ (Below.refl _ _) HG.out rfl
          · intro vs wx hG hd K hK
            have e13 : vs 13 = .bool false := hd.get (j := 13) (by simp [depsOf, Region.binds])
            replace hK : ∀ (uu : Value) (w' : World), Below wx.heap.size wx w' → ((Gy W2)) w' → (Hb W2) (.inl (undef)) uu w' → K _ w' := hK
            simp only [Act.put, List.setIfInBounds_toArray, List.set_cons_zero, List.set_cons_succ, e13] at hK ⊢
            have HK := Lib.hid hK
            have HG := Lib.hid hG
            clear hK hd e13
            clear hG
            go_simp
            exact HK.out _ _ (Below.refl _ _) HG.out rfl
          · intro vs wx hG hd K hK
            have e13 : vs 13 = .bool false := hd.get (j := 13) (by simp [depsOf, Region.binds])
            replace hK : ∀ (uu : Value) (w' : World), Below wx.heap.size wx w' → ((Gy W2)) w' → (Hb W2) (.inl (undef)) uu w' → K _ w' := hK
            simp only [Act.put, List.setIfInBounds_toArray, List.set_cons_zero, List.set_cons_succ, e13] at hK ⊢
            have HK := Lib.hid hK
            have HG := Lib.hid hG
            clear hK hd e13
            clear hG
            go_simp
            exact HK.out _ _ (Below.refl _ _) HG.out rfl
          · intro vs wx hG hd K hK
            have e13 : vs 13 = .bool false := hd.get (j := 13) (by simp [depsOf, Region.binds])
            replace hK : ∀ (uu : Value) (w' : World), Below wx.heap.size wx w' → ((Gy W2)) w' → (Hb W2) (.inl (undef)) uu w' → K _ w' := hK
            simp only [Act.put, List.setIfInBounds_toArray, List.set_cons_zero, List.set_cons_succ, e13] at hK ⊢
            have HK := Lib.hid hK
            have HG := Lib.hid hG
            clear hK hd e13
            clear hG
            go_simp
            exact HK.out _ _ (Below.refl _ _) HG.out rfl
          · intro vs wx hG hd K hK
            have e13 : vs 13 = .bool false := hd.get (j := 13) (by simp [depsOf, Region.binds])
            replace hK : ∀ (uu : Value) (w' : World), Below wx.heap.size wx w' → ((Gy W2)) w' → (Hb W2) (.inl (undef)) uu w' → K _ w' := hK
            simp only [Act.put, List.setIfInBounds_toArray, List.set_cons_zero, List.set_cons_succ, e13] at hK ⊢
            have HK := Lib.hid hK
            have HG := Lib.hid hG
            clear hK hd e13
            clear hG
            go_simp
            exact HK.out _ _ (Below.refl _ _) HG.out rfl
          · intro vs wx hG hd K hK
            have e13 : vs 13 = .bool false := hd.get (j := 13) (by simp [depsOf, Region.binds])
            replace hK : ∀ (uu : Value) (w' : World), Below wx.heap.size wx w' → ((Gy W2)) w' → (Hb W2) (.inl (undef)) uu w' → K _ w' := hK
            simp only [Act.put, List.setIfInBounds_toArray, List.set_cons_zero, List.set_cons_succ, e13] at hK ⊢
            have HK := Lib.hid hK
            have HG := Lib.hid hG
            clear hK hd e13
            clear hG
            go_simp
            exact HK.out _ _ (Below.refl _ _) HG.out rfl
          · intro vs wx hG hd K hK
            have e13 : vs 13 = .bool false := hd.get (j := 13) (by simp [depsOf, Region.binds])
            replace hK : ∀ (uu : Value) (w' : World), Below wx.heap.size wx w' → ((Gy W2)) w' → (Hb W2) (.inl (undef)) uu w' → K _ w' := hK
            simp only [Act.put, List.setIfInBounds_toArray, List.set_cons_zero, List.set_cons_succ, e13] at hK ⊢
            have HK := Lib.hid hK
            have HG := Lib.hid hG
            clear hK hd e13
            clear hG
            go_simp
            exact HK.out _ _ (Below.refl _ _) HG.out rfl
          · intro vs wx hG hd K hK
            have e13 : vs 13 = .bool false := hd.get (j := 13) (by simp [depsOf, Region.binds])
            replace hK : ∀ (uu : Value) (w' : World), Below wx.heap.size wx w' → ((Gy W2)) w' → (Hb W2) (.inl (undef)) uu w' → K _ w' := hK
            simp only [Act.put, List.setIfInBounds_toArray, List.set_cons_zero, List.set_cons_succ, e13] at hK ⊢
            have HK := Lib.hid hK
            have HG := Lib.hid hG
            clear hK hd e13
            clear hG
            go_simp
            exact HK.out _ _ (Below.refl _ _) HG.out rfl
          · intro vs wx hG hd K hK
            have e22 : vs 22 = undef := hd.get (j := 22) (by simp [depsOf, Region.binds])
            replace hK : ∀ (uu : Value) (w' : World), Below wx.heap.size wx w' → ((Gy W2)) w' → (Hb W2) (.inl (undef)) uu w' → K _ w' := hK
            simp only [Act.put, List.setIfInBounds_toArray, List.set_cons_zero, List.set_cons_succ, e22] at hK ⊢
            have HK := Lib.hid hK
            have HG := Lib.hid hG
            clear hK hd e22
            clear hG
            go_simp
            exact HK.out _ _ (Below.refl _ _) HG.out rfl
          · intro vs wx hG hd K hK
            have e22 : vs 22 = undef := hd.get (j := 22) (by simp [depsOf, Region.binds])
            replace hK : ∀ (uu : Value) (w' : World), Below wx.heap.size wx w' → ((Gy W2)) w' → (Hb W2) (.inl (undef)) uu w' → K _ w' := hK
            simp only [Act.put, List.setIfInBounds_toArray, List.set_cons_zero, List.set_cons_succ, e22] at hK ⊢
            have HK := Lib.hid hK
            have HG := Lib.hid hG
            clear hK hd e22
            clear hG
            go_simp
            exact HK.out _ _ (Below.refl _ _) HG.out rfl
          · intro vs wx hG hd K hK
            have e22 : vs 22 = undef := hd.get (j := 22) (by simp [depsOf, Region.binds])
            replace hK : ∀ (uu : Value) (w' : World), Below wx.heap.size wx w' → ((Gy W2)) w' → (Hb W2) (.inl (undef)) uu w' → K _ w' := hK
            simp only [Act.put, List.setIfInBounds_toArray, List.set_cons_zero, List.set_cons_succ, e22] at hK ⊢
            have HK := Lib.hid hK
            have HG := Lib.hid hG
            clear hK hd e22
            clear hG
            go_simp
            exact HK.out _ _ (Below.refl _ _) HG.out rfl
          · intro vs wx hG hd K hK
            have e22 : vs 22 = undef := hd.get (j := 22) (by simp [depsOf, Region.binds])
            replace hK : ∀ (uu : Value) (w' : World), Below wx.heap.size wx w' → ((Gy W2)) w' → (Hb W2) (.inl (undef)) uu w' → K _ w' := hK
            simp only [Act.put, List.setIfInBounds_toArray, List.set_cons_zero, List.set_cons_succ, e22] at hK ⊢
            have HK := Lib.hid hK
            have HG := Lib.hid hG
            clear hK hd e22
            clear hG
            go_simp
            exact HK.out _ _ (Below.refl _ _) HG.out rfl
          · intro vs wx hG hd K hK
            have e22 : vs 22 = undef := hd.get (j := 22) (by simp [depsOf, Region.binds])
            replace hK : ∀ (uu : Value) (w' : World), Below wx.heap.size wx w' → ((Gy W2)) w' → (Hb W2) (.inl (undef)) uu w' → K _ w' := hK
            simp only [Act.put, List.setIfInBounds_toArray, List.set_cons_zero, List.set_cons_succ, e22] at hK ⊢
            have HK := Lib.hid hK
            have HG := Lib.hid hG
            clear hK hd e22
            clear hG
            go_simp
            exact HK.out _ _ (Below.refl _ _) HG.out rfl
          · intro vs wx hG hd K hK
            have e22 : vs 22 = undef := hd.get (j := 22) (by simp [depsOf, Region.binds])
            replace hK : ∀ (uu : Value) (w' : World), Below wx.heap.size wx w' → ((Gy W2)) w' → (Hb W2) (.inl (undef)) uu w' → K _ w' := hK
            simp only [Act.put, List.setIfInBounds_toArray, List.set_cons_zero, List.set_cons_succ, e22] at hK ⊢
            have HK := Lib.hid hK
            have HG := Lib.hid hG
            clear hK hd e22
            clear hG
            go_simp
            exact HK.out _ _ (Below.refl _ _) HG.out rfl
          · intro vs wx hG hd K hK
            have e22 : vs 22 = undef := hd.get (j := 22) (by simp [depsOf, Region.binds])
            replace hK : ∀ (uu : Value) (w' : World), Below wx.heap.size wx w' → ((Gy W2)) w' → (Hb W2) (.inl (undef)) uu w' → K _ w' := hK
            simp only [Act.put, List.setIfInBounds_toArray, List.set_cons_zero, List.set_cons_succ, e22] at hK ⊢
            have HK := Lib.hid hK
            have HG := Lib.hid hG
            clear hK hd e22
            clear hG
            go_simp
            exact HK.out _ _ (Below.refl _ _) HG.out rfl
          · intro vs wx hG hd K hK
            have e13 : vs 13 = .bool false := hd.get (j := 13) (by simp [depsOf, Region.binds])
            replace hK : ∀ (uu : Value) (w' : World), Below wx.heap.size wx w' → ((Gy W2)) w' → (Hb W2) (.inl (undef)) uu w' → K _ w' := hK
            simp only [Act.put, List.setIfInBounds_toArray, List.set_cons_zero, List.set_cons_succ, e13] at hK ⊢
            have HK := Lib.hid hK
            have HG := Lib.hid hG
            clear hK hd e13
            clear hG
            go_simp
            exact HK.out _ _ (Below.refl _ _) HG.out rfl
          · intro vs wx hG hd K hK
            have e10 : vs 10 = .bool false := hd.get (j := 10) (by simp [depsOf, Region.binds])
            have e13 : vs 13 = .bool false := hd.get (j := 13) (by simp [depsOf, Region.binds])
            have e30 : vs 30 = undef := hd.get (j := 30) (by simp [depsOf, Region.binds])
            replace hK : ∀ (uu : Value) (w' : World), Below wx.heap.size wx w' → ((Gy W2)) w' → (Hb W2) (.inl (.bool false)) uu w' → K _ w' := hK
            simp only [Act.put, List.setIfInBounds_toArray, List.set_cons_zero, List.set_cons_succ, e10, e13, e30] at hK ⊢
            have HK := Lib.hid hK
            have HG := Lib.hid hG
            clear hK hd e10 e13 e30
            clear hG
            go_simp
            exact HK.out _ _ (Below.refl _ _) HG.out rfl
          · intro vs wx hG hd K hK
            have e10 : vs 10 = .bool false := hd.get (j := 10) (by simp [depsOf, Region.binds])
            have e31 : vs 31 = .bool false := hd.get (j := 31) (by simp [depsOf, Region.binds])
            replace hK : ∀ (uu : Value) (w' : World), Below wx.heap.size wx w' → ((Gy W2)) w' → (Hb W2) (.inl (.bool false)) uu w' → K _ w' := hK
            simp only [Act.put, List.setIfInBounds_toArray, List.set_cons_zero, List.set_cons_succ, e10, e31] at hK ⊢
            have HK := Lib.hid hK
            have HG := Lib.hid hG
            clear hK hd e10 e31
            clear hG
            go_simp
            exact HK.out _ _ (Below.refl _ _) HG.out rfl
          · intro vs wx hG hd K hK
            have e32 : vs 32 = .bool false := hd.get (j := 32) (by simp [depsOf, Region.binds])
            replace hK : ∀ (uu : Value) (w' : World), Below wx.heap.size wx w' → ((Gy W2)) w' → (Hb W2) (.inl (.bool false)) uu w' → K _ w' := hK
            simp only [Act.put, List.setIfInBounds_toArray, List.set_cons_zero, List.set_cons_succ, e32] at hK ⊢
            have HK := Lib.hid hK
            have HG := Lib.hid hG
            clear hK hd e32
            clear hG
            go_simp
            exact HK.out _ _ (Below.refl _ _) HG.out rfl
          · intro vs wx hG hd K hK
            have e33 : vs 33 = .bool false := hd.get (j := 33) (by simp [depsOf, Region.binds])
            replace hK : ∀ (uu : Value) (w' : World), Below wx.heap.size wx w' → ((Gy W2)) w' → (Hb W2) (.inl (dP d)) uu w' → K _ w' := hK
            simp only [Act.put, List.setIfInBounds_toArray, List.set_cons_zero, List.set_cons_succ, e33] at hK ⊢
            have HK := Lib.hid hK
            have HG := Lib.hid hG
            clear hK hd e33
            clear hG
            go_simp
            exact HK.out _ _ (Below.refl _ _) HG.out rfl
          · intro vs wx hG hd K hK
            have e33 : vs 33 = .bool false := hd.get (j := 33) (by simp [depsOf, Region.binds])
            replace hK : ∀ (uu : Value) (w' : World), Below wx.heap.size wx w' → ((Gy W2)) w' → (Hb W2) (.inl (rP m)) uu w' → K _ w' := hK
            simp only [Act.put, List.setIfInBounds_toArray, List.set_cons_zero, List.set_cons_succ, e33] at hK ⊢
            have HK := Lib.hid hK
            have HG := Lib.hid hG
            clear hK hd e33
            clear hG
            go_simp
            exact HK.out _ _ (Below.refl _ _) HG.out rfl
          · intro vs wx hG hd K hK
            have e33 : vs 33 = .bool false := hd.get (j := 33) (by simp [depsOf, Region.binds])
            have e34 : vs 34 = dP d := hd.get (j := 34) (by simp [depsOf, Region.binds])
            have e35 : vs 35 = rP m := hd.get (j := 35) (by simp [depsOf, Region.binds])
            replace hK : ∀ (uu : Value) (w' : World), Below wx.heap.size wx w' → ((Gy W2)) w' → (Hb W2) (.inl (.bool true)) uu w' → K _ w' := hK
            simp only [Act.put, List.setIfInBounds_toArray, List.set_cons_zero, List.set_cons_succ, e33, e34, e35] at hK ⊢
            have HK := Lib.hid hK
            have HG := Lib.hid hG
            clear hK hd e33 e34 e35
            clear hG
            go_simp
            go_at_call 11
            refine (HIS.out _ HG.out).mono ?_
            rintro e w1 ⟨rfl, hb⟩
            exact HK.out _ _ hb (HG.out.below hb) rfl
          · intro vs wx hG hd K hK
            have e33 : vs 33 = .bool false := hd.get (j := 33) (by simp [depsOf, Region.binds])
            have e36 : vs 36 = .bool true := hd.get (j := 36) (by simp [depsOf, Region.binds])
            replace hK : ∀ (uu : Value) (w' : World), Below wx.heap.size wx w' → ((Gy W2)) w' → (Hb W2) (.inl (.bool false)) uu w' → K _ w' := hK
            simp only [Act.put, List.setIfInBounds_toArray, List.set_cons_zero, List.set_cons_succ, e33, e36] at hK ⊢
            have HK := Lib.hid hK
            have HG := Lib.hid hG
            clear hK hd e33 e36
            clear hG
            go_simp
            exact HK.out _ _ (Below.refl _ _) HG.out rfl
          · intro vs wx hG hd K hK
            have e33 : vs 33 = .bool false := hd.get (j := 33) (by simp [depsOf, Region.binds])
            have e37 : vs 37 = .bool false := hd.get (j := 37) (by simp [depsOf, Region.binds])
            replace hK : ∀ (uu : Value) (w' : World), Below wx.heap.size wx w' → ((Gy W2)) w' → (Hb W2) (.inl (.bool false)) uu w' → K _ w' := hK
            simp only [Act.put, List.setIfInBounds_toArray, List.set_cons_zero, List.set_cons_succ, e33, e37] at hK ⊢
            have HK := Lib.hid hK
            have HG := Lib.hid hG
            clear hK hd e33 e37
            clear hG
            go_simp
            exact HK.out _ _ (Below.refl _ _) HG.out rfl
        case hend =>
          intro vs wx hG hv
          have e9 : vs 38 = .bool false := hv 38 (by decide)
          rw [e9]
          have HR := Lib.hid (HZ.out.below hG)
          clear hG hv e9
          go_wp2_with fail
          go_meet
          case rel => exact ⟨rfl, HR.out⟩

      · have HQ := Lib.hid hq
        have HS1 : Hid (∀ wx, Gy W2 wx → (convert 32 9 (.slice A1 base.length c1)).run Try.prog wx = .ok (.string (strB base)) wx) := Lib.hid fun wx h => bs_str (hb1.below h) rfl
        have HS2 : Hid (∀ wx, Gy W2 wx → (convert 32 9 (.slice A3 base.length c3)).run Try.prog wx = .ok (.string (strB base)) wx) := Lib.hid fun wx h => bs_str (hb3.below h) rfl
        have HSM : Hid (∀ wx, Gy W2 wx → Calls Try.prog 10 #[.slice A2 rs.length c2, .slice A4 rs.length c4] wx fun e w' => e = .returned (.bool true) ∧ Below wx.heap.size wx w') := Lib.hid fun wx h => wsame_any (hr2.below h) (hr4.below h) (Below.size h) (Below.size h)
        clear hq hb1 hb3 hr2 hr4
        go_wp2_with fail
        apply region_V (Hb W2) (Gy W2) [.inl (.int .i64 0), .inl (.int .i64 0), .inl (.bool false), .inl (.bool false), .inl (wP p), .inl (.bool false), .inl (rP q), .inl (.bool false), .inl (.bool false), .inl (.bool false), .inl (.bool false), .inl (rP q), .inl (.bool true), .inl (.bool true), .inl (.slice A1 base.length c1), .inl (.string (strB base)), .inl (rP q), .inl (rP q), .inl (.pointer (some ⟨q, 2, none⟩)), .inl (.slice A3 base.length c3), .inl (.string (strB base)), .inl (.bool false), .inl (.bool false), .inl (.slice A2 rs.length c2), .inl (rP q), .inl (rP q), .inl (.pointer (some ⟨q, 3, none⟩)), .inl (.slice A4 rs.length c4), .inl (.bool true), .inl (.bool false), .inl (.bool false), .inl (.bool false), .inl (.bool false), .inl (.bool false), .inl (dP d), .inl (rP m), .inl (.bool true), .inl (.bool false), .inl (.bool false)] (.inl undef)
        case mono => exact fun p v w w1 h hb => Hb.mono h hb
        case hm => kernel_rfl
        case hf => kernel_rfl
        case hQ => exact (by intro c x y w e h; exact And.intro (e.symm.trans (And.left h)) (And.right h))
        case hF => intro vs; simp only [putAll, Act.put, List.setIfInBounds_toArray, List.set_cons_zero, List.set_cons_succ, Nat.reduceAdd]; rfl
        case h0 => exact ⟨rfl, rfl, rfl, Nat.le_refl _, fun _ _ => rfl⟩
        case hstep =>
          repeat' (first | exact AllOps.nil | apply AllOps.cons)
          · intro vs wx hG hd K hK
            replace hK : ∀ (uu : Value) (w' : World), Below wx.heap.size wx w' → ((Gy W2)) w' → (Hb W2) (.inl (.int .i64 0)) uu w' → K _ w' := hK
            simp only [Act.put, List.setIfInBounds_toArray, List.set_cons_zero, List.set_cons_succ] at hK ⊢
            have HK := Lib.hid hK
            have HG := Lib.hid hG
            clear hK hd
            clear hG
            go_simp
            exact HK.out _ _ (Below.refl _ _) HG.out rfl
          · intro vs wx hG hd K hK
            replace hK : ∀ (uu : Value) (w' : World), Below wx.heap.size wx w' → ((Gy W2)) w' → (Hb W2) (.inl (.int .i64 0)) uu w' → K _ w' := hK
            simp only [Act.put, List.setIfInBounds_toArray, List.set_cons_zero, List.set_cons_succ] at hK ⊢
            have HK := Lib.hid hK
            have HG := Lib.hid hG
            clear hK hd
            clear hG
            go_simp
            exact HK.out _ _ (Below.refl _ _) HG.out rfl
          · intro vs wx hG hd K hK
            have e0 : vs 0 = .int .i64 0 := hd.get (j := 0) (by simp [depsOf, Region.binds])
            have e1 : vs 1 = .int .i64 0 := hd.get (j := 1) (by simp [depsOf, Region.binds])
            replace hK : ∀ (uu : Value) (w' : World), Below wx.heap.size wx w' → ((Gy W2)) w' → (Hb W2) (.inl (.bool false)) uu w' → K _ w' := hK
            simp only [Act.put, List.setIfInBounds_toArray, List.set_cons_zero, List.set_cons_succ, e0, e1] at hK ⊢
            have HK := Lib.hid hK
            have HG := Lib.hid hG
            clear hK hd e0 e1
            clear hG
            go_simp
            exact HK.out _ _ (Below.refl _ _) HG.out rfl
          · intro vs wx hG hd K hK
            have e2 : vs 2 = .bool false := hd.get (j := 2) (by simp [depsOf, Region.binds])
            replace hK : ∀ (uu : Value) (w' : World), Below wx.heap.size wx w' → ((Gy W2)) w' → (Hb W2) (.inl (.bool false)) uu w' → K _ w' := hK
            simp only [Act.put, List.setIfInBounds_toArray, List.set_cons_zero, List.set_cons_succ, e2] at hK ⊢
            have HK := Lib.hid hK
            have HG := Lib.hid hG
            clear hK hd e2
            clear hG
            go_simp
            exact HK.out _ _ (Below.refl _ _) HG.out rfl
          · intro vs wx hG hd K hK
            have e3 : vs 3 = .bool false := hd.get (j := 3) (by simp [depsOf, Region.binds])
            replace hK : ∀ (uu : Value) (w' : World), Below wx.heap.size wx w' → ((Gy W2)) w' → (Hb W2) (.inl (wP p)) uu w' → K _ w' := hK
            simp only [Act.put, List.setIfInBounds_toArray, List.set_cons_zero, List.set_cons_succ, e3] at hK ⊢
            have HK := Lib.hid hK
            have HG := Lib.hid hG
            clear hK hd e3
            clear hG
            go_simp
            exact HK.out _ _ (Below.refl _ _) HG.out rfl
          · intro vs wx hG hd K hK
            have e3 : vs 3 = .bool false := hd.get (j := 3) (by simp [depsOf, Region.binds])
            have e4 : vs 4 = wP p := hd.get (j := 4) (by simp [depsOf, Region.binds])
            replace hK : ∀ (uu : Value) (w' : World), Below wx.heap.size wx w' → ((Gy W2)) w' → (Hb W2) (.inl (.bool false)) uu w' → K _ w' := hK
            simp only [Act.put, List.setIfInBounds_toArray, List.set_cons_zero, List.set_cons_succ, e3, e4] at hK ⊢
            have HK := Lib.hid hK
            have HG := Lib.hid hG
            clear hK hd e3 e4
            clear hG
            go_simp
            exact HK.out _ _ (Below.refl _ _) HG.out rfl
          · intro vs wx hG hd K hK
            have e3 : vs 3 = .bool false := hd.get (j := 3) (by simp [depsOf, Region.binds])
            replace hK : ∀ (uu : Value) (w' : World), Below wx.heap.size wx w' → ((Gy W2)) w' → (Hb W2) (.inl (rP q)) uu w' → K _ w' := hK
            simp only [Act.put, List.setIfInBounds_toArray, List.set_cons_zero, List.set_cons_succ, e3] at hK ⊢
            have HK := Lib.hid hK
            have HG := Lib.hid hG
            clear hK hd e3
            clear hG
            go_simp
            exact HK.out _ _ (Below.refl _ _) HG.out rfl
          · intro vs wx hG hd K hK
            have e3 : vs 3 = .bool false := hd.get (j := 3) (by simp [depsOf, Region.binds])
            have e6 : vs 6 = rP q := hd.get (j := 6) (by simp [depsOf, Region.binds])
            replace hK : ∀ (uu : Value) (w' : World), Below wx.heap.size wx w' → ((Gy W2)) w' → (Hb W2) (.inl (.bool false)) uu w' → K _ w' := hK
            simp only [Act.put, List.setIfInBounds_toArray, List.set_cons_zero, List.set_cons_succ, e3, e6] at hK ⊢
            have HK := Lib.hid hK
            have HG := Lib.hid hG
            clear hK hd e3 e6
            clear hG
            go_simp
            exact HK.out _ _ (Below.refl _ _) HG.out rfl
          · intro vs wx hG hd K hK
            have e3 : vs 3 = .bool false := hd.get (j := 3) (by simp [depsOf, Region.binds])
            have e5 : vs 5 = .bool false := hd.get (j := 5) (by simp [depsOf, Region.binds])
            have e7 : vs 7 = .bool false := hd.get (j := 7) (by simp [depsOf, Region.binds])
            replace hK : ∀ (uu : Value) (w' : World), Below wx.heap.size wx w' → ((Gy W2)) w' → (Hb W2) (.inl (.bool false)) uu w' → K _ w' := hK
            simp only [Act.put, List.setIfInBounds_toArray, List.set_cons_zero, List.set_cons_succ, e3, e5, e7] at hK ⊢
            have HK := Lib.hid hK
            have HG := Lib.hid hG
            clear hK hd e3 e5 e7
            clear hG
            go_simp
            exact HK.out _ _ (Below.refl _ _) HG.out rfl
          · intro vs wx hG hd K hK
            have e3 : vs 3 = .bool false := hd.get (j := 3) (by simp [depsOf, Region.binds])
            have e8 : vs 8 = .bool false := hd.get (j := 8) (by simp [depsOf, Region.binds])
            replace hK : ∀ (uu : Value) (w' : World), Below wx.heap.size wx w' → ((Gy W2)) w' → (Hb W2) (.inl (.bool false)) uu w' → K _ w' := hK
            simp only [Act.put, List.setIfInBounds_toArray, List.set_cons_zero, List.set_cons_succ, e3, e8] at hK ⊢
            have HK := Lib.hid hK
            have HG := Lib.hid hG
            clear hK hd e3 e8
            clear hG
            go_simp
            exact HK.out _ _ (Below.refl _ _) HG.out rfl
          · intro vs wx hG hd K hK
            have e9 : vs 9 = .bool false := hd.get (j := 9) (by simp [depsOf, Region.binds])
            replace hK : ∀ (uu : Value) (w' : World), Below wx.heap.size wx w' → ((Gy W2)) w' → (Hb W2) (.inl (.bool false)) uu w' → K _ w' := hK
            simp only [Act.put, List.setIfInBounds_toArray, List.set_cons_zero, List.set_cons_succ, e9] at hK ⊢
            have HK := Lib.hid hK
            have HG := Lib.hid hG
            clear hK hd e9
            clear hG
            go_simp
            exact HK.out _ _ (Below.refl _ _) HG.out rfl
          · intro vs wx hG hd K hK
            have e10 : vs 10 = .bool false := hd.get (j := 10) (by simp [depsOf, Region.binds])
            replace hK : ∀ (uu : Value) (w' : World), Below wx.heap.size wx w' → ((Gy W2)) w' → (Hb W2) (.inl (rP q)) uu w' → K _ w' := hK
            simp only [Act.put, List.setIfInBounds_toArray, List.set_cons_zero, List.set_cons_succ, e10] at hK ⊢
            have HK := Lib.hid hK
            have HG := Lib.hid hG
            clear hK hd e10
            clear hG
            go_simp
            exact HK.out _ _ (Below.refl _ _) HG.out rfl
          · intro vs wx hG hd K hK
            have e10 : vs 10 = .bool false := hd.get (j := 10) (by simp [depsOf, Region.binds])
            have e11 : vs 11 = rP q := hd.get (j := 11) (by simp [depsOf, Region.binds])
            replace hK : ∀ (uu : Value) (w' : World), Below wx.heap.size wx w' → ((Gy W2)) w' → (Hb W2) (.inl (.bool true)) uu w' → K _ w' := hK
            simp only [Act.put, List.setIfInBounds_toArray, List.set_cons_zero, List.set_cons_succ, e10, e11] at hK ⊢
            have HK := Lib.hid hK
            have HG := Lib.hid hG
            clear hK hd e10 e11
            clear hG
            go_simp
            exact HK.out _ _ (Below.refl _ _) HG.out rfl
          · intro vs wx hG hd K hK
            have e10 : vs 10 = .bool false := hd.get (j := 10) (by simp [depsOf, Region.binds])
            have e12 : vs 12 = .bool true := hd.get (j := 12) (by simp [depsOf, Region.binds])
            replace hK : ∀ (uu : Value) (w' : World), Below wx.heap.size wx w' → ((Gy W2)) w' → (Hb W2) (.inl (.bool true)) uu w' → K _ w' := hK
            simp only [Act.put, List.setIfInBounds_toArray, List.set_cons_zero, List.set_cons_succ, e10, e12] at hK ⊢
            have HK := Lib.hid hK
            have HG := Lib.hid hG
            clear hK hd e10 e12
            clear hG
            go_simp
            exact HK.out _ _ (Below.refl _ _) HG.out rfl
          · intro vs wx hG hd K hK
            have e13 : vs 13 = .bool true := hd.get (j := 13) (by simp [depsOf, Region.binds])
            replace hK : ∀ (uu : Value) (w' : World), Below wx.heap.size wx w' → ((Gy W2)) w' → (Hb W2) (.inl (.slice A1 base.length c1)) uu w' → K _ w' := hK
            simp only [Act.put, List.setIfInBounds_toArray, List.set_cons_zero, List.set_cons_succ, e13] at hK ⊢
            have HK := Lib.hid hK
            have HG := Lib.hid hG
            clear hK hd e13
            clear hG
            go_simp
            exact HK.out _ _ (Below.refl _ _) HG.out rfl
          · intro vs wx hG hd K hK
            have e13 : vs 13 = .bool true := hd.get (j := 13) (by simp [depsOf, Region.binds])
            have e14 : vs 14 = .slice A1 base.length c1 := hd.get (j := 14) (by simp [depsOf, Region.binds])
            replace hK : ∀ (uu : Value) (w' : World), Below wx.heap.size wx w' → ((Gy W2)) w' → (Hb W2) (.inl (.string (strB base))) uu w' → K _ w' := hK
            simp only [Act.put, List.setIfInBounds_toArray, List.set_cons_zero, List.set_cons_succ, e13, e14] at hK ⊢
            have HK := Lib.hid hK
            have HG := Lib.hid hG
            clear hK hd e13 e14
            have hs9 := HS1.out _ HG.out
            clear hG
            go_simp
            exact HK.out _ _ (Below.refl _ _) HG.out rfl
          · intro vs wx hG hd K hK
            have e13 : vs 13 = .bool true := hd.get (j := 13) (by simp [depsOf, Region.binds])
            replace hK : ∀ (uu : Value) (w' : World), Below wx.heap.size wx w' → ((Gy W2)) w' → (Hb W2) (.inl (rP q)) uu w' → K _ w' := hK
            simp only [Act.put, List.setIfInBounds_toArray, List.set_cons_zero, List.set_cons_succ, e13] at hK ⊢
            have HK := Lib.hid hK
            have HG := Lib.hid hG
            clear hK hd e13
            clear hG
            go_simp
            exact HK.out _ _ (Below.refl _ _) HG.out rfl
          · intro vs wx hG hd K hK
            have e13 : vs 13 = .bool true := hd.get (j := 13) (by simp [depsOf, Region.binds])
            have e16 : vs 16 = rP q := hd.get (j := 16) (by simp [depsOf, Region.binds])
            replace hK : ∀ (uu : Value) (w' : World), Below wx.heap.size wx w' → ((Gy W2)) w' → (Hb W2) (.inl (rP q)) uu w' → K _ w' := hK
            simp only [Act.put, List.setIfInBounds_toArray, List.set_cons_zero, List.set_cons_succ, e13, e16] at hK ⊢
            have HK := Lib.hid hK
            have HG := Lib.hid hG
            clear hK hd e13 e16
            clear hG
            go_simp
            exact HK.out _ _ (Below.refl _ _) HG.out rfl
          · intro vs wx hG hd K hK
            have e13 : vs 13 = .bool true := hd.get (j := 13) (by simp [depsOf, Region.binds])
            have e17 : vs 17 = rP q := hd.get (j := 17) (by simp [depsOf, Region.binds])
            replace hK : ∀ (uu : Value) (w' : World), Below wx.heap.size wx w' → ((Gy W2)) w' → (Hb W2) (.inl (.pointer (some ⟨q, 2, none⟩))) uu w' → K _ w' := hK
            simp only [Act.put, List.setIfInBounds_toArray, List.set_cons_zero, List.set_cons_succ, e13, e17] at hK ⊢
            have HK := Lib.hid hK
            have HG := Lib.hid hG
            clear hK hd e13 e17
            clear hG
            go_simp
            exact HK.out _ _ (Below.refl _ _) HG.out rfl
          · intro vs wx hG hd K hK
            have e13 : vs 13 = .bool true := hd.get (j := 13) (by simp [depsOf, Region.binds])
            have e18 : vs 18 = .pointer (some ⟨q, 2, none⟩) := hd.get (j := 18) (by simp [depsOf, Region.binds])
            replace hK : ∀ (uu : Value) (w' : World), Below wx.heap.size wx w' → ((Gy W2)) w' → (Hb W2) (.inl (.slice A3 base.length c3)) uu w' → K _ w' := hK
            simp only [Act.put, List.setIfInBounds_toArray, List.set_cons_zero, List.set_cons_succ, e13, e18] at hK ⊢
            have HK := Lib.hid hK
            have HG := Lib.hid hG
            clear hK hd e13 e18
            have X0 := HQ.out.below HG.out
            have x2 := X0.x2
            have x3 := X0.x3
            clear hG X0
            go_simp
            exact HK.out _ _ (Below.refl _ _) HG.out rfl
          · intro vs wx hG hd K hK
            have e13 : vs 13 = .bool true := hd.get (j := 13) (by simp [depsOf, Region.binds])
            have e19 : vs 19 = .slice A3 base.length c3 := hd.get (j := 19) (by simp [depsOf, Region.binds])
            replace hK : ∀ (uu : Value) (w' : World), Below wx.heap.size wx w' → ((Gy W2)) w' → (Hb W2) (.inl (.string (strB base))) uu w' → K _ w' := hK
            simp only [Act.put, List.setIfInBounds_toArray, List.set_cons_zero, List.set_cons_succ, e13, e19] at hK ⊢
            have HK := Lib.hid hK
            have HG := Lib.hid hG
            clear hK hd e13 e19
            have hs9 := HS2.out _ HG.out
            clear hG
            go_simp
            exact HK.out _ _ (Below.refl _ _) HG.out rfl
          · intro vs wx hG hd K hK
            have e13 : vs 13 = .bool true := hd.get (j := 13) (by simp [depsOf, Region.binds])
            have e15 : vs 15 = .string (strB base) := hd.get (j := 15) (by simp [depsOf, Region.binds])
            have e20 : vs 20 = .string (strB base) := hd.get (j := 20) (by simp [depsOf, Region.binds])
            replace hK : ∀ (uu : Value) (w' : World), Below wx.heap.size wx w' → ((Gy W2)) w' → (Hb W2) (.inl (.bool false)) uu w' → K _ w' := hK
            simp only [Act.put, List.setIfInBounds_toArray, List.set_cons_zero, List.set_cons_succ, e13, e15, e20] at hK ⊢
            have HK := Lib.hid hK
            have HG := Lib.hid hG
            clear hK hd e13 e15 e20
            clear hG
            go_simp
            exact HK.out _ _ (Below.refl _ _) HG.out rfl
          · intro vs wx hG hd K hK
            have e13 : vs 13 = .bool true := hd.get (j := 13) (by simp [depsOf, Region.binds])
            have e21 : vs 21 = .bool false := hd.get (j := 21) (by simp [depsOf, Region.binds])
            replace hK : ∀ (uu : Value) (w' : World), Below wx.heap.size wx w' → ((Gy W2)) w' → (Hb W2) (.inl (.bool false)) uu w' → K _ w' := hK
            simp only [Act.put, List.setIfInBounds_toArray, List.set_cons_zero, List.set_cons_succ, e13, e21] at hK ⊢
            have HK := Lib.hid hK
            have HG := Lib.hid hG
            clear hK hd e13 e21
            clear hG
            go_simp
            exact HK.out _ _ (Below.refl _ _) HG.out rfl
          · intro vs wx hG hd K hK
            have e22 : vs 22 = .bool false := hd.get (j := 22) (by simp [depsOf, Region.binds])
            replace hK : ∀ (uu : Value) (w' : World), Below wx.heap.size wx w' → ((Gy W2)) w' → (Hb W2) (.inl (.slice A2 rs.length c2)) uu w' → K _ w' := hK
            simp only [Act.put, List.setIfInBounds_toArray, List.set_cons_zero, List.set_cons_succ, e22] at hK ⊢
            have HK := Lib.hid hK
            have HG := Lib.hid hG
            clear hK hd e22
            clear hG
            go_simp
            exact HK.out _ _ (Below.refl _ _) HG.out rfl
          · intro vs wx hG hd K hK
            have e22 : vs 22 = .bool false := hd.get (j := 22) (by simp [depsOf, Region.binds])
            replace hK : ∀ (uu : Value) (w' : World), Below wx.heap.size wx w' → ((Gy W2)) w' → (Hb W2) (.inl (rP q)) uu w' → K _ w' := hK
            simp only [Act.put, List.setIfInBounds_toArray, List.set_cons_zero, List.set_cons_succ, e22] at hK ⊢
            have HK := Lib.hid hK
            have HG := Lib.hid hG
            clear hK hd e22
            clear hG
            go_simp
            exact HK.out _ _ (Below.refl _ _) HG.out rfl
          · intro vs wx hG hd K hK
            have e22 : vs 22 = .bool false := hd.get (j := 22) (by simp [depsOf, Region.binds])
            have e24 : vs 24 = rP q := hd.get (j := 24) (by simp [depsOf, Region.binds])
            replace hK : ∀ (uu : Value) (w' : World), Below wx.heap.size wx w' → ((Gy W2)) w' → (Hb W2) (.inl (rP q)) uu w' → K _ w' := hK
            simp only [Act.put, List.setIfInBounds_toArray, List.set_cons_zero, List.set_cons_succ, e22, e24] at hK ⊢
            have HK := Lib.hid hK
            have HG := Lib.hid hG
            clear hK hd e22 e24
            clear hG
            go_simp
            exact HK.out _ _ (Below.refl _ _) HG.out rfl
          · intro vs wx hG hd K hK
            have e22 : vs 22 = .bool false := hd.get (j := 22) (by simp [depsOf, Region.binds])
            have e25 : vs 25 = rP q := hd.get (j := 25) (by simp [depsOf, Region.binds])
            replace hK : ∀ (uu : Value) (w' : World), Below wx.heap.size wx w' → ((Gy W2)) w' → (Hb W2) (.inl (.pointer (some ⟨q, 3, none⟩))) uu w' → K _ w' := hK
            simp only [Act.put, List.setIfInBounds_toArray, List.set_cons_zero, List.set_cons_succ, e22, e25] at hK ⊢
            have HK := Lib.hid hK
            have HG := Lib.hid hG
            clear hK hd e22 e25
            clear hG
            go_simp
            exact HK.out _ _ (Below.refl _ _) HG.out rfl
          · intro vs wx hG hd K hK
            have e22 : vs 22 = .bool false := hd.get (j := 22) (by simp [depsOf, Region.binds])
            have e26 : vs 26 = .pointer (some ⟨q, 3, none⟩) := hd.get (j := 26) (by simp [depsOf, Region.binds])
            replace hK : ∀ (uu : Value) (w' : World), Below wx.heap.size wx w' → ((Gy W2)) w' → (Hb W2) (.inl (.slice A4 rs.length c4)) uu w' → K _ w' := hK
            simp only [Act.put, List.setIfInBounds_toArray, List.set_cons_zero, List.set_cons_succ, e22, e26] at hK ⊢
            have HK := Lib.hid hK
            have HG := Lib.hid hG
            clear hK hd e22 e26
            have X0 := HQ.out.below HG.out
            have x2 := X0.x2
            have x3 := X0.x3
            clear hG X0
            go_simp
            exact HK.out _ _ (Below.refl _ _) HG.out rfl
          · intro vs wx hG hd K hK
            have e22 : vs 22 = .bool false := hd.get (j := 22) (by simp [depsOf, Region.binds])
            have e23 : vs 23 = .slice A2 rs.length c2 := hd.get (j := 23) (by simp [depsOf, Region.binds])
            have e27 : vs 27 = .slice A4 rs.length c4 := hd.get (j := 27) (by simp [depsOf, Region.binds])
            replace hK : ∀ (uu : Value) (w' : World), Below wx.heap.size wx w' → ((Gy W2)) w' → (Hb W2) (.inl (.bool true)) uu w' → K _ w' := hK
            simp only [Act.put, List.setIfInBounds_toArray, List.set_cons_zero, List.set_cons_succ, e22, e23, e27] at hK ⊢
            have HK := Lib.hid hK
            have HG := Lib.hid hG
            clear hK hd e22 e23 e27
            clear hG
            go_simp
            go_at_call 10
            refine (HSM.out _ HG.out).mono ?_
            rintro e w1 ⟨rfl, hb⟩
            exact HK.out _ _ hb (HG.out.below hb) rfl
          · intro vs wx hG hd K hK
            have e22 : vs 22 = .bool false := hd.get (j := 22) (by simp [depsOf, Region.binds])
            have e28 : vs 28 = .bool true := hd.get (j := 28) (by simp [depsOf, Region.binds])
            replace hK : ∀ (uu : Value) (w' : World), Below wx.heap.size wx w' → ((Gy W2)) w' → (Hb W2) (.inl (.bool false)) uu w' → K _ w' := hK
            simp only [Act.put, List.setIfInBounds_toArray, List.set_cons_zero, List.set_cons_succ, e22, e28] at hK ⊢
            have HK := Lib.hid hK
            have HG := Lib.hid hG
            clear hK hd e22 e28
            clear hG
            go_simp
            exact HK.out _ _ (Below.refl _ _) HG.out rfl
          · intro vs wx hG hd K hK
            have e13 : vs 13 = .bool true := hd.get (j := 13) (by simp [depsOf, Region.binds])
            have e22 : vs 22 = .bool false := hd.get (j := 22) (by simp [depsOf, Region.binds])
            have e29 : vs 29 = .bool false := hd.get (j := 29) (by simp [depsOf, Region.binds])
            replace hK : ∀ (uu : Value) (w' : World), Below wx.heap.size wx w' → ((Gy W2)) w' → (Hb W2) (.inl (.bool false)) uu w' → K _ w' := hK
            simp only [Act.put, List.setIfInBounds_toArray, List.set_cons_zero, List.set_cons_succ, e13, e22, e29] at hK ⊢
            have HK := Lib.hid hK
            have HG := Lib.hid hG
            clear hK hd e13 e22 e29
            clear hG
            go_simp
            exact HK.out _ _ (Below.refl _ _) HG.out rfl
          · intro vs wx hG hd K hK
            have e10 : vs 10 = .bool false := hd.get (j := 10) (by simp [depsOf, Region.binds])
            have e13 : vs 13 = .bool true := hd.get (j := 13) (by simp [depsOf, Region.binds])
            have e30 : vs 30 = .bool false := hd.get (j := 30) (by simp [depsOf, Region.binds])
            replace hK : ∀ (uu : Value) (w' : World), Below wx.heap.size wx w' → ((Gy W2)) w' → (Hb W2) (.inl (.bool false)) uu w' → K _ w' := hK
            simp only [Act.put, List.setIfInBounds_toArray, List.set_cons_zero, List.set_cons_succ, e10, e13, e30] at hK ⊢
            have HK := Lib.hid hK
            have HG := Lib.hid hG
            clear hK hd e10 e13 e30
            clear hG
            go_simp
            exact HK.out _ _ (Below.refl _ _) HG.out rfl
          · intro vs wx hG hd K hK
            have e10 : vs 10 = .bool false := hd.get (j := 10) (by simp [depsOf, Region.binds])
            have e31 : vs 31 = .bool false := hd.get (j := 31) (by simp [depsOf, Region.binds])
            replace hK : ∀ (uu : Value) (w' : World), Below wx.heap.size wx w' → ((Gy W2)) w' → (Hb W2) (.inl (.bool false)) uu w' → K _ w' := hK
            simp only [Act.put, List.setIfInBounds_toArray, List.set_cons_zero, List.set_cons_succ, e10, e31] at hK ⊢
            have HK := Lib.hid hK
            have HG := Lib.hid hG
            clear hK hd e10 e31
            clear hG
            go_simp
            exact HK.out _ _ (Below.refl _ _) HG.out rfl
          · intro vs wx hG hd K hK
            have e32 : vs 32 = .bool false := hd.get (j := 32) (by simp [depsOf, Region.binds])
            replace hK : ∀ (uu : Value) (w' : World), Below wx.heap.size wx w' → ((Gy W2)) w' → (Hb W2) (.inl (.bool false)) uu w' → K _ w' := hK
            simp only [Act.put, List.setIfInBounds_toArray, List.set_cons_zero, List.set_cons_succ, e32] at hK ⊢
            have HK := Lib.hid hK
            have HG := Lib.hid hG
            clear hK hd e32
            clear hG
            go_simp
            exact HK.out _ _ (Below.refl _ _) HG.out rfl
          · intro vs wx hG hd K hK
            have e33 : vs 33 = .bool false := hd.get (j := 33) (by simp [depsOf, Region.binds])
            replace hK : ∀ (uu : Value) (w' : World), Below wx.heap.size wx w' → ((Gy W2)) w' → (Hb W2) (.inl (dP d)) uu w' → K _ w' := hK
            simp only [Act.put, List.setIfInBounds_toArray, List.set_cons_zero, List.set_cons_succ, e33] at hK ⊢
            have HK := Lib.hid hK
            have HG := Lib.hid hG
            clear hK hd e33
            clear hG
            go_simp
            exact HK.out _ _ (Below.refl _ _) HG.out rfl
          · intro vs wx hG hd K hK
            have e33 : vs 33 = .bool false := hd.get (j := 33) (by simp [depsOf, Region.binds])
            replace hK : ∀ (uu : Value) (w' : World), Below wx.heap.size wx w' → ((Gy W2)) w' → (Hb W2) (.inl (rP m)) uu w' → K _ w' := hK
            simp only [Act.put, List.setIfInBounds_toArray, List.set_cons_zero, List.set_cons_succ, e33] at hK ⊢
            have HK := Lib.hid hK
            have HG := Lib.hid hG
            clear hK hd e33
            clear hG
            go_simp
            exact HK.out _ _ (Below.refl _ _) HG.out rfl
          · intro vs wx hG hd K hK
            have e33 : vs 33 = .bool false := hd.get (j := 33) (by simp [depsOf, Region.binds])
            have e34 : vs 34 = dP d := hd.get (j := 34) (by simp [depsOf, Region.binds])
            have e35 : vs 35 = rP m := hd.get (j := 35) (by simp [depsOf, Region.binds])
            replace hK : ∀ (uu : Value) (w' : World), Below wx.heap.size wx w' → ((Gy W2)) w' → (Hb W2) (.inl (.bool true)) uu w' → K _ w' := hK
            simp only [Act.put, List.setIfInBounds_toArray, List.set_cons_zero, List.set_cons_succ, e33, e34, e35] at hK ⊢
            have HK := Lib.hid hK
            have HG := Lib.hid hG
            clear hK hd e33 e34 e35
            clear hG
            go_simp
            go_at_call 11
            refine (HIS.out _ HG.out).mono ?_
            rintro e w1 ⟨rfl, hb⟩
            exact HK.out _ _ hb (HG.out.below hb) rfl
          · intro vs wx hG hd K hK
            have e33 : vs 33 = .bool false := hd.get (j := 33) (by simp [depsOf, Region.binds])
            have e36 : vs 36 = .bool true := hd.get (j := 36) (by simp [depsOf, Region.binds])
            replace hK : ∀ (uu : Value) (w' : World), Below wx.heap.size wx w' → ((Gy W2)) w' → (Hb W2) (.inl (.bool false)) uu w' → K _ w' := hK
            simp only [Act.put, List.setIfInBounds_toArray, List.set_cons_zero, List.set_cons_succ, e33, e36] at hK ⊢
            have HK := Lib.hid hK
            have HG := Lib.hid hG
            clear hK hd e33 e36
            clear hG
            go_simp
            exact HK.out _ _ (Below.refl _ _) HG.out rfl
          · intro vs wx hG hd K hK
            have e33 : vs 33 = .bool false := hd.get (j := 33) (by simp [depsOf, Region.binds])
            have e37 : vs 37 = .bool false := hd.get (j := 37) (by simp [depsOf, Region.binds])
            replace hK : ∀ (uu : Value) (w' : World), Below wx.heap.size wx w' → ((Gy W2)) w' → (Hb W2) (.inl (.bool false)) uu w' → K _ w' := hK
            simp only [Act.put, List.setIfInBounds_toArray, List.set_cons_zero, List.set_cons_succ, e33, e37] at hK ⊢
            have HK := Lib.hid hK
            have HG := Lib.hid hG
            clear hK hd e33 e37
            clear hG
            go_simp
            exact HK.out _ _ (Below.refl _ _) HG.out rfl
        case hend =>
          intro vs wx hG hv
          have e9 : vs 38 = .bool false := hv 38 (by decide)
          rw [e9]
          have HR := Lib.hid (HZ.out.below hG)
          clear hG hv e9
          go_wp2_with fail
          go_meet
          case rel => exact ⟨rfl, HR.out⟩

    case rest =>
      rename World => W3
      obtain ⟨h0, hcut⟩ := hcut
      subst h0
      have HZ3 : Hid (Lz w d m wv rv W3) := Lib.hid hcut
      clear hcut HZ hO
      go_wp2_with fail
      go_loopw [117, 12, 13, 14, 15, 16, 17] (fun iv v12 v13 v14 v15 v16 v17 wr => ∃ (i : Nat) (wu bu lu u1 ru u2 : Value), iv = .int .i64 (i : Int) ∧ wu = v12 ∧ bu = v13 ∧ lu = v14 ∧ u1 = v15 ∧ ru = v16 ∧ u2 = v17 ∧ i ≤ os.length ∧ Hid (Lz w d m wu ru wr)) (fun iv _ _ _ _ _ _ _ => os.length - (intOf iv).toNat)
      case atStart => exact ⟨0, _, _, _, _, _, _, rfl, rfl, rfl, rfl, rfl, rfl, rfl, Nat.zero_le _, HZ3⟩
      case round =>
        obtain ⟨i, wu, bu, lu, u1, ru, u2, rfl, rfl, rfl, rfl, rfl, rfl, rfl, hi, HZ⟩ := hrel
        rename World => W0
        clear HZ3
        by_cases hlt : i < os.length
        · obtain ⟨ad, A1, c1, A2, c2, hA, X⟩ := HO.out.get (List.getElem?_eq_getElem hlt)
          subst hA
          have hk0 := HKS.out os[i] (List.getElem_mem hlt)
          generalize os[i] = o at X hk0
          have x0 := (HZ.out.bel.cell X.lt).trans X.x0
          have x1 := (HZ.out.bel.cell (p := ⟨_, _, none⟩) X.lt).trans X.x1
          have x2 := (HZ.out.bel.cell (p := ⟨_, _, none⟩) X.lt).trans X.x2
          have x3 := (HZ.out.bel.cell (p := ⟨_, _, none⟩) X.lt).trans X.x3
          have hpl := X.bs.le
          have hpm := X.bs.max
          unfold maxLen at hpm
          have i0 : 0 ≤ (i : Int) := by omega
          have i1 : (i : Int) < os.length := by omega
          have m1 := X.n1
          have m2 := X.n2
          have HBX : Hid (Bs w w.heap.size A1 c1 o.p) := Lib.hid X.bs
          have HSR := Lib.hid X.sr
          have HKO := Lib.hid hk0
          obtain ⟨W1, hW1⟩ : ∃ W1, W1 = W0.alloc (.cells #[.int .i64 o.k, .slice A1 o.p.length c1, .int .i64 o.n, .slice A2 o.ks.length c2] 49) := ⟨_, rfl⟩
          have y0 : W1.cell? ⟨W0.heap.size, 0, none⟩ = some (.int .i64 o.k) := by rw [hW1]; simp [go_sem]
          have y1 : W1.cell? ⟨W0.heap.size, 1, none⟩ = some (.slice A1 o.p.length c1) := by rw [hW1]; simp [go_sem]
          have y2 : W1.cell? ⟨W0.heap.size, 2, none⟩ = some (.int .i64 o.n) := by rw [hW1]; simp [go_sem]
          have y3 : W1.cell? ⟨W0.heap.size, 3, none⟩ = some (.slice A2 o.ks.length c2) := by rw [hW1]; simp [go_sem]
          have hz1 : W0.heap.size < W1.heap.size := by rw [hW1]; simp
          have HBO : Hid (Below W0.heap.size W0 W1) := Lib.hid (by rw [hW1]; exact (Below.refl _ _).alloc (Nat.le_refl _) _)
          have HBW : Hid (Below w.heap.size w W1) := Lib.hid (by rw [hW1]; exact HZ.out.bel.alloc HZ.out.bel.size _)
          have HZ1 := Lib.hid (HZ.out.below HBO.out)
          have HW1 := Lib.hid hW1
          clear X hW1 hk0
          go_upto_region 20 with fail
          rw [← HW1.out]
          clear HW1 x0 x1 x2 x3
          by_cases hst : 40 ≤ i ∨ 1500 < o.p.length
          · have q : (decide ((40 : Int) ≤ (i : Int)) = true) ∨ (decide ((40 : Int) ≤ (i : Int)) = false ∧ decide ((1500 : Int) < (o.p.length : Int)) = true) := by
              simp only [decide_eq_true_eq, decide_eq_false_iff_not]
              omega
            clear hst
            rcases q with q | ⟨q, q2⟩
            all_goals
              go_wp2_with fail
              go_ret
              exact ⟨rfl, HBW.out⟩
          · have q1 : decide ((40 : Int) ≤ (i : Int)) = false := by simp; omega
            have q2 : decide ((1500 : Int) < (o.p.length : Int)) = false := by simp; omega
            have HP : Hid (o.p.length ≤ 1500) := Lib.hid (by omega)
            clear hst
            by_cases h34 : o.k = 3 ∨ o.k = 4
            · have HKK := Lib.hid h34
              have hdo : ∀ {k : Int}, o.k = k → Hid (Calls Try.prog 7 #[dP d, rP m, .agg #[.int .i64 o.k, .int .i64 o.n, .slice Option.none 0 0, .slice A2 o.ks.length c2]] W1 fun e w' => e = .returned (.bool true) ∧ Lz w d m wu ru w' ∧ Tn (fun k => k < W0.heap.size) W1 w') := fun _ => Lib.hid (Lz.does34 (p := []) (A1 := Option.none) (c1 := 0) HKK.out m2 HSR.out (by have := HKO.out; omega) HZ.out HBO.out)
              have HDO := hdo rfl
              clear hdo
              rcases h34 with hk | hk
              · have e3 : (o.k == (3 : Int)) = true := by simpa using hk
                have e4 : decide ((4 : Int) ≤ o.k) = false := by simp; omega
                have e0 : (o.k == (0 : Int)) = false := by simp; omega
                have e1 : (o.k == (1 : Int)) = false := by simp; omega
                have e2 : (o.k == (2 : Int)) = false := by simp; omega
                clear hk
                go_wp2_with fail
                refine HDO.out.mono ?_
                rintro e W2 ⟨rfl, Z2, t2⟩
                have z0 := t2.cell y0 (Nat.lt_irrefl _)
                have zl : W0.heap.size < W2.heap.size := World.block_lt_of_cell? _ _ z0
                have HZ2 := Lib.hid Z2
                clear t2 HDO
                rcases Z2.ways with ⟨rfl, rfl⟩ | ⟨p, q, rfl, rfl⟩
                all_goals
                  clear Z2
                  go_wp2_with fail
                  refine HZ2.out.is.mono ?_
                  rintro e W9 ⟨rfl, Z9⟩
                  have HZ9 := Lib.hid Z9
                  clear Z9
                  go_wp2_with fail
                  go_roundw
                  case rel => exact ⟨i + 1, _, _, _, _, _, _, by go_num, rfl, rfl, rfl, rfl, rfl, rfl, hlt, HZ9⟩
                  case measure => simp [intOf]; omega
              · have e3 : (o.k == (3 : Int)) = false := by simp; omega
                have e3b : (o.k == (4 : Int)) = true := by simpa using hk
                have e4 : decide ((4 : Int) ≤ o.k) = true := by simp; omega
                clear hk
                go_wp2_with fail
                refine HDO.out.mono ?_
                rintro e W4 ⟨rfl, Z2, t2⟩
                have z0 := t2.cell y0 (Nat.lt_irrefl _)
                have zl : W0.heap.size < W4.heap.size := World.block_lt_of_cell? _ _ z0
                have HZ2 := Lib.hid Z2
                clear t2 HDO Z2
                as_aux_lemma =>
                  obtain ⟨a, a', r, s, hrs, hs, hL, hn, hc⟩ := Dz.popen HZ2.out.dz
                  have HRS := Lib.hid hrs
                  have HSS := Lib.hid hs
                  have HLM := Lib.hid hL
                  have HNN := Lib.hid hn
                  have HPO := Lib.hid hc
                  clear hrs hs hL hn hc
                  go_wp2_with fail
                  refine HPO.out.mono ?_
                  rintro e W5 ⟨wv, bv9, lv, rfl, M⟩
                  have HM := Lib.hid M
                  clear M
                  go_wp2_with fail
                  refine (HM.out.ropen HRS.out HSS.out HLM.out HNN.out).mono ?_
                  rintro e W2 ⟨rv, rfl, O⟩
                  have HZ := Lib.hid O.1
                  have hO := O.2
                  clear O HM HPO HRS HSS HLM HNN
                  go_upto_region 27 with fail
                  go_cut [197] from 165 to 197 (fun u wx => u = .bool false ∧ Lz w d m wv rv wx)
                  case first =>
                    rcases hO with ⟨hr, rfl, rfl⟩ | ⟨rfl, p, q, s9, base, rs, A1, c1, A2, c2, A3, c3, A4, c4, rfl, rfl, rfl, rfl, hq, hb1, hb3, hr2, hr4⟩
                    · go_wp2_with fail
                      apply region_V (Hb W2) (Gy W2) [.inl (.int .i64 r), .inl (.int .i64 r), .inl (.bool false), .inl (.bool false), .inl (.pointer none), .inl (.bool true), .inl (.pointer none), .inl (.bool true), .inl (.bool false), .inl (.bool false), .inl (.bool false), .inl (.pointer none), .inl (.bool false), .inl (.bool false), .inl (undef), .inl (undef), .inl (undef), .inl (undef), .inl (undef), .inl (undef), .inl (undef), .inl (undef), .inl (undef), .inl (undef), .inl (undef), .inl (undef), .inl (undef), .inl (undef), .inl (undef), .inl (undef), .inl (undef), .inl (.bool false), .inl (.bool false)] (.inl undef)
                      case mono => exact fun p v w w1 h hb => Hb.mono h hb
                      case hm => kernel_rfl
                      case hf => kernel_rfl
                      case hQ => exact (by intro c x y w e h; exact And.intro (e.symm.trans (And.left h)) (And.right h))
                      case hF => intro vs; simp only [putAll, Act.put, List.setIfInBounds_toArray, List.set_cons_zero, List.set_cons_succ, Nat.reduceAdd]; rfl
                      case h0 => exact ⟨rfl, rfl, rfl, Nat.le_refl _, fun _ _ => rfl⟩
                      case hstep =>
                        repeat' (first | exact AllOps.nil | apply AllOps.cons)
                        · intro vs wx hG hd K hK
                          replace hK : ∀ (uu : Value) (w' : World), Below wx.heap.size wx w' → ((Gy W2)) w' → (Hb W2) (.inl (.int .i64 r)) uu w' → K _ w' := hK
                          simp only [Act.put, List.setIfInBounds_toArray, List.set_cons_zero, List.set_cons_succ] at hK ⊢
                          have HK := Lib.hid hK
                          have HG := Lib.hid hG
                          clear hK hd
                          clear hG
                          go_simp
                          exact HK.out _ _ (Below.refl _ _) HG.out rfl
                        · intro vs wx hG hd K hK
                          replace hK : ∀ (uu : Value) (w' : World), Below wx.heap.size wx w' → ((Gy W2)) w' → (Hb W2) (.inl (.int .i64 r)) uu w' → K _ w' := hK
                          simp only [Act.put, List.setIfInBounds_toArray, List.set_cons_zero, List.set_cons_succ] at hK ⊢
                          have HK := Lib.hid hK
                          have HG := Lib.hid hG
                          clear hK hd
                          clear hG
                          go_simp
                          exact HK.out _ _ (Below.refl _ _) HG.out rfl
                        · intro vs wx hG hd K hK
                          have e0 : vs 0 = .int .i64 r := hd.get (j := 0) (by simp [depsOf, Region.binds])
                          have e1 : vs 1 = .int .i64 r := hd.get (j := 1) (by simp [depsOf, Region.binds])
                          replace hK : ∀ (uu : Value) (w' : World), Below wx.heap.size wx w' → ((Gy W2)) w' → (Hb W2) (.inl (.bool false)) uu w' → K _ w' := hK
                          simp only [Act.put, List.setIfInBounds_toArray, List.set_cons_zero, List.set_cons_succ, e0, e1] at hK ⊢
                          have HK := Lib.hid hK
                          have HG := Lib.hid hG
                          clear hK hd e0 e1
                          clear hG
                          go_simp
                          exact HK.out _ _ (Below.refl _ _) HG.out rfl
                        · intro vs wx hG hd K hK
                          have e2 : vs 2 = .bool false := hd.get (j := 2) (by simp [depsOf, Region.binds])
                          replace hK : ∀ (uu : Value) (w' : World), Below wx.heap.size wx w' → ((Gy W2)) w' → (Hb W2) (.inl (.bool false)) uu w' → K _ w' := hK
                          simp only [Act.put, List.setIfInBounds_toArray, List.set_cons_zero, List.set_cons_succ, e2] at hK ⊢
                          have HK := Lib.hid hK
                          have HG := Lib.hid hG
                          clear hK hd e2
                          clear hG
                          go_simp
                          exact HK.out _ _ (Below.refl _ _) HG.out rfl
                        · intro vs wx hG hd K hK
                          have e3 : vs 3 = .bool false := hd.get (j := 3) (by simp [depsOf, Region.binds])
                          replace hK : ∀ (uu : Value) (w' : World), Below wx.heap.size wx w' → ((Gy W2)) w' → (Hb W2) (.inl (.pointer none)) uu w' → K _ w' := hK
                          simp only [Act.put, List.setIfInBounds_toArray, List.set_cons_zero, List.set_cons_succ, e3] at hK ⊢
                          have HK := Lib.hid hK
                          have HG := Lib.hid hG
                          clear hK hd e3
                          clear hG
                          go_simp
                          exact HK.out _ _ (Below.refl _ _) HG.out rfl
                        · intro vs wx hG hd K hK
                          have e3 : vs 3 = .bool false := hd.get (j := 3) (by simp [depsOf, Region.binds])
                          have e4 : vs 4 = .pointer none := hd.get (j := 4) (by simp [depsOf, Region.binds])
                          replace hK : ∀ (uu : Value) (w' : World), Below wx.heap.size wx w' → ((Gy W2)) w' → (Hb W2) (.inl (.bool true)) uu w' → K _ w' := hK
                          simp only [Act.put, List.setIfInBounds_toArray, List.set_cons_zero, List.set_cons_succ, e3, e4] at hK ⊢
                          have HK := Lib.hid hK
                          have HG := Lib.hid hG
                          clear hK hd e3 e4
                          clear hG
                          go_simp
                          exact HK.out _ _ (Below.refl _ _) HG.out rfl
                        · intro vs wx hG hd K hK
                          have e3 : vs 3 = .bool false := hd.get (j := 3) (by simp [depsOf, Region.binds])
                          replace hK : ∀ (uu : Value) (w' : World), Below wx.heap.size wx w' → ((Gy W2)) w' → (Hb W2) (.inl (.pointer none)) uu w' → K _ w' := hK
                          simp only [Act.put, List.setIfInBounds_toArray, List.set_cons_zero, List.set_cons_succ, e3] at hK ⊢
                          have HK := Lib.hid hK
                          have HG := Lib.hid hG
                          clear hK hd e3
                          clear hG
                          go_simp
                          exact HK.out _ _ (Below.refl _ _) HG.out rfl
                        · intro vs wx hG hd K hK
                          have e3 : vs 3 = .bool false := hd.get (j := 3) (by simp [depsOf, Region.binds])
                          have e6 : vs 6 = .pointer none := hd.get (j := 6) (by simp [depsOf, Region.binds])
                          replace hK : ∀ (uu : Value) (w' : World), Below wx.heap.size wx w' → ((Gy W2)) w' → (Hb W2) (.inl (.bool true)) uu w' → K _ w' := hK
                          simp only [Act.put, List.setIfInBounds_toArray, List.set_cons_zero, List.set_cons_succ, e3, e6] at hK ⊢
                          have HK := Lib.hid hK
                          have HG := Lib.hid hG
                          clear hK hd e3 e6
                          clear hG
                          go_simp
                          exact HK.out _ _ (Below.refl _ _) HG.out rfl
                        · intro vs wx hG hd K hK
                          have e3 : vs 3 = .bool false := hd.get (j := 3) (by simp [depsOf, Region.binds])
                          have e5 : vs 5 = .bool true := hd.get (j := 5) (by simp [depsOf, Region.binds])
                          have e7 : vs 7 = .bool true := hd.get (j := 7) (by simp [depsOf, Region.binds])
                          replace hK : ∀ (uu : Value) (w' : World), Below wx.heap.size wx w' → ((Gy W2)) w' → (Hb W2) (.inl (.bool false)) uu w' → K _ w' := hK
                          simp only [Act.put, List.setIfInBounds_toArray, List.set_cons_zero, List.set_cons_succ, e3, e5, e7] at hK ⊢
                          have HK := Lib.hid hK
                          have HG := Lib.hid hG
                          clear hK hd e3 e5 e7
                          clear hG
                          go_simp
                          exact HK.out _ _ (Below.refl _ _) HG.out rfl
                        · intro vs wx hG hd K hK
                          have e3 : vs 3 = .bool false := hd.get (j := 3) (by simp [depsOf, Region.binds])
                          have e8 : vs 8 = .bool false := hd.get (j := 8) (by simp [depsOf, Region.binds])
                          replace hK : ∀ (uu : Value) (w' : World), Below wx.heap.size wx w' → ((Gy W2)) w' → (Hb W2) (.inl (.bool false)) uu w' → K _ w' := hK
                          simp only [Act.put, List.setIfInBounds_toArray, List.set_cons_zero, List.set_cons_succ, e3, e8] at hK ⊢
                          have HK := Lib.hid hK
                          have HG := Lib.hid hG
                          clear hK hd e3 e8
                          clear hG
                          go_simp
                          exact HK.out _ _ (Below.refl _ _) HG.out rfl
                        · intro vs wx hG hd K hK
                          have e9 : vs 9 = .bool false := hd.get (j := 9) (by simp [depsOf, Region.binds])
                          replace hK : ∀ (uu : Value) (w' : World), Below wx.heap.size wx w' → ((Gy W2)) w' → (Hb W2) (.inl (.bool false)) uu w' → K _ w' := hK
                          simp only [Act.put, List.setIfInBounds_toArray, List.set_cons_zero, List.set_cons_succ, e9] at hK ⊢
                          have HK := Lib.hid hK
                          have HG := Lib.hid hG
                          clear hK hd e9
                          clear hG
                          go_simp
                          exact HK.out _ _ (Below.refl _ _) HG.out rfl
                        · intro vs wx hG hd K hK
                          have e10 : vs 10 = .bool false := hd.get (j := 10) (by simp [depsOf, Region.binds])
                          replace hK : ∀ (uu : Value) (w' : World), Below wx.heap.size wx w' → ((Gy W2)) w' → (Hb W2) (.inl (.pointer none)) uu w' → K _ w' := hK
                          simp only [Act.put, List.setIfInBounds_toArray, List.set_cons_zero, List.set_cons_succ, e10] at hK ⊢
                          have HK := Lib.hid hK
                          have HG := Lib.hid hG
                          clear hK hd e10
                          clear hG
                          go_simp
                          exact HK.out _ _ (Below.refl _ _) HG.out rfl
                        · intro vs wx hG hd K hK
                          have e10 : vs 10 = .bool false := hd.get (j := 10) (by simp [depsOf, Region.binds])
                          have e11 : vs 11 = .pointer none := hd.get (j := 11) (by simp [depsOf, Region.binds])
                          replace hK : ∀ (uu : Value) (w' : World), Below wx.heap.size wx w' → ((Gy W2)) w' → (Hb W2) (.inl (.bool false)) uu w' → K _ w' := hK
                          simp only [Act.put, List.setIfInBounds_toArray, List.set_cons_zero, List.set_cons_succ, e10, e11] at hK ⊢
                          have HK := Lib.hid hK
                          have HG := Lib.hid hG
                          clear hK hd e10 e11
                          clear hG
                          go_simp
                          exact HK.out _ _ (Below.refl _ _) HG.out rfl
                        · intro vs wx hG hd K hK
                          have e10 : vs 10 = .bool false := hd.get (j := 10) (by simp [depsOf, Region.binds])
                          have e12 : vs 12 = .bool false := hd.get (j := 12) (by simp [depsOf, Region.binds])
                          replace hK : ∀ (uu : Value) (w' : World), Below wx.heap.size wx w' → ((Gy W2)) w' → (Hb W2) (.inl (.bool false)) uu w' → K _ w' := hK
                          simp only [Act.put, List.setIfInBounds_toArray, List.set_cons_zero, List.set_cons_succ, e10, e12] at hK ⊢
                          have HK := Lib.hid hK
                          have HG := Lib.hid hG
                          clear hK hd e10 e12
                          clear hG
                          go_simp
                          exact HK.out _ _ (Below.refl _ _) HG.out rfl
                        · intro vs wx hG hd K hK
                          have e13 : vs 13 = .bool false := hd.get (j := 13) (by simp [depsOf, Region.binds])
                          replace hK : ∀ (uu : Value) (w' : World), Below wx.heap.size wx w' → ((Gy W2)) w' → (Hb W2) (.inl (undef)) uu w' → K _ w' := hK
                          simp only [Act.put, List.setIfInBounds_toArray, List.set_cons_zero, List.set_cons_succ, e13] at hK ⊢
                          have HK := Lib.hid hK
                          have HG := Lib.hid hG
                          clear hK hd e13
                          clear hG
                          go_simp
                          exact HK.out _ _ (Below.refl _ _) HG.out rfl
                        · intro vs wx hG hd K hK
                          have e13 : vs 13 = .bool false := hd.get (j := 13) (by simp [depsOf, Region.binds])
                          replace hK : ∀ (uu : Value) (w' : World), Below wx.heap.size wx w' → ((Gy W2)) w' → (Hb W2) (.inl (undef)) uu w' → K _ w' := hK
                          simp only [Act.put, List.setIfInBounds_toArray, List.set_cons_zero, List.set_cons_succ, e13] at hK ⊢
                          have HK := Lib.hid hK
                          have HG := Lib.hid hG
                          clear hK hd e13
                          clear hG
                          go_simp
                          exact HK.out _ _ (Below.refl _ _) HG.out rfl
                        · intro vs wx hG hd K hK
                          have e13 : vs 13 = .bool false := hd.get (j := 13) (by simp [depsOf, Region.binds])
                          replace hK : ∀ (uu : Value) (w' : World), Below wx.heap.size wx w' → ((Gy W2)) w' → (Hb W2) (.inl (undef)) uu w' → K _ w' := hK
                          simp only [Act.put, List.setIfInBounds_toArray, List.set_cons_zero, List.set_cons_succ, e13] at hK ⊢
                          have HK := Lib.hid hK
                          have HG := Lib.hid hG
                          clear hK hd e13
                          clear hG
                          go_simp
                          exact HK.out _ _ (Below.refl _ _) HG.out rfl
                        · intro vs wx hG hd K hK
                          have e13 : vs 13 = .bool false := hd.get (j := 13) (by simp [depsOf, Region.binds])
                          replace hK : ∀ (uu : Value) (w' : World), Below wx.heap.size wx w' → ((Gy W2)) w' → (Hb W2) (.inl (undef)) uu w' → K _ w' := hK
                          simp only [Act.put, List.setIfInBounds_toArray, List.set_cons_zero, List.set_cons_succ, e13] at hK ⊢
                          have HK := Lib.hid hK
                          have HG := Lib.hid hG
                          clear hK hd e13
                          clear hG
                          go_simp
                          exact HK.out _ _ (Below.refl _ _) HG.out rfl
                        · intro vs wx hG hd K hK
                          have e13 : vs 13 = .bool false := hd.get (j := 13) (by simp [depsOf, Region.binds])
                          replace hK : ∀ (uu : Value) (w' : World), Below wx.heap.size wx w' → ((Gy W2)) w' → (Hb W2) (.inl (undef)) uu w' → K _ w' := hK
                          simp only [Act.put, List.setIfInBounds_toArray, List.set_cons_zero, List.set_cons_succ, e13] at hK ⊢
                          have HK := Lib.hid hK
                          have HG := Lib.hid hG
                          clear hK hd e13
                          clear hG
                          go_simp
                          exact HK.out _ _ (Below.refl _ _) HG.out rfl
                        · intro vs wx hG hd K hK
                          have e13 : vs 13 = .bool false := hd.get (j := 13) (by simp [depsOf, Region.binds])
                          replace hK : ∀ (uu : Value) (w' : World), Below wx.heap.size wx w' → ((Gy W2)) w' → (Hb W2) (.inl (undef)) uu w' → K _ w' := hK
                          simp only [Act.put, List.setIfInBounds_toArray, List.set_cons_zero, List.set_cons_succ, e13] at hK ⊢
                          have HK := Lib.hid hK
                          have HG := Lib.hid hG
                          clear hK hd e13
                          clear hG
                          go_simp
                          exact HK.out _ _ (Below.refl _ _) HG.out rfl
                        · intro vs wx hG hd K hK
                          have e13 : vs 13 = .bool false := hd.get (j := 13) (by simp [depsOf, Region.binds])
                          replace hK : ∀ (uu : Value) (w' : World), Below wx.heap.size wx w' → ((Gy W2)) w' → (Hb W2) (.inl (undef)) uu w' → K _ w' := hK
                          simp only [Act.put, List.setIfInBounds_toArray, List.set_cons_zero, List.set_cons_succ, e13] at hK ⊢
                          have HK := Lib.hid hK
                          have HG := Lib.hid hG
                          clear hK hd e13
                          clear hG
                          go_simp
                          exact HK.out _ _ (Below.refl _ _) HG.out rfl
                        · intro vs wx hG hd K hK
                          have e13 : vs 13 = .bool false := hd.get (j := 13) (by simp [depsOf, Region.binds])
                          replace hK : ∀ (uu : Value) (w' : World), Below wx.heap.size wx w' → ((Gy W2)) w' → (Hb W2) (.inl (undef)) uu w' → K _ w' := hK
                          simp only [Act.put, List.setIfInBounds_toArray, List.set_cons_zero, List.set_cons_succ, e13] at hK ⊢
                          have HK := Lib.hid hK
                          have HG := Lib.hid hG
                          clear hK hd e13
                          clear hG
                          go_simp
                          exact HK.out _ _ (Below.refl _ _) HG.out rfl
                        · intro vs wx hG hd K hK
                          have e13 : vs 13 = .bool false := hd.get (j := 13) (by simp [depsOf, Region.binds])
                          replace hK : ∀ (uu : Value) (w' : World), Below wx.heap.size wx w' → ((Gy W2)) w' → (Hb W2) (.inl (undef)) uu w' → K _ w' := hK
                          simp only [Act.put, List.setIfInBounds_toArray, List.set_cons_zero, List.set_cons_succ, e13] at hK ⊢
                          have HK := Lib.hid hK
                          have HG := Lib.hid hG
                          clear hK hd e13
                          clear hG
                          go_simp
                          exact HK.out _ _ (Below.refl _ _) HG.out rfl
                        · intro vs wx hG hd K hK
                          have e22 : vs 22 = undef := hd.get (j := 22) (by simp [depsOf, Region.binds])
                          replace hK : ∀ (uu : Value) (w' : World), Below wx.heap.size wx w' → ((Gy W2)) w' → (Hb W2) (.inl (undef)) uu w' → K _ w' := hK
                          simp only [Act.put, List.setIfInBounds_toArray, List.set_cons_zero, List.set_cons_succ, e22] at hK ⊢
                          have HK := Lib.hid hK
                          have HG := Lib.hid hG
                          clear hK hd e22
                          clear hG
                          go_simp
                          exact HK.out _ _ (Below.refl _ _) HG.out rfl
                        · intro vs wx hG hd K hK
                          have e22 : vs 22 = undef := hd.get (j := 22) (by simp [depsOf, Region.binds])
                          replace hK : ∀ (uu : Value) (w' : World), Below wx.heap.size wx w' → ((Gy W2)) w' → (Hb W2) (.inl (undef)) uu w' → K _ w' := hK
                          simp only [Act.put, List.setIfInBounds_toArray, List.set_cons_zero, List.set_cons_succ, e22] at hK ⊢
                          have HK := Lib.hid hK
                          have HG := Lib.hid hG
                          clear hK hd e22
                          clear hG
                          go_simp
                          exact HK.out _ _ (Below.refl _ _) HG.out rfl
                        · intro vs wx hG hd K hK
                          have e22 : vs 22 = undef := hd.get (j := 22) (by simp [depsOf, Region.binds])
                          replace hK : ∀ (uu : Value) (w' : World), Below wx.heap.size wx w' → ((Gy W2)) w' → (Hb W2) (.inl (undef)) uu w' → K _ w' := hK
                          simp only [Act.put, List.setIfInBounds_toArray, List.set_cons_zero, List.set_cons_succ, e22] at hK ⊢
                          have HK := Lib.hid hK
                          have HG := Lib.hid hG
                          clear hK hd e22
                          clear hG
                          go_simp
                          exact HK.out _ _ (Below.refl _ _) HG.out rfl
                        · intro vs wx hG hd K hK
                          have e22 : vs 22 = undef := hd.get (j := 22) (by simp [depsOf, Region.binds])
                          replace hK : ∀ (uu : Value) (w' : World), Below wx.heap.size wx w' → ((Gy W2)) w' → (Hb W2) (.inl (undef)) uu w' → K _ w' := hK
                          simp only [Act.put, List.setIfInBounds_toArray, List.set_cons_zero, List.set_cons_succ, e22] at hK ⊢
                          have HK := Lib.hid hK
                          have HG := Lib.hid hG
                          clear hK hd e22
                          clear hG
                          go_simp
                          exact HK.out _ _ (Below.refl _ _) HG.out rfl
                        · intro vs wx hG hd K hK
                          have e22 : vs 22 = undef := hd.get (j := 22) (by simp [depsOf, Region.binds])
                          replace hK : ∀ (uu : Value) (w' : World), Below wx.heap.size wx w' → ((Gy W2)) w' → (Hb W2) (.inl (undef)) uu w' → K _ w' := hK
                          simp only [Act.put, List.setIfInBounds_toArray, List.set_cons_zero, List.set_cons_succ, e22] at hK ⊢
                          have HK := Lib.hid hK
                          have HG := Lib.hid hG
                          clear hK hd e22
                          clear hG
                          go_simp
                          exact HK.out _ _ (Below.refl _ _) HG.out rfl
                        · intro vs wx hG hd K hK
                          have e22 : vs 22 = undef := hd.get (j := 22) (by simp [depsOf, Region.binds])
                          replace hK : ∀ (uu : Value) (w' : World), Below wx.heap.size wx w' → ((Gy W2)) w' → (Hb W2) (.inl (undef)) uu w' → K _ w' := hK
                          simp only [Act.put, List.setIfInBounds_toArray, List.set_cons_zero, List.set_cons_succ, e22] at hK ⊢
                          have HK := Lib.hid hK
                          have HG := Lib.hid hG
                          clear hK hd e22
                          clear hG
                          go_simp
                          exact HK.out _ _ (Below.refl _ _) HG.out rfl
                        · intro vs wx hG hd K hK
                          have e22 : vs 22 = undef := hd.get (j := 22) (by simp [depsOf, Region.binds])
                          replace hK : ∀ (uu : Value) (w' : World), Below wx.heap.size wx w' → ((Gy W2)) w' → (Hb W2) (.inl (undef)) uu w' → K _ w' := hK
                          simp only [Act.put, List.setIfInBounds_toArray, List.set_cons_zero, List.set_cons_succ, e22] at hK ⊢
                          have HK := Lib.hid hK
                          have HG := Lib.hid hG
                          clear hK hd e22
                          clear hG
                          go_simp
                          exact HK.out _ _ (Below.refl _ _) HG.out rfl
                        · intro vs wx hG hd K hK
                          have e13 : vs 13 = .bool false := hd.get (j := 13) (by simp [depsOf, Region.binds])
                          replace hK : ∀ (uu : Value) (w' : World), Below wx.heap.size wx w' → ((Gy W2)) w' → (Hb W2) (.inl (undef)) uu w' → K _ w' := hK
                          simp only [Act.put, List.setIfInBounds_toArray, List.set_cons_zero, List.set_cons_succ, e13] at hK ⊢
                          have HK := Lib.hid hK
                          have HG := Lib.hid hG
                          clear hK hd e13
                          clear hG
                          go_simp
                          exact HK.out _ _ (Below.refl _ _) HG.out rfl
                        · intro vs wx hG hd K hK
                          have e10 : vs 10 = .bool false := hd.get (j := 10) (by simp [depsOf, Region.binds])
                          have e13 : vs 13 = .bool false := hd.get (j := 13) (by simp [depsOf, Region.binds])
                          have e30 : vs 30 = undef := hd.get (j := 30) (by simp [depsOf, Region.binds])
                          replace hK : ∀ (uu : Value) (w' : World), Below wx.heap.size wx w' → ((Gy W2)) w' → (Hb W2) (.inl (.bool false)) uu w' → K _ w' := hK
                          simp only [Act.put, List.setIfInBounds_toArray, List.set_cons_zero, List.set_cons_succ, e10, e13, e30] at hK ⊢
                          have HK := Lib.hid hK
                          have HG := Lib.hid hG
                          clear hK hd e10 e13 e30
                          clear hG
                          go_simp
                          exact HK.out _ _ (Below.refl _ _) HG.out rfl
                        · intro vs wx hG hd K hK
                          have e10 : vs 10 = .bool false := hd.get (j := 10) (by simp [depsOf, Region.binds])
                          have e31 : vs 31 = .bool false := hd.get (j := 31) (by simp [depsOf, Region.binds])
                          replace hK : ∀ (uu : Value) (w' : World), Below wx.heap.size wx w' → ((Gy W2)) w' → (Hb W2) (.inl (.bool false)) uu w' → K _ w' := hK
                          simp only [Act.put, List.setIfInBounds_toArray, List.set_cons_zero, List.set_cons_succ, e10, e31] at hK ⊢
                          have HK := Lib.hid hK
                          have HG := Lib.hid hG
                          clear hK hd e10 e31
                          clear hG
                          go_simp
                          exact HK.out _ _ (Below.refl _ _) HG.out rfl
                      case hend =>
                        intro vs wx hG hv
                        have e9 : vs 32 = .bool false := hv 32 (by decide)
                        rw [e9]
                        have HR := Lib.hid (HZ.out.below hG)
                        clear hG hv e9
                        go_wp2_with fail
                        go_meet
                        case rel => exact ⟨rfl, HR.out⟩
                    · have HQ := Lib.hid hq
                      have HS1 : Hid (∀ wx, Gy W2 wx → (convert 32 9 (.slice A1 base.length c1)).run Try.prog wx = .ok (.string (strB base)) wx) := Lib.hid fun wx h => bs_str (hb1.below h) rfl
                      have HS2 : Hid (∀ wx, Gy W2 wx → (convert 32 9 (.slice A3 base.length c3)).run Try.prog wx = .ok (.string (strB base)) wx) := Lib.hid fun wx h => bs_str (hb3.below h) rfl
                      have HSM : Hid (∀ wx, Gy W2 wx → Calls Try.prog 10 #[.slice A2 rs.length c2, .slice A4 rs.length c4] wx fun e w' => e = .returned (.bool true) ∧ Below wx.heap.size wx w') := Lib.hid fun wx h => wsame_any (hr2.below h) (hr4.below h) (Below.size h) (Below.size h)
                      clear hq hb1 hb3 hr2 hr4
                      go_wp2_with fail
                      apply region_V (Hb W2) (Gy W2) [.inl (.int .i64 0), .inl (.int .i64 0), .inl (.bool false), .inl (.bool false), .inl (wP p), .inl (.bool false), .inl (rP q), .inl (.bool false), .inl (.bool false), .inl (.bool false), .inl (.bool false), .inl (rP q), .inl (.bool true), .inl (.bool true), .inl (.slice A1 base.length c1), .inl (.string (strB base)), .inl (rP q), .inl (rP q), .inl (.pointer (some ⟨q, 2, none⟩)), .inl (.slice A3 base.length c3), .inl (.string (strB base)), .inl (.bool false), .inl (.bool false), .inl (.slice A2 rs.length c2), .inl (rP q), .inl (rP q), .inl (.pointer (some ⟨q, 3, none⟩)), .inl (.slice A4 rs.length c4), .inl (.bool true), .inl (.bool false), .inl (.bool false), .inl (.bool false), .inl (.bool false)] (.inl undef)
                      case mono => exact fun p v w w1 h hb => Hb.mono h hb
                      case hm => kernel_rfl
                      case hf => kernel_rfl
                      case hQ => exact (by intro c x y w e h; exact And.intro (e.symm.trans (And.left h)) (And.right h))
                      case hF => intro vs; simp only [putAll, Act.put, List.setIfInBounds_toArray, List.set_cons_zero, List.set_cons_succ, Nat.reduceAdd]; rfl
                      case h0 => exact ⟨rfl, rfl, rfl, Nat.le_refl _, fun _ _ => rfl⟩
                      case hstep =>
                        repeat' (first | exact AllOps.nil | apply AllOps.cons)
                        · intro vs wx hG hd K hK
                          replace hK : ∀ (uu : Value) (w' : World), Below wx.heap.size wx w' → ((Gy W2)) w' → (Hb W2) (.inl (.int .i64 0)) uu w' → K _ w' := hK
                          simp only [Act.put, List.setIfInBounds_toArray, List.set_cons_zero, List.set_cons_succ] at hK ⊢
                          have HK := Lib.hid hK
                          have HG := Lib.hid hG
                          clear hK hd
                          clear hG
                          go_simp
                          exact HK.out _ _ (Below.refl _ _) HG.out rfl
                        · intro vs wx hG hd K hK
                          replace hK : ∀ (uu : Value) (w' : World), Below wx.heap.size wx w' → ((Gy W2)) w' → (Hb W2) (.inl (.int .i64 0)) uu w' → K _ w' := hK
                          simp only [Act.put, List.setIfInBounds_toArray, List.set_cons_zero, List.set_cons_succ] at hK ⊢
                          have HK := Lib.hid hK
                          have HG := Lib.hid hG
                          clear hK hd
                          clear hG
                          go_simp
                          exact HK.out _ _ (Below.refl _ _) HG.out rfl
                        · intro vs wx hG hd K hK
                          have e0 : vs 0 = .int .i64 0 := hd.get (j := 0) (by simp [depsOf, Region.binds])
                          have e1 : vs 1 = .int .i64 0 := hd.get (j := 1) (by simp [depsOf, Region.binds])
                          replace hK : ∀ (uu : Value) (w' : World), Below wx.heap.size wx w' → ((Gy W2)) w' → (Hb W2) (.inl (.bool false)) uu w' → K _ w' := hK
                          simp only [Act.put, List.setIfInBounds_toArray, List.set_cons_zero, List.set_cons_succ, e0, e1] at hK ⊢
                          have HK := Lib.hid hK
                          have HG := Lib.hid hG
                          clear hK hd e0 e1
                          clear hG
                          go_simp
                          exact HK.out _ _ (Below.refl _ _) HG.out rfl
                        · intro vs wx hG hd K hK
                          have e2 : vs 2 = .bool false := hd.get (j := 2) (by simp [depsOf, Region.binds])
                          replace hK : ∀ (uu : Value) (w' : World), Below wx.heap.size wx w' → ((Gy W2)) w' → (Hb W2) (.inl (.bool false)) uu w' → K _ w' := hK
                          simp only [Act.put, List.setIfInBounds_toArray, List.set_cons_zero, List.set_cons_succ, e2] at hK ⊢
                          have HK := Lib.hid hK
                          have HG := Lib.hid hG
                          clear hK hd e2
                          clear hG
                          go_simp
                          exact HK.out _ _ (Below.refl _ _) HG.out rfl
                        · intro vs wx hG hd K hK
                          have e3 : vs 3 = .bool false := hd.get (j := 3) (by simp [depsOf, Region.binds])
                          replace hK : ∀ (uu : Value) (w' : World), Below wx.heap.size wx w' → ((Gy W2)) w' → (Hb W2) (.inl (wP p)) uu w' → K _ w' := hK
                          simp only [Act.put, List.setIfInBounds_toArray, List.set_cons_zero, List.set_cons_succ, e3] at hK ⊢
                          have HK := Lib.hid hK
                          have HG := Lib.hid hG
                          clear hK hd e3
                          clear hG
                          go_simp
                          exact HK.out _ _ (Below.refl _ _) HG.out rfl
                        · intro vs wx hG hd K hK
                          have e3 : vs 3 = .bool false := hd.get (j := 3) (by simp [depsOf, Region.binds])
                          have e4 : vs 4 = wP p := hd.get (j := 4) (by simp [depsOf, Region.binds])
                          replace hK : ∀ (uu : Value) (w' : World), Below wx.heap.size wx w' → ((Gy W2)) w' → (Hb W2) (.inl (.bool false)) uu w' → K _ w' := hK
                          simp only [Act.put, List.setIfInBounds_toArray, List.set_cons_zero, List.set_cons_succ, e3, e4] at hK ⊢
                          have HK := Lib.hid hK
                          have HG := Lib.hid hG
                          clear hK hd e3 e4
                          clear hG
                          go_simp
                          exact HK.out _ _ (Below.refl _ _) HG.out rfl
                        · intro vs wx hG hd K hK
                          have e3 : vs 3 = .bool false := hd.get (j := 3) (by simp [depsOf, Region.binds])
                          replace hK : ∀ (uu : Value) (w' : World), Below wx.heap.size wx w' → ((Gy W2)) w' → (Hb W2) (.inl (rP q)) uu w' → K _ w' := hK
                          simp only [Act.put, List.setIfInBounds_toArray, List.set_cons_zero, List.set_cons_succ, e3] at hK ⊢
                          have HK := Lib.hid hK
                          have HG := Lib.hid hG
                          clear hK hd e3
                          clear hG
                          go_simp
                          exact HK.out _ _ (Below.refl _ _) HG.out rfl
                        · intro vs wx hG hd K hK
                          have e3 : vs 3 = .bool false := hd.get (j := 3) (by simp [depsOf, Region.binds])
                          have e6 : vs 6 = rP q := hd.get (j := 6) (by simp [depsOf, Region.binds])
                          replace hK : ∀ (uu : Value) (w' : World), Below wx.heap.size wx w' → ((Gy W2)) w' → (Hb W2) (.inl (.bool false)) uu w' → K _ w' := hK
                          simp only [Act.put, List.setIfInBounds_toArray, List.set_cons_zero, List.set_cons_succ, e3, e6] at hK ⊢
                          have HK := Lib.hid hK
                          have HG := Lib.hid hG
                          clear hK hd e3 e6
                          clear hG
                          go_simp
                          exact HK.out _ _ (Below.refl _ _) HG.out rfl
                        · intro vs wx hG hd K hK
                          have e3 : vs 3 = .bool false := hd.get (j := 3) (by simp [depsOf, Region.binds])
                          have e5 : vs 5 = .bool false := hd.get (j := 5) (by simp [depsOf, Region.binds])
                          have e7 : vs 7 = .bool false := hd.get (j := 7) (by simp [depsOf, Region.binds])
                          replace hK : ∀ (uu : Value) (w' : World), Below wx.heap.size wx w' → ((Gy W2)) w' → (Hb W2) (.inl (.bool false)) uu w' → K _ w' := hK
                          simp only [Act.put, List.setIfInBounds_toArray, List.set_cons_zero, List.set_cons_succ, e3, e5, e7] at hK ⊢
                          have HK := Lib.hid hK
                          have HG := Lib.hid hG
                          clear hK hd e3 e5 e7
                          clear hG
                          go_simp
                          exact HK.out _ _ (Below.refl _ _) HG.out rfl
                        · intro vs wx hG hd K hK
                          have e3 : vs 3 = .bool false := hd.get (j := 3) (by simp [depsOf, Region.binds])
                          have e8 : vs 8 = .bool false := hd.get (j := 8) (by simp [depsOf, Region.binds])
                          replace hK : ∀ (uu : Value) (w' : World), Below wx.heap.size wx w' → ((Gy W2)) w' → (Hb W2) (.inl (.bool false)) uu w' → K _ w' := hK
                          simp only [Act.put, List.setIfInBounds_toArray, List.set_cons_zero, List.set_cons_succ, e3, e8] at hK ⊢
                          have HK := Lib.hid hK
                          have HG := Lib.hid hG
                          clear hK hd e3 e8
                          clear hG
                          go_simp
                          exact HK.out _ _ (Below.refl _ _) HG.out rfl
                        · intro vs wx hG hd K hK
                          have e9 : vs 9 = .bool false := hd.get (j := 9) (by simp [depsOf, Region.binds])
                          replace hK : ∀ (uu : Value) (w' : World), Below wx.heap.size wx w' → ((Gy W2)) w' → (Hb W2) (.inl (.bool false)) uu w' → K _ w' := hK
                          simp only [Act.put, List.setIfInBounds_toArray, List.set_cons_zero, List.set_cons_succ, e9] at hK ⊢
                          have HK := Lib.hid hK
                          have HG := Lib.hid hG
                          clear hK hd e9
                          clear hG
                          go_simp
                          exact HK.out _ _ (Below.refl _ _) HG.out rfl
                        · intro vs wx hG hd K hK
                          have e10 : vs 10 = .bool false := hd.get (j := 10) (by simp [depsOf, Region.binds])
                          replace hK : ∀ (uu : Value) (w' : World), Below wx.heap.size wx w' → ((Gy W2)) w' → (Hb W2) (.inl (rP q)) uu w' → K _ w' := hK
                          simp only [Act.put, List.setIfInBounds_toArray, List.set_cons_zero, List.set_cons_succ, e10] at hK ⊢
                          have HK := Lib.hid hK
                          have HG := Lib.hid hG
                          clear hK hd e10
                          clear hG
                          go_simp
                          exact HK.out _ _ (Below.refl _ _) HG.out rfl
                        · intro vs wx hG hd K hK
                          have e10 : vs 10 = .bool false := hd.get (j := 10) (by simp [depsOf, Region.binds])
                          have e11 : vs 11 = rP q := hd.get (j := 11) (by simp [depsOf, Region.binds])
                          replace hK : ∀ (uu : Value) (w' : World), Below wx.heap.size wx w' → ((Gy W2)) w' → (Hb W2) (.inl (.bool true)) uu w' → K _ w' := hK
                          simp only [Act.put, List.setIfInBounds_toArray, List.set_cons_zero, List.set_cons_succ, e10, e11] at hK ⊢
                          have HK := Lib.hid hK
                          have HG := Lib.hid hG
                          clear hK hd e10 e11
                          clear hG
                          go_simp
                          exact HK.out _ _ (Below.refl _ _) HG.out rfl
                        · intro vs wx hG hd K hK
                          have e10 : vs 10 = .bool false := hd.get (j := 10) (by simp [depsOf, Region.binds])
                          have e12 : vs 12 = .bool true := hd.get (j := 12) (by simp [depsOf, Region.binds])
                          replace hK : ∀ (uu : Value) (w' : World), Below wx.heap.size wx w' → ((Gy W2)) w' → (Hb W2) (.inl (.bool true)) uu w' → K _ w' := hK
                          simp only [Act.put, List.setIfInBounds_toArray, List.set_cons_zero, List.set_cons_succ, e10, e12] at hK ⊢
                          have HK := Lib.hid hK
                          have HG := Lib.hid hG
                          clear hK hd e10 e12
                          clear hG
                          go_simp
                          exact HK.out _ _ (Below.refl _ _) HG.out rfl
                        · intro vs wx hG hd K hK
                          have e13 : vs 13 = .bool true := hd.get (j := 13) (by simp [depsOf, Region.binds])
                          replace hK : ∀ (uu : Value) (w' : World), Below wx.heap.size wx w' → ((Gy W2)) w' → (Hb W2) (.inl (.slice A1 base.length c1)) uu w' → K _ w' := hK
                          simp only [Act.put, List.setIfInBounds_toArray, List.set_cons_zero, List.set_cons_succ, e13] at hK ⊢
                          have HK := Lib.hid hK
                          have HG := Lib.hid hG
                          clear hK hd e13
                          clear hG
                          go_simp
                          exact HK.out _ _ (Below.refl _ _) HG.out rfl
                        · intro vs wx hG hd K hK
                          have e13 : vs 13 = .bool true := hd.get (j := 13) (by simp [depsOf, Region.binds])
                          have e14 : vs 14 = .slice A1 base.length c1 := hd.get (j := 14) (by simp [depsOf, Region.binds])
                          replace hK : ∀ (uu : Value) (w' : World), Below wx.heap.size wx w' → ((Gy W2)) w' → (Hb W2) (.inl (.string (strB base))) uu w' → K _ w' := hK
                          simp only [Act.put, List.setIfInBounds_toArray, List.set_cons_zero, List.set_cons_succ, e13, e14] at hK ⊢
                          have HK := Lib.hid hK
                          have HG := Lib.hid hG
                          clear hK hd e13 e14
                          have hs9 := HS1.out _ HG.out
                          clear hG
                          go_simp
                          exact HK.out _ _ (Below.refl _ _) HG.out rfl
                        · intro vs wx hG hd K hK
                          have e13 : vs 13 = .bool true := hd.get (j := 13) (by simp [depsOf, Region.binds])
                          replace hK : ∀ (uu : Value) (w' : World), Below wx.heap.size wx w' → ((Gy W2)) w' → (Hb W2) (.inl (rP q)) uu w' → K _ w' := hK
                          simp only [Act.put, List.setIfInBounds_toArray, List.set_cons_zero, List.set_cons_succ, e13] at hK ⊢
                          have HK := Lib.hid hK
                          have HG := Lib.hid hG
                          clear hK hd e13
                          clear hG
                          go_simp
                          exact HK.out _ _ (Below.refl _ _) HG.out rfl
                        · intro vs wx hG hd K hK
                          have e13 : vs 13 = .bool true := hd.get (j := 13) (by simp [depsOf, Region.binds])
                          have e16 : vs 16 = rP q := hd.get (j := 16) (by simp [depsOf, Region.binds])
                          replace hK : ∀ (uu : Value) (w' : World), Below wx.heap.size wx w' → ((Gy W2)) w' → (Hb W2) (.inl (rP q)) uu w' → K _ w' := hK
                          simp only [Act.put, List.setIfInBounds_toArray, List.set_cons_zero, List.set_cons_succ, e13, e16] at hK ⊢
                          have HK := Lib.hid hK
                          have HG := Lib.hid hG
                          clear hK hd e13 e16
                          clear hG
                          go_simp
                          exact HK.out _ _ (Below.refl _ _) HG.out rfl
                        · intro vs wx hG hd K hK
                          have e13 : vs 13 = .bool true := hd.get (j := 13) (by simp [depsOf, Region.binds])
                          have e17 : vs 17 = rP q := hd.get (j := 17) (by simp [depsOf, Region.binds])
                          replace hK : ∀ (uu : Value) (w' : World), Below wx.heap.size wx w' → ((Gy W2)) w' → (Hb W2) (.inl (.pointer (some ⟨q, 2, none⟩))) uu w' → K _ w' := hK
                          simp only [Act.put, List.setIfInBounds_toArray, List.set_cons_zero, List.set_cons_succ, e13, e17] at hK ⊢
                          have HK := Lib.hid hK
                          have HG := Lib.hid hG
                          clear hK hd e13 e17
                          clear hG
                          go_simp
                          exact HK.out _ _ (Below.refl _ _) HG.out rfl
                        · intro vs wx hG hd K hK
                          have e13 : vs 13 = .bool true := hd.get (j := 13) (by simp [depsOf, Region.binds])
                          have e18 : vs 18 = .pointer (some ⟨q, 2, none⟩) := hd.get (j := 18) (by simp [depsOf, Region.binds])
                          replace hK : ∀ (uu : Value) (w' : World), Below wx.heap.size wx w' → ((Gy W2)) w' → (Hb W2) (.inl (.slice A3 base.length c3)) uu w' → K _ w' := hK
                          simp only [Act.put, List.setIfInBounds_toArray, List.set_cons_zero, List.set_cons_succ, e13, e18] at hK ⊢
                          have HK := Lib.hid hK
                          have HG := Lib.hid hG
                          clear hK hd e13 e18
                          have X0 := HQ.out.below HG.out
                          have x2 := X0.x2
                          have x3 := X0.x3
                          clear hG X0
                          go_simp
                          exact HK.out _ _ (Below.refl _ _) HG.out rfl
                        · intro vs wx hG hd K hK
                          have e13 : vs 13 = .bool true := hd.get (j := 13) (by simp [depsOf, Region.binds])
                          have e19 : vs 19 = .slice A3 base.length c3 := hd.get (j := 19) (by simp [depsOf, Region.binds])
                          replace hK : ∀ (uu : Value) (w' : World), Below wx.heap.size wx w' → ((Gy W2)) w' → (Hb W2) (.inl (.string (strB base))) uu w' → K _ w' := hK
                          simp only [Act.put, List.setIfInBounds_toArray, List.set_cons_zero, List.set_cons_succ, e13, e19] at hK ⊢
                          have HK := Lib.hid hK
                          have HG := Lib.hid hG
                          clear hK hd e13 e19
                          have hs9 := HS2.out _ HG.out
                          clear hG
                          go_simp
                          exact HK.out _ _ (Below.refl _ _) HG.out rfl
                        · intro vs wx hG hd K hK
                          have e13 : vs 13 = .bool true := hd.get (j := 13) (by simp [depsOf, Region.binds])
                          have e15 : vs 15 = .string (strB base) := hd.get (j := 15) (by simp [depsOf, Region.binds])
                          have e20 : vs 20 = .string (strB base) := hd.get (j := 20) (by simp [depsOf, Region.binds])
                          replace hK : ∀ (uu : Value) (w' : World), Below wx.heap.size wx w' → ((Gy W2)) w' → (Hb W2) (.inl (.bool false)) uu w' → K _ w' := hK
                          simp only [Act.put, List.setIfInBounds_toArray, List.set_cons_zero, List.set_cons_succ, e13, e15, e20] at hK ⊢
                          have HK := Lib.hid hK
                          have HG := Lib.hid hG
                          clear hK hd e13 e15 e20
                          clear hG
                          go_simp
                          exact HK.out _ _ (Below.refl _ _) HG.out rfl
                        · intro vs wx hG hd K hK
                          have e13 : vs 13 = .bool true := hd.get (j := 13) (by simp [depsOf, Region.binds])
                          have e21 : vs 21 = .bool false := hd.get (j := 21) (by simp [depsOf, Region.binds])
                          replace hK : ∀ (uu : Value) (w' : World), Below wx.heap.size wx w' → ((Gy W2)) w' → (Hb W2) (.inl (.bool false)) uu w' → K _ w' := hK
                          simp only [Act.put, List.setIfInBounds_toArray, List.set_cons_zero, List.set_cons_succ, e13, e21] at hK ⊢
                          have HK := Lib.hid hK
                          have HG := Lib.hid hG
                          clear hK hd e13 e21
                          clear hG
                          go_simp
                          exact HK.out _ _ (Below.refl _ _) HG.out rfl
                        · intro vs wx hG hd K hK
                          have e22 : vs 22 = .bool false := hd.get (j := 22) (by simp [depsOf, Region.binds])
                          replace hK : ∀ (uu : Value) (w' : World), Below wx.heap.size wx w' → ((Gy W2)) w' → (Hb W2) (.inl (.slice A2 rs.length c2)) uu w' → K _ w' := hK
                          simp only [Act.put, List.setIfInBounds_toArray, List.set_cons_zero, List.set_cons_succ, e22] at hK ⊢
                          have HK := Lib.hid hK
                          have HG := Lib.hid hG
                          clear hK hd e22
                          clear hG
                          go_simp
                          exact HK.out _ _ (Below.refl _ _) HG.out rfl
                        · intro vs wx hG hd K hK
                          have e22 : vs 22 = .bool false := hd.get (j := 22) (by simp [depsOf, Region.binds])
                          replace hK : ∀ (uu : Value) (w' : World), Below wx.heap.size wx w' → ((Gy W2)) w' → (Hb W2) (.inl (rP q)) uu w' → K _ w' := hK
                          simp only [Act.put, List.setIfInBounds_toArray, List.set_cons_zero, List.set_cons_succ, e22] at hK ⊢
                          have HK := Lib.hid hK
                          have HG := Lib.hid hG
                          clear hK hd e22
                          clear hG
                          go_simp
                          exact HK.out _ _ (Below.refl _ _) HG.out rfl
                        · intro vs wx hG hd K hK
                          have e22 : vs 22 = .bool false := hd.get (j := 22) (by simp [depsOf, Region.binds])
                          have e24 : vs 24 = rP q := hd.get (j := 24) (by simp [depsOf, Region.binds])
                          replace hK : ∀ (uu : Value) (w' : World), Below wx.heap.size wx w' → ((Gy W2)) w' → (Hb W2) (.inl (rP q)) uu w' → K _ w' := hK
                          simp only [Act.put, List.setIfInBounds_toArray, List.set_cons_zero, List.set_cons_succ, e22, e24] at hK ⊢
                          have HK := Lib.hid hK
                          have HG := Lib.hid hG
                          clear hK hd e22 e24
                          clear hG
                          go_simp
                          exact HK.out _ _ (Below.refl _ _) HG.out rfl
                        · intro vs wx hG hd K hK
                          have e22 : vs 22 = .bool false := hd.get (j := 22) (by simp [depsOf, Region.binds])
                          have e25 : vs 25 = rP q := hd.get (j := 25) (by simp [depsOf, Region.binds])
                          replace hK : ∀ (uu : Value) (w' : World), Below wx.heap.size wx w' → ((Gy W2)) w' → (Hb W2) (.inl (.pointer (some ⟨q, 3, none⟩))) uu w' → K _ w' := hK
                          simp only [Act.put, List.setIfInBounds_toArray, List.set_cons_zero, List.set_cons_succ, e22, e25] at hK ⊢
                          have HK := Lib.hid hK
                          have HG := Lib.hid hG
                          clear hK hd e22 e25
                          clear hG
                          go_simp
                          exact HK.out _ _ (Below.refl _ _) HG.out rfl
                        · intro vs wx hG hd K hK
                          have e22 : vs 22 = .bool false := hd.get (j := 22) (by simp [depsOf, Region.binds])
                          have e26 : vs 26 = .pointer (some ⟨q, 3, none⟩) := hd.get (j := 26) (by simp [depsOf, Region.binds])
                          replace hK : ∀ (uu : Value) (w' : World), Below wx.heap.size wx w' → ((Gy W2)) w' → (Hb W2) (.inl (.slice A4 rs.length c4)) uu w' → K _ w' := hK
                          simp only [Act.put, List.setIfInBounds_toArray, List.set_cons_zero, List.set_cons_succ, e22, e26] at hK ⊢
                          have HK := Lib.hid hK
                          have HG := Lib.hid hG
                          clear hK hd e22 e26
                          have X0 := HQ.out.below HG.out
                          have x2 := X0.x2
                          have x3 := X0.x3
                          clear hG X0
                          go_simp
                          exact HK.out _ _ (Below.refl _ _) HG.out rfl
                        · intro vs wx hG hd K hK
                          have e22 : vs 22 = .bool false := hd.get (j := 22) (by simp [depsOf, Region.binds])
                          have e23 : vs 23 = .slice A2 rs.length c2 := hd.get (j := 23) (by simp [depsOf, Region.binds])
                          have e27 : vs 27 = .slice A4 rs.length c4 := hd.get (j := 27) (by simp [depsOf, Region.binds])
                          replace hK : ∀ (uu : Value) (w' : World), Below wx.heap.size wx w' → ((Gy W2)) w' → (Hb W2) (.inl (.bool true)) uu w' → K _ w' := hK
                          simp only [Act.put, List.setIfInBounds_toArray, List.set_cons_zero, List.set_cons_succ, e22, e23, e27] at hK ⊢
                          have HK := Lib.hid hK
                          have HG := Lib.hid hG
                          clear hK hd e22 e23 e27
                          clear hG
                          go_simp
                          go_at_call 10
                          refine (HSM.out _ HG.out).mono ?_
                          rintro e w1 ⟨rfl, hb⟩
                          exact HK.out _ _ hb (HG.out.below hb) rfl
                        · intro vs wx hG hd K hK
                          have e22 : vs 22 = .bool false := hd.get (j := 22) (by simp [depsOf, Region.binds])
                          have e28 : vs 28 = .bool true := hd.get (j := 28) (by simp [depsOf, Region.binds])
                          replace hK : ∀ (uu : Value) (w' : World), Below wx.heap.size wx w' → ((Gy W2)) w' → (Hb W2) (.inl (.bool false)) uu w' → K _ w' := hK
                          simp only [Act.put, List.setIfInBounds_toArray, List.set_cons_zero, List.set_cons_succ, e22, e28] at hK ⊢
                          have HK := Lib.hid hK
                          have HG := Lib.hid hG
                          clear hK hd e22 e28
                          clear hG
                          go_simp
                          exact HK.out _ _ (Below.refl _ _) HG.out rfl
                        · intro vs wx hG hd K hK
                          have e13 : vs 13 = .bool true := hd.get (j := 13) (by simp [depsOf, Region.binds])
                          have e22 : vs 22 = .bool false := hd.get (j := 22) (by simp [depsOf, Region.binds])
                          have e29 : vs 29 = .bool false := hd.get (j := 29) (by simp [depsOf, Region.binds])
                          replace hK : ∀ (uu : Value) (w' : World), Below wx.heap.size wx w' → ((Gy W2)) w' → (Hb W2) (.inl (.bool false)) uu w' → K _ w' := hK
                          simp only [Act.put, List.setIfInBounds_toArray, List.set_cons_zero, List.set_cons_succ, e13, e22, e29] at hK ⊢
                          have HK := Lib.hid hK
                          have HG := Lib.hid hG
                          clear hK hd e13 e22 e29
                          clear hG
                          go_simp
                          exact HK.out _ _ (Below.refl _ _) HG.out rfl
                        · intro vs wx hG hd K hK
                          have e10 : vs 10 = .bool false := hd.get (j := 10) (by simp [depsOf, Region.binds])
                          have e13 : vs 13 = .bool true := hd.get (j := 13) (by simp [depsOf, Region.binds])
                          have e30 : vs 30 = .bool false := hd.get (j := 30) (by simp [depsOf, Region.binds])
                          replace hK : ∀ (uu : Value) (w' : World), Below wx.heap.size wx w' → ((Gy W2)) w' → (Hb W2) (.inl (.bool false)) uu w' → K _ w' := hK
                          simp only [Act.put, List.setIfInBounds_toArray, List.set_cons_zero, List.set_cons_succ, e10, e13, e30] at hK ⊢
                          have HK := Lib.hid hK
                          have HG := Lib.hid hG
                          clear hK hd e10 e13 e30
                          clear hG
                          go_simp
                          exact HK.out _ _ (Below.refl _ _) HG.out rfl
                        · intro vs wx hG hd K hK
                          have e10 : vs 10 = .bool false := hd.get (j := 10) (by simp [depsOf, Region.binds])
                          have e31 : vs 31 = .bool false := hd.get (j := 31) (by simp [depsOf, Region.binds])
                          replace hK : ∀ (uu : Value) (w' : World), Below wx.heap.size wx w' → ((Gy W2)) w' → (Hb W2) (.inl (.bool false)) uu w' → K _ w' := hK
                          simp only [Act.put, List.setIfInBounds_toArray, List.set_cons_zero, List.set_cons_succ, e10, e31] at hK ⊢
                          have HK := Lib.hid hK
                          have HG := Lib.hid hG
                          clear hK hd e10 e31
                          clear hG
                          go_simp
                          exact HK.out _ _ (Below.refl _ _) HG.out rfl
                      case hend =>
                        intro vs wx hG hv
                        have e9 : vs 32 = .bool false := hv 32 (by decide)
                        rw [e9]
                        have HR := Lib.hid (HZ.out.below hG)
                        clear hG hv e9
                        go_wp2_with fail
                        go_meet
                        case rel => exact ⟨rfl, HR.out⟩
                  case rest =>
                    rename World => W6
                    obtain ⟨h0, hcut⟩ := hcut
                    subst h0
                    have HZ6 : Hid (Lz w d m wv rv W6) := Lib.hid hcut
                    clear hcut
                    go_wp2_with fail
                    refine HZ6.out.is.mono ?_
                    rintro e W9 ⟨rfl, Z9⟩
                    have HZ9 := Lib.hid Z9
                    clear Z9
                    go_wp2_with fail
                    go_roundw
                    case rel => exact ⟨i + 1, _, _, _, _, _, _, by go_num, rfl, rfl, rfl, rfl, rfl, rfl, hlt, HZ9⟩
                    case measure => simp [intOf]; omega
            · have e3 : (o.k == (3 : Int)) = false := by simp; omega
              have e3b : (o.k == (4 : Int)) = false := by simp; omega
              by_cases h5 : 4 ≤ o.k
              · have e4 : decide ((4 : Int) ≤ o.k) = true := by simp; omega
                clear h34 h5
                as_aux_lemma =>
                  obtain ⟨a, a', r, s, hrs, hs, hL, hn, hc⟩ := Dz.popen HZ1.out.dz
                  have HRS := Lib.hid hrs
                  have HSS := Lib.hid hs
                  have HLM := Lib.hid hL
                  have HNN := Lib.hid hn
                  have HPO := Lib.hid hc
                  clear hrs hs hL hn hc
                  go_wp2_with fail
                  refine HPO.out.mono ?_
                  rintro e W5 ⟨wv, bv9, lv, rfl, M⟩
                  have HM := Lib.hid M
                  clear M
                  go_wp2_with fail
                  refine (HM.out.ropen HRS.out HSS.out HLM.out HNN.out).mono ?_
                  rintro e W2 ⟨rv, rfl, O⟩
                  have HZ := Lib.hid O.1
                  have hO := O.2
                  clear O HM HPO HRS HSS HLM HNN
                  go_upto_region 27 with fail
                  go_cut [197] from 165 to 197 (fun u wx => u = .bool false ∧ Lz w d m wv rv wx)
                  case first =>
                    rcases hO with ⟨hr, rfl, rfl⟩ | ⟨rfl, p, q, s9, base, rs, A1, c1, A2, c2, A3, c3, A4, c4, rfl, rfl, rfl, rfl, hq, hb1, hb3, hr2, hr4⟩
                    · go_wp2_with fail
                      apply region_V (Hb W2) (Gy W2) [.inl (.int .i64 r), .inl (.int .i64 r), .inl (.bool false), .inl (.bool false), .inl (.pointer none), .inl (.bool true), .inl (.pointer none), .inl (.bool true), .inl (.bool false), .inl (.bool false), .inl (.bool false), .inl (.pointer none), .inl (.bool false), .inl (.bool false), .inl (undef), .inl (undef), .inl (undef), .inl (undef), .inl (undef), .inl (undef), .inl (undef), .inl (undef), .inl (undef), .inl (undef), .inl (undef), .inl (undef), .inl (undef), .inl (undef), .inl (undef), .inl (undef), .inl (undef), .inl (.bool false), .inl (.bool false)] (.inl undef)
                      case mono => exact fun p v w w1 h hb => Hb.mono h hb
                      case hm => kernel_rfl
                      case hf => kernel_rfl
                      case hQ => exact (by intro c x y w e h; exact And.intro (e.symm.trans (And.left h)) (And.right h))
                      case hF => intro vs; simp only [putAll, Act.put, List.setIfInBounds_toArray, List.set_cons_zero, List.set_cons_succ, Nat.reduceAdd]; rfl
                      case h0 => exact ⟨rfl, rfl, rfl, Nat.le_refl _, fun _ _ => rfl⟩
                      case hstep =>
                        repeat' (first | exact AllOps.nil | apply AllOps.cons)
                        · intro vs wx hG hd K hK
                          replace hK : ∀ (uu : Value) (w' : World), Below wx.heap.size wx w' → ((Gy W2)) w' → (Hb W2) (.inl (.int .i64 r)) uu w' → K _ w' := hK
                          simp only [Act.put, List.setIfInBounds_toArray, List.set_cons_zero, List.set_cons_succ] at hK ⊢
                          have HK := Lib.hid hK
                          have HG := Lib.hid hG
                          clear hK hd
                          clear hG
                          go_simp
                          exact HK.out _ _ (Below.refl _ _) HG.out rfl
                        · intro vs wx hG hd K hK
                          replace hK : ∀ (uu : Value) (w' : World), Below wx.heap.size wx w' → ((Gy W2)) w' → (Hb W2) (.inl (.int .i64 r)) uu w' → K _ w' := hK
                          simp only [Act.put, List.setIfInBounds_toArray, List.set_cons_zero, List.set_cons_succ] at hK ⊢
                          have HK := Lib.hid hK
                          have HG := Lib.hid hG
                          clear hK hd
                          clear hG
                          go_simp
                          exact HK.out _ _ (Below.refl _ _) HG.out rfl
                        · intro vs wx hG hd K hK
                          have e0 : vs 0 = .int .i64 r := hd.get (j := 0) (by simp [depsOf, Region.binds])
                          have e1 : vs 1 = .int .i64 r := hd.get (j := 1) (by simp [depsOf, Region.binds])
                          replace hK : ∀ (uu : Value) (w' : World), Below wx.heap.size wx w' → ((Gy W2)) w' → (Hb W2) (.inl (.bool false)) uu w' → K _ w' := hK
                          simp only [Act.put, List.setIfInBounds_toArray, List.set_cons_zero, List.set_cons_succ, e0, e1] at hK ⊢
                          have HK := Lib.hid hK
                          have HG := Lib.hid hG
                          clear hK hd e0 e1
                          clear hG
                          go_simp
                          exact HK.out _ _ (Below.refl _ _) HG.out rfl
                        · intro vs wx hG hd K hK
                          have e2 : vs 2 = .bool false := hd.get (j := 2) (by simp [depsOf, Region.binds])
                          replace hK : ∀ (uu : Value) (w' : World), Below wx.heap.size wx w' → ((Gy W2)) w' → (Hb W2) (.inl (.bool false)) uu w' → K _ w' := hK
                          simp only [Act.put, List.setIfInBounds_toArray, List.set_cons_zero, List.set_cons_succ, e2] at hK ⊢
                          have HK := Lib.hid hK
                          have HG := Lib.hid hG
                          clear hK hd e2
                          clear hG
                          go_simp
                          exact HK.out _ _ (Below.refl _ _) HG.out rfl
                        · intro vs wx hG hd K hK
                          have e3 : vs 3 = .bool false := hd.get (j := 3) (by simp [depsOf, Region.binds])
                          replace hK : ∀ (uu : Value) (w' : World), Below wx.heap.size wx w' → ((Gy W2)) w' → (Hb W2) (.inl (.pointer none)) uu w' → K _ w' := hK
                          simp only [Act.put, List.setIfInBounds_toArray, List.set_cons_zero, List.set_cons_succ, e3] at hK ⊢
                          have HK := Lib.hid hK
                          have HG := Lib.hid hG
                          clear hK hd e3
                          clear hG
                          go_simp
                          exact HK.out _ _ (Below.refl _ _) HG.out rfl
                        · intro vs wx hG hd K hK
                          have e3 : vs 3 = .bool false := hd.get (j := 3) (by simp [depsOf, Region.binds])
                          have e4 : vs 4 = .pointer none := hd.get (j := 4) (by simp [depsOf, Region.binds])
                          replace hK : ∀ (uu : Value) (w' : World), Below wx.heap.size wx w' → ((Gy W2)) w' → (Hb W2) (.inl (.bool true)) uu w' → K _ w' := hK
                          simp only [Act.put, List.setIfInBounds_toArray, List.set_cons_zero, List.set_cons_succ, e3, e4] at hK ⊢
                          have HK := Lib.hid hK
                          have HG := Lib.hid hG
                          clear hK hd e3 e4
                          clear hG
                          go_simp
                          exact HK.out _ _ (Below.refl _ _) HG.out rfl
                        · intro vs wx hG hd K hK
                          have e3 : vs 3 = .bool false := hd.get (j := 3) (by simp [depsOf, Region.binds])
                          replace hK : ∀ (uu : Value) (w' : World), Below wx.heap.size wx w' → ((Gy W2)) w' → (Hb W2) (.inl (.pointer none)) uu w' → K _ w' := hK
                          simp only [Act.put, List.setIfInBounds_toArray, List.set_cons_zero, List.set_cons_succ, e3] at hK ⊢
                          have HK := Lib.hid hK
                          have HG := Lib.hid hG
                          clear hK hd e3
                          clear hG
                          go_simp
                          exact HK.out _ _ (Below.refl _ _) HG.out rfl
                        · intro vs wx hG hd K hK
                          have e3 : vs 3 = .bool false := hd.get (j := 3) (by simp [depsOf, Region.binds])
                          have e6 : vs 6 = .pointer none := hd.get (j := 6) (by simp [depsOf, Region.binds])
                          replace hK : ∀ (uu : Value) (w' : World), Below wx.heap.size wx w' → ((Gy W2)) w' → (Hb W2) (.inl (.bool true)) uu w' → K _ w' := hK
                          simp only [Act.put, List.setIfInBounds_toArray, List.set_cons_zero, List.set_cons_succ, e3, e6] at hK ⊢
                          have HK := Lib.hid hK
                          have HG := Lib.hid hG
                          clear hK hd e3 e6
                          clear hG
                          go_simp
                          exact HK.out _ _ (Below.refl _ _) HG.out rfl
                        · intro vs wx hG hd K hK
                          have e3 : vs 3 = .bool false := hd.get (j := 3) (by simp [depsOf, Region.binds])
                          have e5 : vs 5 = .bool true := hd.get (j := 5) (by simp [depsOf, Region.binds])
                          have e7 : vs 7 = .bool true := hd.get (j := 7) (by simp [depsOf, Region.binds])
                          replace hK : ∀ (uu : Value) (w' : World), Below wx.heap.size wx w' → ((Gy W2)) w' → (Hb W2) (.inl (.bool false)) uu w' → K _ w' := hK
                          simp only [Act.put, List.setIfInBounds_toArray, List.set_cons_zero, List.set_cons_succ, e3, e5, e7] at hK ⊢
                          have HK := Lib.hid hK
                          have HG := Lib.hid hG
                          clear hK hd e3 e5 e7
                          clear hG
                          go_simp
                          exact HK.out _ _ (Below.refl _ _) HG.out rfl
                        · intro vs wx hG hd K hK
                          have e3 : vs 3 = .bool false := hd.get (j := 3) (by simp [depsOf, Region.binds])
                          have e8 : vs 8 = .bool false := hd.get (j := 8) (by simp [depsOf, Region.binds])
                          replace hK : ∀ (uu : Value) (w' : World), Below wx.heap.size wx w' → ((Gy W2)) w' → (Hb W2) (.inl (.bool false)) uu w' → K _ w' := hK
                          simp only [Act.put, List.setIfInBounds_toArray, List.set_cons_zero, List.set_cons_succ, e3, e8] at hK ⊢
                          have HK := Lib.hid hK
                          have HG := Lib.hid hG
                          clear hK hd e3 e8
                          clear hG
                          go_simp
                          exact HK.out _ _ (Below.refl _ _) HG.out rfl
                        · intro vs wx hG hd K hK
                          have e9 : vs 9 = .bool false := hd.get (j := 9) (by simp [depsOf, Region.binds])
                          replace hK : ∀ (uu : Value) (w' : World), Below wx.heap.size wx w' → ((Gy W2)) w' → (Hb W2) (.inl (.bool false)) uu w' → K _ w' := hK
                          simp only [Act.put, List.setIfInBounds_toArray, List.set_cons_zero, List.set_cons_succ, e9] at hK ⊢
                          have HK := Lib.hid hK
                          have HG := Lib.hid hG
                          clear hK hd e9
                          clear hG
                          go_simp
                          exact HK.out _ _ (Below.refl _ _) HG.out rfl
                        · intro vs wx hG hd K hK
                          have e10 : vs 10 = .bool false := hd.get (j := 10) (by simp [depsOf, Region.binds])
                          replace hK : ∀ (uu : Value) (w' : World), Below wx.heap.size wx w' → ((Gy W2)) w' → (Hb W2) (.inl (.pointer none)) uu w' → K _ w' := hK
                          simp only [Act.put, List.setIfInBounds_toArray, List.set_cons_zero, List.set_cons_succ, e10] at hK ⊢
                          have HK := Lib.hid hK
                          have HG := Lib.hid hG
                          clear hK hd e10
                          clear hG
                          go_simp
                          exact HK.out _ _ (Below.refl _ _) HG.out rfl
                        · intro vs wx hG hd K hK
                          have e10 : vs 10 = .bool false := hd.get (j := 10) (by simp [depsOf, Region.binds])
                          have e11 : vs 11 = .pointer none := hd.get (j := 11) (by simp [depsOf, Region.binds])
                          replace hK : ∀ (uu : Value) (w' : World), Below wx.heap.size wx w' → ((Gy W2)) w' → (Hb W2) (.inl (.bool false)) uu w' → K _ w' := hK
                          simp only [Act.put, List.setIfInBounds_toArray, List.set_cons_zero, List.set_cons_succ, e10, e11] at hK ⊢
                          have HK := Lib.hid hK
                          have HG := Lib.hid hG
                          clear hK hd e10 e11
                          clear hG
                          go_simp
                          exact HK.out _ _ (Below.refl _ _) HG.out rfl
                        · intro vs wx hG hd K hK
                          have e10 : vs 10 = .bool false := hd.get (j := 10) (by simp [depsOf, Region.binds])
                          have e12 : vs 12 = .bool false := hd.get (j := 12) (by simp [depsOf, Region.binds])
                          replace hK : ∀ (uu : Value) (w' : World), Below wx.heap.size wx w' → ((Gy W2)) w' → (Hb W2) (.inl (.bool false)) uu w' → K _ w' := hK
                          simp only [Act.put, List.setIfInBounds_toArray, List.set_cons_zero, List.set_cons_succ, e10, e12] at hK ⊢
                          have HK := Lib.hid hK
                          have HG := Lib.hid hG
                          clear hK hd e10 e12
                          clear hG
                          go_simp
                          exact HK.out _ _ (Below.refl _ _) HG.out rfl
                        · intro vs wx hG hd K hK
                          have e13 : vs 13 = .bool false := hd.get (j := 13) (by simp [depsOf, Region.binds])
                          replace hK : ∀ (uu : Value) (w' : World), Below wx.heap.size wx w' → ((Gy W2)) w' → (Hb W2) (.inl (undef)) uu w' → K _ w' := hK
                          simp only [Act.put, List.setIfInBounds_toArray, List.set_cons_zero, List.set_cons_succ, e13] at hK ⊢
                          have HK := Lib.hid hK
                          have HG := Lib.hid hG
                          clear hK hd e13
                          clear hG
                          go_simp
                          exact HK.out _ _ (Below.refl _ _) HG.out rfl
                        · intro vs wx hG hd K hK
                          have e13 : vs 13 = .bool false := hd.get (j := 13) (by simp [depsOf, Region.binds])
                          replace hK : ∀ (uu : Value) (w' : World), Below wx.heap.size wx w' → ((Gy W2)) w' → (Hb W2) (.inl (undef)) uu w' → K _ w' := hK
                          simp only [Act.put, List.setIfInBounds_toArray, List.set_cons_zero, List.set_cons_succ, e13] at hK ⊢
                          have HK := Lib.hid hK
                          have HG := Lib.hid hG
                          clear hK hd e13
                          clear hG
                          go_simp
                          exact HK.out _ _ (Below.refl _ _) HG.out rfl
                        · intro vs wx hG hd K hK
                          have e13 : vs 13 = .bool false := hd.get (j := 13) (by simp [depsOf, Region.binds])
                          replace hK : ∀ (uu : Value) (w' : World), Below wx.heap.size wx w' → ((Gy W2)) w' → (Hb W2) (.inl (undef)) uu w' → K _ w' := hK
                          simp only [Act.put, List.setIfInBounds_toArray, List.set_cons_zero, List.set_cons_succ, e13] at hK ⊢
                          have HK := Lib.hid hK
                          have HG := Lib.hid hG
                          clear hK hd e13
                          clear hG
                          go_simp
                          exact HK.out _ _ (Below.refl _ _) HG.out rfl
                        · intro vs wx hG hd K hK
                          have e13 : vs 13 = .bool false := hd.get (j := 13) (by simp [depsOf, Region.binds])
                          replace hK : ∀ (uu : Value) (w' : World), Below wx.heap.size wx w' → ((Gy W2)) w' → (Hb W2) (.inl (undef)) uu w' → K _ w' := hK
                          simp only [Act.put, List.setIfInBounds_toArray, List.set_cons_zero, List.set_cons_succ, e13] at hK ⊢
                          have HK := Lib.hid hK
                          have HG := Lib.hid hG
                          clear hK hd e13
                          clear hG
                          go_simp
                          exact HK.out _ _ (Below.refl _ _) HG.out rfl
                        · intro vs wx hG hd K hK
                          have e13 : vs 13 = .bool false := hd.get (j := 13) (by simp [depsOf, Region.binds])
                          replace hK : ∀ (uu : Value) (w' : World), Below wx.heap.size wx w' → ((Gy W2)) w' → (Hb W2) (.inl (undef)) uu w' → K _ w' := hK
                          simp only [Act.put, List.setIfInBounds_toArray, List.set_cons_zero, List.set_cons_succ, e13] at hK ⊢
                          have HK := Lib.hid hK
                          have HG := Lib.hid hG
                          clear hK hd e13
                          clear hG
                          go_simp
                          exact HK.out _ _ (Below.refl _ _) HG.out rfl
                        · intro vs wx hG hd K hK
                          have e13 : vs 13 = .bool false := hd.get (j := 13) (by simp [depsOf, Region.binds])
                          replace hK : ∀ (uu : Value) (w' : World), Below wx.heap.size wx w' → ((Gy W2)) w' → (Hb W2) (.inl (undef)) uu w' → K _ w' := hK
                          simp only [Act.put, List.setIfInBounds_toArray, List.set_cons_zero, List.set_cons_succ, e13] at hK ⊢
                          have HK := Lib.hid hK
                          have HG := Lib.hid hG
                          clear hK hd e13
                          clear hG
                          go_simp
                          exact HK.out _ _ (Below.refl _ _) HG.out rfl
                        · intro vs wx hG hd K hK
                          have e13 : vs 13 = .bool false := hd.get (j := 13) (by simp [depsOf, Region.binds])
                          replace hK : ∀ (uu : Value) (w' : World), Below wx.heap.size wx w' → ((Gy W2)) w' → (Hb W2) (.inl (undef)) uu w' → K _ w' := hK
                          simp only [Act.put, List.setIfInBounds_toArray, List.set_cons_zero, List.set_cons_succ, e13] at hK ⊢
                          have HK := Lib.hid hK
                          have HG := Lib.hid hG
                          clear hK hd e13
                          clear hG
                          go_simp
                          exact HK.out _ _ (Below.refl _ _) HG.out rfl
                        · intro vs wx hG hd K hK
                          have e13 : vs 13 = .bool false := hd.get (j := 13) (by simp [depsOf, Region.binds])
                          replace hK : ∀ (uu : Value) (w' : World), Below wx.heap.size wx w' → ((Gy W2)) w' → (Hb W2) (.inl (undef)) uu w' → K _ w' := hK
                          simp only [Act.put, List.setIfInBounds_toArray, List.set_cons_zero, List.set_cons_succ, e13] at hK ⊢
                          have HK := Lib.hid hK
                          have HG := Lib.hid hG
                          clear hK hd e13
                          clear hG
                          go_simp
                          exact HK.out _ _ (Below.refl _ _) HG.out rfl
                        · intro vs wx hG hd K hK
                          have e13 : vs 13 = .bool false := hd.get (j := 13) (by simp [depsOf, Region.binds])
                          replace hK : ∀ (uu : Value) (w' : World), Below wx.heap.size wx w' → ((Gy W2)) w' → (Hb W2) (.inl (undef)) uu w' → K _ w' := hK
                          simp only [Act.put, List.setIfInBounds_toArray, List.set_cons_zero, List.set_cons_succ, e13] at hK ⊢
                          have HK := Lib.hid hK
                          have HG := Lib.hid hG
                          clear hK hd e13
                          clear hG
                          go_simp
                          exact HK.out _ _ (Below.refl _ _) HG.out rfl
                        · intro vs wx hG hd K hK
                          have e22 : vs 22 = undef := hd.get (j := 22) (by simp [depsOf, Region.binds])
                          replace hK : ∀ (uu : Value) (w' : World), Below wx.heap.size wx w' → ((Gy W2)) w' → (Hb W2) (.inl (undef)) uu w' → K _ w' := hK
                          simp only [Act.put, List.setIfInBounds_toArray, List.set_cons_zero, List.set_cons_succ, e22] at hK ⊢
                          have HK := Lib.hid hK
                          have HG := Lib.hid hG
                          clear hK hd e22
                          clear hG
                          go_simp
                          exact HK.out _ _ (Below.refl _ _) HG.out rfl
                        · intro vs wx hG hd K hK
                          have e22 : vs 22 = undef := hd.get (j := 22) (by simp [depsOf, Region.binds])
                          replace hK : ∀ (uu : Value) (w' : World), Below wx.heap.size wx w' → ((Gy W2)) w' → (Hb W2) (.inl (undef)) uu w' → K _ w' := hK
                          simp only [Act.put, List.setIfInBounds_toArray, List.set_cons_zero, List.set_cons_succ, e22] at hK ⊢
                          have HK := Lib.hid hK
                          have HG := Lib.hid hG
                          clear hK hd e22
                          clear hG
                          go_simp
                          exact HK.out _ _ (Below.refl _ _) HG.out rfl
                        · intro vs wx hG hd K hK
                          have e22 : vs 22 = undef := hd.get (j := 22) (by simp [depsOf, Region.binds])
                          replace hK : ∀ (uu : Value) (w' : World), Below wx.heap.size wx w' → ((Gy W2)) w' → (Hb W2) (.inl (undef)) uu w' → K _ w' := hK
                          simp only [Act.put, List.setIfInBounds_toArray, List.set_cons_zero, List.set_cons_succ, e22] at hK ⊢
                          have HK := Lib.hid hK
                          have HG := Lib.hid hG
                          clear hK hd e22
                          clear hG
                          go_simp
                          exact HK.out _ _ (Below.refl _ _) HG.out rfl
                        · intro vs wx hG hd K hK
                          have e22 : vs 22 = undef := hd.get (j := 22) (by simp [depsOf, Region.binds])
                          replace hK : ∀ (uu : Value) (w' : World), Below wx.heap.size wx w' → ((Gy W2)) w' → (Hb W2) (.inl (undef)) uu w' → K _ w' := hK
                          simp only [Act.put, List.setIfInBounds_toArray, List.set_cons_zero, List.set_cons_succ, e22] at hK ⊢
                          have HK := Lib.hid hK
                          have HG := Lib.hid hG
                          clear hK hd e22
                          clear hG
                          go_simp
                          exact HK.out _ _ (Below.refl _ _) HG.out rfl
                        · intro vs wx hG hd K hK
                          have e22 : vs 22 = undef := hd.get (j := 22) (by simp [depsOf, Region.binds])
                          replace hK : ∀ (uu : Value) (w' : World), Below wx.heap.size wx w' → ((Gy W2)) w' → (Hb W2) (.inl (undef)) uu w' → K _ w' := hK
                          simp only [Act.put, List.setIfInBounds_toArray, List.set_cons_zero, List.set_cons_succ, e22] at hK ⊢
                          have HK := Lib.hid hK
                          have HG := Lib.hid hG
                          clear hK hd e22
                          clear hG
                          go_simp
                          exact HK.out _ _ (Below.refl _ _) HG.out rfl
                        · intro vs wx hG hd K hK
                          have e22 : vs 22 = undef := hd.get (j := 22) (by simp [depsOf, Region.binds])
                          replace hK : ∀ (uu : Value) (w' : World), Below wx.heap.size wx w' → ((Gy W2)) w' → (Hb W2) (.inl (undef)) uu w' → K _ w' := hK
                          simp only [Act.put, List.setIfInBounds_toArray, List.set_cons_zero, List.set_cons_succ, e22] at hK ⊢
                          have HK := Lib.hid hK
                          have HG := Lib.hid hG
                          clear hK hd e22
                          clear hG
                          go_simp
                          exact HK.out _ _ (Below.refl _ _) HG.out rfl
                        · intro vs wx hG hd K hK
                          have e22 : vs 22 = undef := hd.get (j := 22) (by simp [depsOf, Region.binds])
                          replace hK : ∀ (uu : Value) (w' : World), Below wx.heap.size wx w' → ((Gy W2)) w' → (Hb W2) (.inl (undef)) uu w' → K _ w' := hK
                          simp only [Act.put, List.setIfInBounds_toArray, List.set_cons_zero, List.set_cons_succ, e22] at hK ⊢
                          have HK := Lib.hid hK
                          have HG := Lib.hid hG
                          clear hK hd e22
                          clear hG
                          go_simp
                          exact HK.out _ _ (Below.refl _ _) HG.out rfl
                        · intro vs wx hG hd K hK
                          have e13 : vs 13 = .bool false := hd.get (j := 13) (by simp [depsOf, Region.binds])
                          replace hK : ∀ (uu : Value) (w' : World), Below wx.heap.size wx w' → ((Gy W2)) w' → (Hb W2) (.inl (undef)) uu w' → K _ w' := hK
                          simp only [Act.put, List.setIfInBounds_toArray, List.set_cons_zero, List.set_cons_succ, e13] at hK ⊢
                          have HK := Lib.hid hK
                          have HG := Lib.hid hG
                          clear hK hd e13
                          clear hG
                          go_simp
                          exact HK.out _ _ (Below.refl _ _) HG.out rfl
                        · intro vs wx hG hd K hK
                          have e10 : vs 10 = .bool false := hd.get (j := 10) (by simp [depsOf, Region.binds])
                          have e13 : vs 13 = .bool false := hd.get (j := 13) (by simp [depsOf, Region.binds])
                          have e30 : vs 30 = undef := hd.get (j := 30) (by simp [depsOf, Region.binds])
                          replace hK : ∀ (uu : Value) (w' : World), Below wx.heap.size wx w' → ((Gy W2)) w' → (Hb W2) (.inl (.bool false)) uu w' → K _ w' := hK
                          simp only [Act.put, List.setIfInBounds_toArray, List.set_cons_zero, List.set_cons_succ, e10, e13, e30] at hK ⊢
                          have HK := Lib.hid hK
                          have HG := Lib.hid hG
                          clear hK hd e10 e13 e30
                          clear hG
                          go_simp
                          exact HK.out _ _ (Below.refl _ _) HG.out rfl
                        · intro vs wx hG hd K hK
                          have e10 : vs 10 = .bool false := hd.get (j := 10) (by simp [depsOf, Region.binds])
                          have e31 : vs 31 = .bool false := hd.get (j := 31) (by simp [depsOf, Region.binds])
                          replace hK : ∀ (uu : Value) (w' : World), Below wx.heap.size wx w' → ((Gy W2)) w' → (Hb W2) (.inl (.bool false)) uu w' → K _ w' := hK
                          simp only [Act.put, List.setIfInBounds_toArray, List.set_cons_zero, List.set_cons_succ, e10, e31] at hK ⊢
                          have HK := Lib.hid hK
                          have HG := Lib.hid hG
                          clear hK hd e10 e31
                          clear hG
                          go_simp
                          exact HK.out _ _ (Below.refl _ _) HG.out rfl
                      case hend =>
                        intro vs wx hG hv
                        have e9 : vs 32 = .bool false := hv 32 (by decide)
                        rw [e9]
                        have HR := Lib.hid (HZ.out.below hG)
                        clear hG hv e9
                        go_wp2_with fail
                        go_meet
                        case rel => exact ⟨rfl, HR.out⟩
                    · have HQ := Lib.hid hq
                      have HS1 : Hid (∀ wx, Gy W2 wx → (convert 32 9 (.slice A1 base.length c1)).run Try.prog wx = .ok (.string (strB base)) wx) := Lib.hid fun wx h => bs_str (hb1.below h) rfl
                      have HS2 : Hid (∀ wx, Gy W2 wx → (convert 32 9 (.slice A3 base.length c3)).run Try.prog wx = .ok (.string (strB base)) wx) := Lib.hid fun wx h => bs_str (hb3.below h) rfl
                      have HSM : Hid (∀ wx, Gy W2 wx → Calls Try.prog 10 #[.slice A2 rs.length c2, .slice A4 rs.length c4] wx fun e w' => e = .returned (.bool true) ∧ Below wx.heap.size wx w') := Lib.hid fun wx h => wsame_any (hr2.below h) (hr4.below h) (Below.size h) (Below.size h)
                      clear hq hb1 hb3 hr2 hr4
                      go_wp2_with fail
                      apply region_V (Hb W2) (Gy W2) [.inl (.int .i64 0), .inl (.int .i64 0), .inl (.bool false), .inl (.bool false), .inl (wP p), .inl (.bool false), .inl (rP q), .inl (.bool false), .inl (.bool false), .inl (.bool false), .inl (.bool false), .inl (rP q), .inl (.bool true), .inl (.bool true), .inl (.slice A1 base.length c1), .inl (.string (strB base)), .inl (rP q), .inl (rP q), .inl (.pointer (some ⟨q, 2, none⟩)), .inl (.slice A3 base.length c3), .inl (.string (strB base)), .inl (.bool false), .inl (.bool false), .inl (.slice A2 rs.length c2), .inl (rP q), .inl (rP q), .inl (.pointer (some ⟨q, 3, none⟩)), .inl (.slice A4 rs.length c4), .inl (.bool true), .inl (.bool false), .inl (.bool false), .inl (.bool false), .inl (.bool false)] (.inl undef)
                      case mono => exact fun p v w w1 h hb => Hb.mono h hb
                      case hm => kernel_rfl
                      case hf => kernel_rfl
                      case hQ => exact (by intro c x y w e h; exact And.intro (e.symm.trans (And.left h)) (And.right h))
                      case hF => intro vs; simp only [putAll, Act.put, List.setIfInBounds_toArray, List.set_cons_zero, List.set_cons_succ, Nat.reduceAdd]; rfl
                      case h0 => exact ⟨rfl, rfl, rfl, Nat.le_refl _, fun _ _ => rfl⟩
                      case hstep =>
                        repeat' (first | exact AllOps.nil | apply AllOps.cons)
                        · intro vs wx hG hd K hK
                          replace hK : ∀ (uu : Value) (w' : World), Below wx.heap.size wx w' → ((Gy W2)) w' → (Hb W2) (.inl (.int .i64 0)) uu w' → K _ w' := hK
                          simp only [Act.put, List.setIfInBounds_toArray, List.set_cons_zero, List.set_cons_succ] at hK ⊢
                          have HK := Lib.hid hK
                          have HG := Lib.hid hG
                          clear hK hd
                          clear hG
                          go_simp
                          exact HK.out _ _ (Below.refl _ _) HG.out rfl
                        · intro vs wx hG hd K hK
                          replace hK : ∀ (uu : Value) (w' : World), Below wx.heap.size wx w' → ((Gy W2)) w' → (Hb W2) (.inl (.int .i64 0)) uu w' → K _ w' := hK
                          simp only [Act.put, List.setIfInBounds_toArray, List.set_cons_zero, List.set_cons_succ] at hK ⊢
                          have HK := Lib.hid hK
                          have HG := Lib.hid hG
                          clear hK hd
                          clear hG
                          go_simp
                          exact HK.out _ _ (Below.refl _ _) HG.out rfl
                        · intro vs wx hG hd K hK
                          have e0 : vs 0 = .int .i64 0 := hd.get (j := 0) (by simp [depsOf, Region.binds])
                          have e1 : vs 1 = .int .i64 0 := hd.get (j := 1) (by simp [depsOf, Region.binds])
                          replace hK : ∀ (uu : Value) (w' : World), Below wx.heap.size wx w' → ((Gy W2)) w' → (Hb W2) (.inl (.bool false)) uu w' → K _ w' := hK
                          simp only [Act.put, List.setIfInBounds_toArray, List.set_cons_zero, List.set_cons_succ, e0, e1] at hK ⊢
                          have HK := Lib.hid hK
                          have HG := Lib.hid hG
                          clear hK hd e0 e1
                          clear hG
                          go_simp
                          exact HK.out _ _ (Below.refl _ _) HG.out rfl
                        · intro vs wx hG hd K hK
                          have e2 : vs 2 = .bool false := hd.get (j := 2) (by simp [depsOf, Region.binds])
                          replace hK : ∀ (uu : Value) (w' : World), Below wx.heap.size wx w' → ((Gy W2)) w' → (Hb W2) (.inl (.bool false)) uu w' → K _ w' := hK
                          simp only [Act.put, List.setIfInBounds_toArray, List.set_cons_zero, List.set_cons_succ, e2] at hK ⊢
                          have HK := Lib.hid hK
                          have HG := Lib.hid hG
                          clear hK hd e2
                          clear hG
                          go_simp
                          exact HK.out _ _ (Below.refl _ _) HG.out rfl
                        · intro vs wx hG hd K hK
                          have e3 : vs 3 = .bool false := hd.get (j := 3) (by simp [depsOf, Region.binds])
                          replace hK : ∀ (uu : Value) (w' : World), Below wx.heap.size wx w' → ((Gy W2)) w' → (Hb W2) (.inl (wP p)) uu w' → K _ w' := hK
                          simp only [Act.put, List.setIfInBounds_toArray, List.set_cons_zero, List.set_cons_succ, e3] at hK ⊢
                          have HK := Lib.hid hK
                          have HG := Lib.hid hG
                          clear hK hd e3
                          clear hG
                          go_simp
                          exact HK.out _ _ (Below.refl _ _) HG.out rfl
                        · intro vs wx hG hd K hK
                          have e3 : vs 3 = .bool false := hd.get (j := 3) (by simp [depsOf, Region.binds])
                          have e4 : vs 4 = wP p := hd.get (j := 4) (by simp [depsOf, Region.binds])
                          replace hK : ∀ (uu : Value) (w' : World), Below wx.heap.size wx w' → ((Gy W2)) w' → (Hb W2) (.inl (.bool false)) uu w' → K _ w' := hK
                          simp only [Act.put, List.setIfInBounds_toArray, List.set_cons_zero, List.set_cons_succ, e3, e4] at hK ⊢
                          have HK := Lib.hid hK
                          have HG := Lib.hid hG
                          clear hK hd e3 e4
                          clear hG
                          go_simp
                          exact HK.out _ _ (Below.refl _ _) HG.out rfl
                        · intro vs wx hG hd K hK
                          have e3 : vs 3 = .bool false := hd.get (j := 3) (by simp [depsOf, Region.binds])
                          replace hK : ∀ (uu : Value) (w' : World), Below wx.heap.size wx w' → ((Gy W2)) w' → (Hb W2) (.inl (rP q)) uu w' → K _ w' := hK
                          simp only [Act.put, List.setIfInBounds_toArray, List.set_cons_zero, List.set_cons_succ, e3] at hK ⊢
                          have HK := Lib.hid hK
                          have HG := Lib.hid hG
                          clear hK hd e3
                          clear hG
                          go_simp
                          exact HK.out _ _ (Below.refl _ _) HG.out rfl
                        · intro vs wx hG hd K hK
                          have e3 : vs 3 = .bool false := hd.get (j := 3) (by simp [depsOf, Region.binds])
                          have e6 : vs 6 = rP q := hd.get (j := 6) (by simp [depsOf, Region.binds])
                          replace hK : ∀ (uu : Value) (w' : World), Below wx.heap.size wx w' → ((Gy W2)) w' → (Hb W2) (.inl (.bool false)) uu w' → K _ w' := hK
                          simp only [Act.put, List.setIfInBounds_toArray, List.set_cons_zero, List.set_cons_succ, e3, e6] at hK ⊢
                          have HK := Lib.hid hK
                          have HG := Lib.hid hG
                          clear hK hd e3 e6
                          clear hG
                          go_simp
                          exact HK.out _ _ (Below.refl _ _) HG.out rfl
                        · intro vs wx hG hd K hK
                          have e3 : vs 3 = .bool false := hd.get (j := 3) (by simp [depsOf, Region.binds])
                          have e5 : vs 5 = .bool false := hd.get (j := 5) (by simp [depsOf, Region.binds])
                          have e7 : vs 7 = .bool false := hd.get (j := 7) (by simp [depsOf, Region.binds])
                          replace hK : ∀ (uu : Value) (w' : World), Below wx.heap.size wx w' → ((Gy W2)) w' → (Hb W2) (.inl (.bool false)) uu w' → K _ w' := hK
                          simp only [Act.put, List.setIfInBounds_toArray, List.set_cons_zero, List.set_cons_succ, e3, e5, e7] at hK ⊢
                          have HK := Lib.hid hK
                          have HG := Lib.hid hG
                          clear hK hd e3 e5 e7
                          clear hG
                          go_simp
                          exact HK.out _ _ (Below.refl _ _) HG.out rfl
                        · intro vs wx hG hd K hK
                          have e3 : vs 3 = .bool false := hd.get (j := 3) (by simp [depsOf, Region.binds])
                          have e8 : vs 8 = .bool false := hd.get (j := 8) (by simp [depsOf, Region.binds])
                          replace hK : ∀ (uu : Value) (w' : World), Below wx.heap.size wx w' → ((Gy W2)) w' → (Hb W2) (.inl (.bool false)) uu w' → K _ w' := hK
                          simp only [Act.put, List.setIfInBounds_toArray, List.set_cons_zero, List.set_cons_succ, e3, e8] at hK ⊢
                          have HK := Lib.hid hK
                          have HG := Lib.hid hG
                          clear hK hd e3 e8
                          clear hG
                          go_simp
                          exact HK.out _ _ (Below.refl _ _) HG.out rfl
                        · intro vs wx hG hd K hK
                          have e9 : vs 9 = .bool false := hd.get (j := 9) (by simp [depsOf, Region.binds])
                          replace hK : ∀ (uu : Value) (w' : World), Below wx.heap.size wx w' → ((Gy W2)) w' → (Hb W2) (.inl (.bool false)) uu w' → K _ w' := hK
                          simp only [Act.put, List.setIfInBounds_toArray, List.set_cons_zero, List.set_cons_succ, e9] at hK ⊢
                          have HK := Lib.hid hK
                          have HG := Lib.hid hG
                          clear hK hd e9
                          clear hG
                          go_simp
                          exact HK.out _ _ (Below.refl _ _) HG.out rfl
                        · intro vs wx hG hd K hK
                          have e10 : vs 10 = .bool false := hd.get (j := 10) (by simp [depsOf, Region.binds])
                          replace hK : ∀ (uu : Value) (w' : World), Below wx.heap.size wx w' → ((Gy W2)) w' → (Hb W2) (.inl (rP q)) uu w' → K _ w' := hK
                          simp only [Act.put, List.setIfInBounds_toArray, List.set_cons_zero, List.set_cons_succ, e10] at hK ⊢
                          have HK := Lib.hid hK
                          have HG := Lib.hid hG
                          clear hK hd e10
                          clear hG
                          go_simp
                          exact HK.out _ _ (Below.refl _ _) HG.out rfl
                        · intro vs wx hG hd K hK
                          have e10 : vs 10 = .bool false := hd.get (j := 10) (by simp [depsOf, Region.binds])
                          have e11 : vs 11 = rP q := hd.get (j := 11) (by simp [depsOf, Region.binds])
                          replace hK : ∀ (uu : Value) (w' : World), Below wx.heap.size wx w' → ((Gy W2)) w' → (Hb W2) (.inl (.bool true)) uu w' → K _ w' := hK
                          simp only [Act.put, List.setIfInBounds_toArray, List.set_cons_zero, List.set_cons_succ, e10, e11] at hK ⊢
                          have HK := Lib.hid hK
                          have HG := Lib.hid hG
                          clear hK hd e10 e11
                          clear hG
                          go_simp
                          exact HK.out _ _ (Below.refl _ _) HG.out rfl
                        · intro vs wx hG hd K hK
                          have e10 : vs 10 = .bool false := hd.get (j := 10) (by simp [depsOf, Region.binds])
                          have e12 : vs 12 = .bool true := hd.get (j := 12) (by simp [depsOf, Region.binds])
                          replace hK : ∀ (uu : Value) (w' : World), Below wx.heap.size wx w' → ((Gy W2)) w' → (Hb W2) (.inl (.bool true)) uu w' → K _ w' := hK
                          simp only [Act.put, List.setIfInBounds_toArray, List.set_cons_zero, List.set_cons_succ, e10, e12] at hK ⊢
                          have HK := Lib.hid hK
                          have HG := Lib.hid hG
                          clear hK hd e10 e12
                          clear hG
                          go_simp
                          exact HK.out _ _ (Below.refl _ _) HG.out rfl
                        · intro vs wx hG hd K hK
                          have e13 : vs 13 = .bool true := hd.get (j := 13) (by simp [depsOf, Region.binds])
                          replace hK : ∀ (uu : Value) (w' : World), Below wx.heap.size wx w' → ((Gy W2)) w' → (Hb W2) (.inl (.slice A1 base.length c1)) uu w' → K _ w' := hK
                          simp only [Act.put, List.setIfInBounds_toArray, List.set_cons_zero, List.set_cons_succ, e13] at hK ⊢
                          have HK := Lib.hid hK
                          have HG := Lib.hid hG
                          clear hK hd e13
                          clear hG
                          go_simp
                          exact HK.out _ _ (Below.refl _ _) HG.out rfl
                        · intro vs wx hG hd K hK
                          have e13 : vs 13 = .bool true := hd.get (j := 13) (by simp [depsOf, Region.binds])
                          have e14 : vs 14 = .slice A1 base.length c1 := hd.get (j := 14) (by simp [depsOf, Region.binds])
                          replace hK : ∀ (uu : Value) (w' : World), Below wx.heap.size wx w' → ((Gy W2)) w' → (Hb W2) (.inl (.string (strB base))) uu w' → K _ w' := hK
                          simp only [Act.put, List.setIfInBounds_toArray, List.set_cons_zero, List.set_cons_succ, e13, e14] at hK ⊢
                          have HK := Lib.hid hK
                          have HG := Lib.hid hG
                          clear hK hd e13 e14
                          have hs9 := HS1.out _ HG.out
                          clear hG
                          go_simp
                          exact HK.out _ _ (Below.refl _ _) HG.out rfl
                        · intro vs wx hG hd K hK
                          have e13 : vs 13 = .bool true := hd.get (j := 13) (by simp [depsOf, Region.binds])
                          replace hK : ∀ (uu : Value) (w' : World), Below wx.heap.size wx w' → ((Gy W2)) w' → (Hb W2) (.inl (rP q)) uu w' → K _ w' := hK
                          simp only [Act.put, List.setIfInBounds_toArray, List.set_cons_zero, List.set_cons_succ, e13] at hK ⊢
                          have HK := Lib.hid hK
                          have HG := Lib.hid hG
                          clear hK hd e13
                          clear hG
                          go_simp
                          exact HK.out _ _ (Below.refl _ _) HG.out rfl
                        · intro vs wx hG hd K hK
                          have e13 : vs 13 = .bool true := hd.get (j := 13) (by simp [depsOf, Region.binds])
                          have e16 : vs 16 = rP q := hd.get (j := 16) (by simp [depsOf, Region.binds])
                          replace hK : ∀ (uu : Value) (w' : World), Below wx.heap.size wx w' → ((Gy W2)) w' → (Hb W2) (.inl (rP q)) uu w' → K _ w' := hK
                          simp only [Act.put, List.setIfInBounds_toArray, List.set_cons_zero, List.set_cons_succ, e13, e16] at hK ⊢
                          have HK := Lib.hid hK
                          have HG := Lib.hid hG
                          clear hK hd e13 e16
                          clear hG
                          go_simp
                          exact HK.out _ _ (Below.refl _ _) HG.out rfl
                        · intro vs wx hG hd K hK
                          have e13 : vs 13 = .bool true := hd.get (j := 13) (by simp [depsOf, Region.binds])
                          have e17 : vs 17 = rP q := hd.get (j := 17) (by simp [depsOf, Region.binds])
                          replace hK : ∀ (uu : Value) (w' : World), Below wx.heap.size wx w' → ((Gy W2)) w' → (Hb W2) (.inl (.pointer (some ⟨q, 2, none⟩))) uu w' → K _ w' := hK
                          simp only [Act.put, List.setIfInBounds_toArray, List.set_cons_zero, List.set_cons_succ, e13, e17] at hK ⊢
                          have HK := Lib.hid hK
                          have HG := Lib.hid hG
                          clear hK hd e13 e17
                          clear hG
                          go_simp
                          exact HK.out _ _ (Below.refl _ _) HG.out rfl
                        · intro vs wx hG hd K hK
                          have e13 : vs 13 = .bool true := hd.get (j := 13) (by simp [depsOf, Region.binds])
                          have e18 : vs 18 = .pointer (some ⟨q, 2, none⟩) := hd.get (j := 18) (by simp [depsOf, Region.binds])
                          replace hK : ∀ (uu : Value) (w' : World), Below wx.heap.size wx w' → ((Gy W2)) w' → (Hb W2) (.inl (.slice A3 base.length c3)) uu w' → K _ w' := hK
                          simp only [Act.put, List.setIfInBounds_toArray, List.set_cons_zero, List.set_cons_succ, e13, e18] at hK ⊢
                          have HK := Lib.hid hK
                          have HG := Lib.hid hG
                          clear hK hd e13 e18
                          have X0 := HQ.out.below HG.out
                          have x2 := X0.x2
                          have x3 := X0.x3
                          clear hG X0
                          go_simp
                          exact HK.out _ _ (Below.refl _ _) HG.out rfl
                        · intro vs wx hG hd K hK
                          have e13 : vs 13 = .bool true := hd.get (j := 13) (by simp [depsOf, Region.binds])
                          have e19 : vs 19 = .slice A3 base.length c3 := hd.get (j := 19) (by simp [depsOf, Region.binds])
                          replace hK : ∀ (uu : Value) (w' : World), Below wx.heap.size wx w' → ((Gy W2)) w' → (Hb W2) (.inl (.string (strB base))) uu w' → K _ w' := hK
                          simp only [Act.put, List.setIfInBounds_toArray, List.set_cons_zero, List.set_cons_succ, e13, e19] at hK ⊢
                          have HK := Lib.hid hK
                          have HG := Lib.hid hG
                          clear hK hd e13 e19
                          have hs9 := HS2.out _ HG.out
                          clear hG
                          go_simp
                          exact HK.out _ _ (Below.refl _ _) HG.out rfl
                        · intro vs wx hG hd K hK
                          have e13 : vs 13 = .bool true := hd.get (j := 13) (by simp [depsOf, Region.binds])
                          have e15 : vs 15 = .string (strB base) := hd.get (j := 15) (by simp [depsOf, Region.binds])
                          have e20 : vs 20 = .string (strB base) := hd.get (j := 20) (by simp [depsOf, Region.binds])
                          replace hK : ∀ (uu : Value) (w' : World), Below wx.heap.size wx w' → ((Gy W2)) w' → (Hb W2) (.inl (.bool false)) uu w' → K _ w' := hK
                          simp only [Act.put, List.setIfInBounds_toArray, List.set_cons_zero, List.set_cons_succ, e13, e15, e20] at hK ⊢
                          have HK := Lib.hid hK
                          have HG := Lib.hid hG
                          clear hK hd e13 e15 e20
                          clear hG
                          go_simp
                          exact HK.out _ _ (Below.refl _ _) HG.out rfl
                        · intro vs wx hG hd K hK
                          have e13 : vs 13 = .bool true := hd.get (j := 13) (by simp [depsOf, Region.binds])
                          have e21 : vs 21 = .bool false := hd.get (j := 21) (by simp [depsOf, Region.binds])
                          replace hK : ∀ (uu : Value) (w' : World), Below wx.heap.size wx w' → ((Gy W2)) w' → (Hb W2) (.inl (.bool false)) uu w' → K _ w' := hK
                          simp only [Act.put, List.setIfInBounds_toArray, List.set_cons_zero, List.set_cons_succ, e13, e21] at hK ⊢
                          have HK := Lib.hid hK
                          have HG := Lib.hid hG
                          clear hK hd e13 e21
                          clear hG
                          go_simp
                          exact HK.out _ _ (Below.refl _ _) HG.out rfl
                        · intro vs wx hG hd K hK
                          have e22 : vs 22 = .bool false := hd.get (j := 22) (by simp [depsOf, Region.binds])
                          replace hK : ∀ (uu : Value) (w' : World), Below wx.heap.size wx w' → ((Gy W2)) w' → (Hb W2) (.inl (.slice A2 rs.length c2)) uu w' → K _ w' := hK
                          simp only [Act.put, List.setIfInBounds_toArray, List.set_cons_zero, List.set_cons_succ, e22] at hK ⊢
                          have HK := Lib.hid hK
                          have HG := Lib.hid hG
                          clear hK hd e22
                          clear hG
                          go_simp
                          exact HK.out _ _ (Below.refl _ _) HG.out rfl
                        · intro vs wx hG hd K hK
                          have e22 : vs 22 = .bool false := hd.get (j := 22) (by simp [depsOf, Region.binds])
                          replace hK : ∀ (uu : Value) (w' : World), Below wx.heap.size wx w' → ((Gy W2)) w' → (Hb W2) (.inl (rP q)) uu w' → K _ w' := hK
                          simp only [Act.put, List.setIfInBounds_toArray, List.set_cons_zero, List.set_cons_succ, e22] at hK ⊢
                          have HK := Lib.hid hK
                          have HG := Lib.hid hG
                          clear hK hd e22
                          clear hG
                          go_simp
                          exact HK.out _ _ (Below.refl _ _) HG.out rfl
                        · intro vs wx hG hd K hK
                          have e22 : vs 22 = .bool false := hd.get (j := 22) (by simp [depsOf, Region.binds])
                          have e24 : vs 24 = rP q := hd.get (j := 24) (by simp [depsOf, Region.binds])
                          replace hK : ∀ (uu : Value) (w' : World), Below wx.heap.size wx w' → ((Gy W2)) w' → (Hb W2) (.inl (rP q)) uu w' → K _ w' := hK
                          simp only [Act.put, List.setIfInBounds_toArray, List.set_cons_zero, List.set_cons_succ, e22, e24] at hK ⊢
                          have HK := Lib.hid hK
                          have HG := Lib.hid hG
                          clear hK hd e22 e24
                          clear hG
                          go_simp
                          exact HK.out _ _ (Below.refl _ _) HG.out rfl
                        · intro vs wx hG hd K hK
                          have e22 : vs 22 = .bool false := hd.get (j := 22) (by simp [depsOf, Region.binds])
                          have e25 : vs 25 = rP q := hd.get (j := 25) (by simp [depsOf, Region.binds])
                          replace hK : ∀ (uu : Value) (w' : World), Below wx.heap.size wx w' → ((Gy W2)) w' → (Hb W2) (.inl (.pointer (some ⟨q, 3, none⟩))) uu w' → K _ w' := hK
                          simp only [Act.put, List.setIfInBounds_toArray, List.set_cons_zero, List.set_cons_succ, e22, e25] at hK ⊢
                          have HK := Lib.hid hK
                          have HG := Lib.hid hG
                          clear hK hd e22 e25
                          clear hG
                          go_simp
                          exact HK.out _ _ (Below.refl _ _) HG.out rfl
                        · intro vs wx hG hd K hK
                          have e22 : vs 22 = .bool false := hd.get (j := 22) (by simp [depsOf, Region.binds])
                          have e26 : vs 26 = .pointer (some ⟨q, 3, none⟩) := hd.get (j := 26) (by simp [depsOf, Region.binds])
                          replace hK : ∀ (uu : Value) (w' : World), Below wx.heap.size wx w' → ((Gy W2)) w' → (Hb W2) (.inl (.slice A4 rs.length c4)) uu w' → K _ w' := hK
                          simp only [Act.put, List.setIfInBounds_toArray, List.set_cons_zero, List.set_cons_succ, e22, e26] at hK ⊢
                          have HK := Lib.hid hK
                          have HG := Lib.hid hG
                          clear hK hd e22 e26
                          have X0 := HQ.out.below HG.out
                          have x2 := X0.x2
                          have x3 := X0.x3
                          clear hG X0
                          go_simp
                          exact HK.out _ _ (Below.refl _ _) HG.out rfl
                        · intro vs wx hG hd K hK
                          have e22 : vs 22 = .bool false := hd.get (j := 22) (by simp [depsOf, Region.binds])
                          have e23 : vs 23 = .slice A2 rs.length c2 := hd.get (j := 23) (by simp [depsOf, Region.binds])
                          have e27 : vs 27 = .slice A4 rs.length c4 := hd.get (j := 27) (by simp [depsOf, Region.binds])
                          replace hK : ∀ (uu : Value) (w' : World), Below wx.heap.size wx w' → ((Gy W2)) w' → (Hb W2) (.inl (.bool true)) uu w' → K _ w' := hK
                          simp only [Act.put, List.setIfInBounds_toArray, List.set_cons_zero, List.set_cons_succ, e22, e23, e27] at hK ⊢
                          have HK := Lib.hid hK
                          have HG := Lib.hid hG
                          clear hK hd e22 e23 e27
                          clear hG
                          go_simp
                          go_at_call 10
                          refine (HSM.out _ HG.out).mono ?_
                          rintro e w1 ⟨rfl, hb⟩
                          exact HK.out _ _ hb (HG.out.below hb) rfl
                        · intro vs wx hG hd K hK
                          have e22 : vs 22 = .bool false := hd.get (j := 22) (by simp [depsOf, Region.binds])
                          have e28 : vs 28 = .bool true := hd.get (j := 28) (by simp [depsOf, Region.binds])
                          replace hK : ∀ (uu : Value) (w' : World), Below wx.heap.size wx w' → ((Gy W2)) w' → (Hb W2) (.inl (.bool false)) uu w' → K _ w' := hK
                          simp only [Act.put, List.setIfInBounds_toArray, List.set_cons_zero, List.set_cons_succ, e22, e28] at hK ⊢
                          have HK := Lib.hid hK
                          have HG := Lib.hid hG
                          clear hK hd e22 e28
                          clear hG
                          go_simp
                          exact HK.out _ _ (Below.refl _ _) HG.out rfl
                        · intro vs wx hG hd K hK
                          have e13 : vs 13 = .bool true := hd.get (j := 13) (by simp [depsOf, Region.binds])
                          have e22 : vs 22 = .bool false := hd.get (j := 22) (by simp [depsOf, Region.binds])
                          have e29 : vs 29 = .bool false := hd.get (j := 29) (by simp [depsOf, Region.binds])
                          replace hK : ∀ (uu : Value) (w' : World), Below wx.heap.size wx w' → ((Gy W2)) w' → (Hb W2) (.inl (.bool false)) uu w' → K _ w' := hK
                          simp only [Act.put, List.setIfInBounds_toArray, List.set_cons_zero, List.set_cons_succ, e13, e22, e29] at hK ⊢
                          have HK := Lib.hid hK
                          have HG := Lib.hid hG
                          clear hK hd e13 e22 e29
                          clear hG
                          go_simp
                          exact HK.out _ _ (Below.refl _ _) HG.out rfl
                        · intro vs wx hG hd K hK
                          have e10 : vs 10 = .bool false := hd.get (j := 10) (by simp [depsOf, Region.binds])
                          have e13 : vs 13 = .bool true := hd.get (j := 13) (by simp [depsOf, Region.binds])
                          have e30 : vs 30 = .bool false := hd.get (j := 30) (by simp [depsOf, Region.binds])
                          replace hK : ∀ (uu : Value) (w' : World), Below wx.heap.size wx w' → ((Gy W2)) w' → (Hb W2) (.inl (.bool false)) uu w' → K _ w' := hK
                          simp only [Act.put, List.setIfInBounds_toArray, List.set_cons_zero, List.set_cons_succ, e10, e13, e30] at hK ⊢
                          have HK := Lib.hid hK
                          have HG := Lib.hid hG
                          clear hK hd e10 e13 e30
                          clear hG
                          go_simp
                          exact HK.out _ _ (Below.refl _ _) HG.out rfl
                        · intro vs wx hG hd K hK
                          have e10 : vs 10 = .bool false := hd.get (j := 10) (by simp [depsOf, Region.binds])
                          have e31 : vs 31 = .bool false := hd.get (j := 31) (by simp [depsOf, Region.binds])
                          replace hK : ∀ (uu : Value) (w' : World), Below wx.heap.size wx w' → ((Gy W2)) w' → (Hb W2) (.inl (.bool false)) uu w' → K _ w' := hK
                          simp only [Act.put, List.setIfInBounds_toArray, List.set_cons_zero, List.set_cons_succ, e10, e31] at hK ⊢
                          have HK := Lib.hid hK
                          have HG := Lib.hid hG
                          clear hK hd e10 e31
                          clear hG
                          go_simp
                          exact HK.out _ _ (Below.refl _ _) HG.out rfl
                      case hend =>
                        intro vs wx hG hv
                        have e9 : vs 32 = .bool false := hv 32 (by decide)
                        rw [e9]
                        have HR := Lib.hid (HZ.out.below hG)
                        clear hG hv e9
                        go_wp2_with fail
                        go_meet
                        case rel => exact ⟨rfl, HR.out⟩
                  case rest =>
                    rename World => W6
                    obtain ⟨h0, hcut⟩ := hcut
                    subst h0
                    have HZ6 : Hid (Lz w d m wv rv W6) := Lib.hid hcut
                    clear hcut
                    go_wp2_with fail
                    refine HZ6.out.is.mono ?_
                    rintro e W9 ⟨rfl, Z9⟩
                    have HZ9 := Lib.hid Z9
                    clear Z9
                    go_wp2_with fail
                    go_roundw
                    case rel => exact ⟨i + 1, _, _, _, _, _, _, by go_num, rfl, rfl, rfl, rfl, rfl, rfl, hlt, HZ9⟩
                    case measure => simp [intOf]; omega
              · have e4 : decide ((4 : Int) ≤ o.k) = false := by simp; omega
                rcases HZ1.out.ways with ⟨rfl, rfl⟩ | ⟨p, q, rfl, rfl⟩
                · clear h34 h5
                  go_wp2_with fail
                  refine HZ1.out.is.mono ?_
                  rintro e W9 ⟨rfl, Z9⟩
                  have HZ9 := Lib.hid Z9
                  clear Z9
                  go_wp2_with fail
                  go_roundw
                  case rel => exact ⟨i + 1, _, _, _, _, _, _, by go_num, rfl, rfl, rfl, rfl, rfl, rfl, hlt, HZ9⟩
                  case measure => simp [intOf]; omega
                · by_cases k0 : o.k = 0
                  · have e0 : (o.k == (0 : Int)) = true := by simpa using k0
                    clear k0 h34 h5
                    as_aux_lemma =>
                      obtain ⟨a, B, C, s, E1, n1, k1, E2, n2, k2, J0, hB0, hC0, hp0, hq0, hL, hs, hbl, hfin⟩ := HZ.out.jv HBO.out
                      have HJ0 := Lib.hid J0
                      have HNO : Hid (¬ (B W0.heap.size ∨ C W0.heap.size ∨ W0.heap.size = p ∨ W0.heap.size = q)) := Lib.hid fun h => h.elim (fun h => by have := hB0 _ h; omega) fun h => h.elim (fun h => by have := hC0 _ h; omega) fun h => h.elim (fun h => by omega) fun h => by omega
                      have HPL : Hid (p < W1.heap.size) := Lib.hid (by have := J0.pn; omega)
                      have HQL : Hid (q < W1.heap.size) := Lib.hid (by have := J0.pn; omega)
                      have HLM := Lib.hid hL
                      have HBL := Lib.hid hbl
                      have HFIN := Lib.hid hfin
                      have HS0 := Lib.hid hs
                      obtain ⟨r, a', hr⟩ : ∃ r a', appD a s (sealB 1 o.p) = (r, a') := ⟨_, _, rfl⟩
                      have HRR := Lib.hid hr
                      have HRG : Hid (0 ≤ s ∧ s ≤ 9223372036854775807) := Lib.hid hs
                      clear hr
                      clear J0 hB0 hC0 hp0 hq0 hL hs hbl hfin
                      go_wp2_with fail
                      apply region_GQ (Hv W1 o.p) (fun b c f S wx => JV W1 B C d m p q (cond b a' a) s (cond c a' a) s E1 n1 k1 E2 n2 k2 S.1 wx ∧ S.2 = f) 5 9 4 [.v (wP p), .lit, .v (.pointer (some ⟨W0.heap.size, 1, none⟩)), .v (.slice A1 o.p.length c1), .cpy, .v (.int .i64 r), .v (rP q), .v (.pointer (some ⟨W0.heap.size, 1, none⟩)), .v (.slice A1 o.p.length c1), .v (.int .i64 r), .v (.bool false)] (.v undef)
                      case hm => kernel_rfl
                      case hf => kernel_rfl
                      case hp => kernel_rfl
                      case hQ => exact (by intro c x y w e h; exact And.intro (e.symm.trans (And.left h)) (And.right h))
                      case hF => intro vs; simp only [putAll, Act.put, List.setIfInBounds_toArray, List.set_cons_zero, List.set_cons_succ, Nat.reduceAdd]; rfl
                      case h0 => exact ⟨((B, C), false), HJ0.out.below ⟨rfl, rfl, rfl, Nat.le_refl _, fun _ _ => rfl⟩, rfl⟩
                      case hstep =>
                        repeat' (first | exact AllOps.nil | apply AllOps.cons)
                        · intro vs b c f S wx hG hd hb hc hf K hK
                          replace hK : ∀ (v : Value) (S' : Sg9) (w' : World), (fun b c f S wx => JV W1 B C d m p q (cond b a' a) s (cond c a' a) s E1 n1 k1 E2 n2 k2 S.1 wx ∧ S.2 = f) b c f S' w' → (∀ x u, (Hv W1 o.p) x u S wx → (Hv W1 o.p) x u S' w') → (Hv W1 o.p) (.v (wP p)) v S' w' → K _ w' := hK
                          simp only [Act.put, List.setIfInBounds_toArray, List.set_cons_zero, List.set_cons_succ] at hK ⊢
                          have HK := Lib.hid hK
                          have HG := Lib.hid hG
                          clear hK hd hb hc hf
                          clear hG
                          go_simp
                          exact HK.out _ S _ HG.out (fun _ _ h => h) rfl
                        · intro vs b c f S wx hG hd hb hc hf K hK
                          replace hK : ∀ (v : Value) (S' : Sg9) (w' : World), (fun b c f S wx => JV W1 B C d m p q (cond b a' a) s (cond c a' a) s E1 n1 k1 E2 n2 k2 S.1 wx ∧ S.2 = f) b c f S' w' → (∀ x u, (Hv W1 o.p) x u S wx → (Hv W1 o.p) x u S' w') → (Hv W1 o.p) (.lit) v S' w' → K _ w' := hK
                          simp only [Act.put, List.setIfInBounds_toArray, List.set_cons_zero, List.set_cons_succ] at hK ⊢
                          have HK := Lib.hid hK
                          have HG := Lib.hid hG
                          clear hK hd hb hc hf
                          clear hG
                          go_simp
                          have bl : Below wx.heap.size wx (wx.alloc (.cells #[] 5)) := (Below.refl _ _).alloc (Nat.le_refl _) _
                          exact HK.out _ S _ ⟨HG.out.1.below bl, HG.out.2⟩ (fun x u h => h.new bl) ⟨⟨_, rfl, HG.out.1.tn.size⟩, fun _ => ⟨lit_ob wx W1.heap.size wx.heap.size rfl HG.out.1.tn.size #[] 0 [] rfl rfl (by decide), fun g hg => by
                            have e : wx.heap.size = g := by simpa [Value.ownBlock] using hg
                            subst e
                            exact ⟨fun h => Nat.lt_irrefl _ (HG.out.1.dd.bt _ h), fun h => Nat.lt_irrefl _ (HG.out.1.rd.bt _ h)⟩⟩⟩
                        · intro vs b c f S wx hG hd hb hc hf K hK
                          replace hK : ∀ (v : Value) (S' : Sg9) (w' : World), (fun b c f S wx => JV W1 B C d m p q (cond b a' a) s (cond c a' a) s E1 n1 k1 E2 n2 k2 S.1 wx ∧ S.2 = f) b c f S' w' → (∀ x u, (Hv W1 o.p) x u S wx → (Hv W1 o.p) x u S' w') → (Hv W1 o.p) (.v (.pointer (some ⟨W0.heap.size, 1, none⟩))) v S' w' → K _ w' := hK
                          simp only [Act.put, List.setIfInBounds_toArray, List.set_cons_zero, List.set_cons_succ] at hK ⊢
                          have HK := Lib.hid hK
                          have HG := Lib.hid hG
                          clear hK hd hb hc hf
                          clear hG
                          go_simp
                          exact HK.out _ S _ HG.out (fun _ _ h => h) rfl
                        · intro vs b c f S wx hG hd hb hc hf K hK
                          have e2 : vs 2 = .pointer (some ⟨W0.heap.size, 1, none⟩) := hd.get (j := 2) (by simp [depsOf, Region.binds])
                          replace hK : ∀ (v : Value) (S' : Sg9) (w' : World), (fun b c f S wx => JV W1 B C d m p q (cond b a' a) s (cond c a' a) s E1 n1 k1 E2 n2 k2 S.1 wx ∧ S.2 = f) b c f S' w' → (∀ x u, (Hv W1 o.p) x u S wx → (Hv W1 o.p) x u S' w') → (Hv W1 o.p) (.v (.slice A1 o.p.length c1)) v S' w' → K _ w' := hK
                          simp only [Act.put, List.setIfInBounds_toArray, List.set_cons_zero, List.set_cons_succ, e2] at hK ⊢
                          have HK := Lib.hid hK
                          have HG := Lib.hid hG
                          clear hK hd hb hc hf e2
                          have yp := HG.out.1.tn.cell y1 HNO.out
                          have hyl : W0.heap.size < wx.heap.size := World.block_lt_of_cell? _ _ yp
                          clear hG
                          go_simp
                          exact HK.out _ S _ HG.out (fun _ _ h => h) rfl
                        · intro vs b c f S wx hG hd hb hc hf K hK
                          obtain rfl : f = false := hf rfl
                          obtain ⟨⟨g1, e1, z1⟩, q1⟩ : (Hv W1 o.p) .lit (vs 1) S wx := hd.get (j := 1) (by simp [depsOf, Region.binds])
                          obtain ⟨o1, f1⟩ := q1 hG.2
                          rw [e1] at o1 f1
                          have e3 : vs 3 = .slice A1 o.p.length c1 := hd.get (j := 3) (by simp [depsOf, Region.binds])
                          replace hK : ∀ (v : Value) (S' : Sg9) (w' : World), (fun b c f S wx => JV W1 B C d m p q (cond b a' a) s (cond c a' a) s E1 n1 k1 E2 n2 k2 S.1 wx ∧ S.2 = f) b c true S' w' → (∀ x u, (Hv W1 o.p) x u S wx → (Hv W1 o.p) x u S' w') → (Hv W1 o.p) (.cpy) v S' w' → K _ w' := hK
                          simp only [Act.put, List.setIfInBounds_toArray, List.set_cons_zero, List.set_cons_succ, e1, e3] at hK ⊢
                          have HK := Lib.hid hK
                          have HG := Lib.hid hG
                          clear hK hd hb hc hf e1 e3
                          clear hG
                          refine want_pos rfl ?_
                          refine oper_app wx (.tmp 206) (.tmp 208) rfl W1.heap.size (.slice (some ⟨g1, 0, none⟩) 0 0) [] rfl o1 A1 o.p.length c1 o.p rfl rfl _ (HBX.out.below (HBL.out _ _ _ _ _ _ HG.out.1)) o.p.length (by simp) (by have := HP.out; simp; omega) HG.out.1.tn.size ?_
                          intro A3 c3 w3 ho3 gr3 at3
                          have f1g := f1 g1 rfl
                          have t3 : Tn (fun k => k = g1) wx w3 := (Tn.ofGrown gr3).mono fun k _ e => by simpa [Value.ownBlock] using e
                          have J3 := HG.out.1.tnO t3 fun k hk => by subst hk; exact ⟨z1, f1g⟩
                          have own3 : ∀ g, (Value.slice A3 o.p.length c3).ownBlock = some g → ¬ S.1.1 g ∧ ¬ S.1.2 g := fun g hg => by
                            rcases at3 with h | h
                            · rw [h] at hg
                              exact f1 g hg
                            · rw [h] at hg
                              cases hg
                              exact ⟨fun h => Nat.lt_irrefl _ (HG.out.1.dd.bt _ h), fun h => Nat.lt_irrefl _ (HG.out.1.rd.bt _ h)⟩
                          have ho3' : Ob w3 W1.heap.size (.slice A3 o.p.length c3) o.p := by simpa using ho3
                          simp only [Act.put, List.setIfInBounds_toArray, List.set_cons_zero, List.set_cons_succ]
                          refine HK.out _ (S.1, true) _ ⟨J3, rfl⟩ (fun x u h => ?_) ⟨rfl, ⟨_, _, rfl⟩, ho3', own3⟩
                          cases x with
                          | v x => exact h
                          | lit => exact ⟨h.1, fun e => by cases e⟩
                          | cpy => exact absurd (h.1.symm.trans HG.out.2) (by decide)
                        · intro vs b c f S wx hG hd hb hc hf K hK
                          obtain rfl : b = false := hb rfl
                          have e0 : vs 0 = wP p := hd.get (j := 0) (by simp [depsOf, Region.binds])
                          obtain ⟨x4, ⟨A4, c4, e4⟩, o4, f4⟩ : (Hv W1 o.p) .cpy (vs 4) S wx := hd.get (j := 4) (by simp [depsOf, Region.binds])
                          rw [e4] at o4 f4
                          replace hK : ∀ (v : Value) (S' : Sg9) (w' : World), (fun b c f S wx => JV W1 B C d m p q (cond b a' a) s (cond c a' a) s E1 n1 k1 E2 n2 k2 S.1 wx ∧ S.2 = f) true c f S' w' → (∀ x u, (Hv W1 o.p) x u S wx → (Hv W1 o.p) x u S' w') → (Hv W1 o.p) (.v (.int .i64 r)) v S' w' → K _ w' := hK
                          simp only [Act.put, List.setIfInBounds_toArray, List.set_cons_zero, List.set_cons_succ, e0, e4] at hK ⊢
                          have HK := Lib.hid hK
                          have HG := Lib.hid hG
                          clear hK hd hb hc hf e0 e4
                          clear hG
                          go_simp
                          go_at_call 12
                          refine ((show JV W1 B C d m p q a s (cond c a' a) s E1 n1 k1 E2 n2 k2 S.1 wx from HG.out.1).prog (r := r) (s' := s) (a' := a') fun hp => (wapp_any HG.out.1.wp HG.out.1.dd HRG.out.2 o4.bs.1 (Nat.le_refl _) (by have := HP.out; omega) HRR.out).mono fun e w' h => ⟨h.1, h.2.lw HG.out.1.wp hp⟩).mono ?_
                          rintro e w9 ⟨rfl, S9, J9, t9, h9, e9⟩
                          exact HK.out _ (S9, S.2) _ ⟨J9, HG.out.2⟩ (fun x u h => h.keep t9 (fun k hk => hk.elim .inl fun h => .inr (.inr (h ▸ HPL.out))) h9 (fun k _ h => e9 ▸ h) rfl) rfl
                        · intro vs b c f S wx hG hd hb hc hf K hK
                          replace hK : ∀ (v : Value) (S' : Sg9) (w' : World), (fun b c f S wx => JV W1 B C d m p q (cond b a' a) s (cond c a' a) s E1 n1 k1 E2 n2 k2 S.1 wx ∧ S.2 = f) b c f S' w' → (∀ x u, (Hv W1 o.p) x u S wx → (Hv W1 o.p) x u S' w') → (Hv W1 o.p) (.v (rP q)) v S' w' → K _ w' := hK
                          simp only [Act.put, List.setIfInBounds_toArray, List.set_cons_zero, List.set_cons_succ] at hK ⊢
                          have HK := Lib.hid hK
                          have HG := Lib.hid hG
                          clear hK hd hb hc hf
                          clear hG
                          go_simp
                          exact HK.out _ S _ HG.out (fun _ _ h => h) rfl
                        · intro vs b c f S wx hG hd hb hc hf K hK
                          replace hK : ∀ (v : Value) (S' : Sg9) (w' : World), (fun b c f S wx => JV W1 B C d m p q (cond b a' a) s (cond c a' a) s E1 n1 k1 E2 n2 k2 S.1 wx ∧ S.2 = f) b c f S' w' → (∀ x u, (Hv W1 o.p) x u S wx → (Hv W1 o.p) x u S' w') → (Hv W1 o.p) (.v (.pointer (some ⟨W0.heap.size, 1, none⟩))) v S' w' → K _ w' := hK
                          simp only [Act.put, List.setIfInBounds_toArray, List.set_cons_zero, List.set_cons_succ] at hK ⊢
                          have HK := Lib.hid hK
                          have HG := Lib.hid hG
                          clear hK hd hb hc hf
                          clear hG
                          go_simp
                          exact HK.out _ S _ HG.out (fun _ _ h => h) rfl
                        · intro vs b c f S wx hG hd hb hc hf K hK
                          have e7 : vs 7 = .pointer (some ⟨W0.heap.size, 1, none⟩) := hd.get (j := 7) (by simp [depsOf, Region.binds])
                          replace hK : ∀ (v : Value) (S' : Sg9) (w' : World), (fun b c f S wx => JV W1 B C d m p q (cond b a' a) s (cond c a' a) s E1 n1 k1 E2 n2 k2 S.1 wx ∧ S.2 = f) b c f S' w' → (∀ x u, (Hv W1 o.p) x u S wx → (Hv W1 o.p) x u S' w') → (Hv W1 o.p) (.v (.slice A1 o.p.length c1)) v S' w' → K _ w' := hK
                          simp only [Act.put, List.setIfInBounds_toArray, List.set_cons_zero, List.set_cons_succ, e7] at hK ⊢
                          have HK := Lib.hid hK
                          have HG := Lib.hid hG
                          clear hK hd hb hc hf e7
                          have yp := HG.out.1.tn.cell y1 HNO.out
                          have hyl : W0.heap.size < wx.heap.size := World.block_lt_of_cell? _ _ yp
                          clear hG
                          go_simp
                          exact HK.out _ S _ HG.out (fun _ _ h => h) rfl
                        · intro vs b c f S wx hG hd hb hc hf K hK
                          obtain rfl : c = false := hc rfl
                          have e6 : vs 6 = rP q := hd.get (j := 6) (by simp [depsOf, Region.binds])
                          have e8 : vs 8 = .slice A1 o.p.length c1 := hd.get (j := 8) (by simp [depsOf, Region.binds])
                          replace hK : ∀ (v : Value) (S' : Sg9) (w' : World), (fun b c f S wx => JV W1 B C d m p q (cond b a' a) s (cond c a' a) s E1 n1 k1 E2 n2 k2 S.1 wx ∧ S.2 = f) b true f S' w' → (∀ x u, (Hv W1 o.p) x u S wx → (Hv W1 o.p) x u S' w') → (Hv W1 o.p) (.v (.int .i64 r)) v S' w' → K _ w' := hK
                          simp only [Act.put, List.setIfInBounds_toArray, List.set_cons_zero, List.set_cons_succ, e6, e8] at hK ⊢
                          have HK := Lib.hid hK
                          have HG := Lib.hid hG
                          clear hK hd hb hc hf e6 e8
                          clear hG
                          go_simp
                          go_at_call 13
                          refine ((show JV W1 B C d m p q (cond b a' a) s a s E1 n1 k1 E2 n2 k2 S.1 wx from HG.out.1).doc (r := r) (s' := s) (b' := a') fun hq => (rwapp_any HG.out.1.wq HG.out.1.rd HLM.out (HBX.out.below (HBL.out _ _ _ _ _ _ HG.out.1)) (HBL.out _ _ _ _ _ _ HG.out.1).size (by have := HP.out; omega) HRR.out).mono fun e w' h => ⟨h.1, h.2.lq HG.out.1.wq hq⟩).mono ?_
                          rintro e w9 ⟨rfl, S9, J9, t9, h9, e9⟩
                          exact HK.out _ (S9, S.2) _ ⟨J9, HG.out.2⟩ (fun x u h => h.keep t9 (fun k hk => hk.elim (fun h => .inr (.inl h)) fun h => .inr (.inr (h ▸ HQL.out))) (fun k _ h => e9 ▸ h) h9 rfl) rfl
                        · intro vs b c f S wx hG hd hb hc hf K hK
                          have e5 : vs 5 = .int .i64 r := hd.get (j := 5) (by simp [depsOf, Region.binds])
                          have e9 : vs 9 = .int .i64 r := hd.get (j := 9) (by simp [depsOf, Region.binds])
                          replace hK : ∀ (v : Value) (S' : Sg9) (w' : World), (fun b c f S wx => JV W1 B C d m p q (cond b a' a) s (cond c a' a) s E1 n1 k1 E2 n2 k2 S.1 wx ∧ S.2 = f) b c f S' w' → (∀ x u, (Hv W1 o.p) x u S wx → (Hv W1 o.p) x u S' w') → (Hv W1 o.p) (.v (.bool false)) v S' w' → K _ w' := hK
                          simp only [Act.put, List.setIfInBounds_toArray, List.set_cons_zero, List.set_cons_succ, e5, e9] at hK ⊢
                          have HK := Lib.hid hK
                          have HG := Lib.hid hG
                          clear hK hd hb hc hf e5 e9
                          clear hG
                          go_simp
                          exact HK.out _ S _ HG.out (fun _ _ h => h) rfl
                      case hend =>
                        intro vs S wx hG hv
                        have e9 : vs 10 = .bool false := hv 10 (by decide)
                        rw [e9]
                        have HR := Lib.hid (HFIN.out a' s S.1 wx HRG.out hG.1)
                        clear hG hv e9
                        go_wp2_with fail
                        refine HR.out.is.mono ?_
                        rintro e W9 ⟨rfl, Z9⟩
                        have HZ9 := Lib.hid Z9
                        clear Z9
                        go_wp2_with fail
                        go_roundw
                        case rel => exact ⟨i + 1, _, _, _, _, _, _, by go_num, rfl, rfl, rfl, rfl, rfl, rfl, hlt, HZ9⟩
                        case measure => simp [intOf]; omega
                  · have e0 : (o.k == (0 : Int)) = false := by simpa using k0
                    by_cases k1 : o.k = 1
                    · have e1 : (o.k == (1 : Int)) = true := by simpa using k1
                      clear k0 k1 h34 h5
                      as_aux_lemma =>
                        obtain ⟨a, B, C, s, E1, n1, k1, E2, n2, k2, J0, hB0, hC0, hp0, hq0, hL, hs, hbl, hfin⟩ := HZ.out.jv HBO.out
                        have HJ0 := Lib.hid J0
                        have HNO : Hid (¬ (B W0.heap.size ∨ C W0.heap.size ∨ W0.heap.size = p ∨ W0.heap.size = q)) := Lib.hid fun h => h.elim (fun h => by have := hB0 _ h; omega) fun h => h.elim (fun h => by have := hC0 _ h; omega) fun h => h.elim (fun h => by omega) fun h => by omega
                        have HPL : Hid (p < W1.heap.size) := Lib.hid (by have := J0.pn; omega)
                        have HQL : Hid (q < W1.heap.size) := Lib.hid (by have := J0.pn; omega)
                        have HLM := Lib.hid hL
                        have HBL := Lib.hid hbl
                        have HFIN := Lib.hid hfin
                        have HS0 := Lib.hid hs
                        obtain ⟨r, a', hr⟩ : ∃ r a', opD syncA a s = (r, a') := ⟨_, _, rfl⟩
                        have HRR := Lib.hid hr
                        have HRG : Hid (0 ≤ s ∧ s ≤ 9223372036854775807) := Lib.hid hs
                        clear hr
                        clear J0 hB0 hC0 hp0 hq0 hL hs hbl hfin
                        go_wp2_with fail
                        apply region_GQ (fun (x : Value) (u : Value) (_ : (Nat → Prop) × (Nat → Prop)) (_ : World) => u = x) (fun b c _ S wx => JV W1 B C d m p q (cond b a' a) s (cond c a' a) s E1 n1 k1 E2 n2 k2 S wx) 1 7 0 [wP p, .int .i64 r, rP m, rP q, rP q, .pointer (some ⟨q, 1, none⟩), .int .i64 s, .int .i64 r, .bool false] undef
                        case hm => kernel_rfl
                        case hf => kernel_rfl
                        case hp => kernel_rfl
                        case hQ => exact (by intro c x y w e h; exact And.intro (e.symm.trans (And.left h)) (And.right h))
                        case hF => intro vs; simp only [putAll, Act.put, List.setIfInBounds_toArray, List.set_cons_zero, List.set_cons_succ, Nat.reduceAdd]; rfl
                        case h0 => exact ⟨(B, C), HJ0.out.below ⟨rfl, rfl, rfl, Nat.le_refl _, fun _ _ => rfl⟩⟩
                        case hstep =>
                          repeat' (first | exact AllOps.nil | apply AllOps.cons)
                          · intro vs b c f S wx hG hd hb hc hf K hK
                            obtain rfl : f = false := hf rfl
                            replace hK : ∀ (v : Value) (S' : (Nat → Prop) × (Nat → Prop)) (w' : World), (fun b c _ S wx => JV W1 B C d m p q (cond b a' a) s (cond c a' a) s E1 n1 k1 E2 n2 k2 S wx) b c true S' w' → (∀ x u, (fun (x : Value) (u : Value) (_ : (Nat → Prop) × (Nat → Prop)) (_ : World) => u = x) x u S wx → (fun (x : Value) (u : Value) (_ : (Nat → Prop) × (Nat → Prop)) (_ : World) => u = x) x u S' w') → (fun (x : Value) (u : Value) (_ : (Nat → Prop) × (Nat → Prop)) (_ : World) => u = x) (wP p) v S' w' → K _ w' := hK
                            simp only [Act.put, List.setIfInBounds_toArray, List.set_cons_zero, List.set_cons_succ] at hK ⊢
                            have HK := Lib.hid hK
                            have HG := Lib.hid hG
                            clear hK hd hb hc hf
                            clear hG
                            go_simp
                            exact HK.out _ S _ HG.out (fun _ _ h => h) rfl
                          · intro vs b c f S wx hG hd hb hc hf K hK
                            obtain rfl : b = false := hb rfl
                            have e0 : vs 0 = wP p := hd.get (j := 0) (by simp [depsOf, Region.binds])
                            replace hK : ∀ (v : Value) (S' : (Nat → Prop) × (Nat → Prop)) (w' : World), (fun b c _ S wx => JV W1 B C d m p q (cond b a' a) s (cond c a' a) s E1 n1 k1 E2 n2 k2 S wx) true c f S' w' → (∀ x u, (fun (x : Value) (u : Value) (_ : (Nat → Prop) × (Nat → Prop)) (_ : World) => u = x) x u S wx → (fun (x : Value) (u : Value) (_ : (Nat → Prop) × (Nat → Prop)) (_ : World) => u = x) x u S' w') → (fun (x : Value) (u : Value) (_ : (Nat → Prop) × (Nat → Prop)) (_ : World) => u = x) (.int .i64 r) v S' w' → K _ w' := hK
                            simp only [Act.put, List.setIfInBounds_toArray, List.set_cons_zero, List.set_cons_succ, e0] at hK ⊢
                            have HK := Lib.hid hK
                            have HG := Lib.hid hG
                            clear hK hd hb hc hf e0
                            clear hG
                            go_simp
                            go_at_call 14
                            refine ((show JV W1 B C d m p q a s (cond c a' a) s E1 n1 k1 E2 n2 k2 S wx from HG.out).prog (r := r) (s' := s) (a' := a') fun hp => (wsync_any HG.out.wp HG.out.dd (by have := HRG.out; omega) HRG.out.2 HRR.out).mono fun e w' h => ⟨h.1, h.2.lw HG.out.wp hp⟩).mono ?_
                            rintro e w9 ⟨rfl, S9, J9, t9, h9, e9⟩
                            exact HK.out _ S9 _ J9 (fun x u h => h) rfl
                          · intro vs b c f S wx hG hd hb hc hf K hK
                            replace hK : ∀ (v : Value) (S' : (Nat → Prop) × (Nat → Prop)) (w' : World), (fun b c _ S wx => JV W1 B C d m p q (cond b a' a) s (cond c a' a) s E1 n1 k1 E2 n2 k2 S wx) b c f S' w' → (∀ x u, (fun (x : Value) (u : Value) (_ : (Nat → Prop) × (Nat → Prop)) (_ : World) => u = x) x u S wx → (fun (x : Value) (u : Value) (_ : (Nat → Prop) × (Nat → Prop)) (_ : World) => u = x) x u S' w') → (fun (x : Value) (u : Value) (_ : (Nat → Prop) × (Nat → Prop)) (_ : World) => u = x) (rP m) v S' w' → K _ w' := hK
                            simp only [Act.put, List.setIfInBounds_toArray, List.set_cons_zero, List.set_cons_succ] at hK ⊢
                            have HK := Lib.hid hK
                            have HG := Lib.hid hG
                            clear hK hd hb hc hf
                            clear hG
                            go_simp
                            exact HK.out _ S _ HG.out (fun _ _ h => h) rfl
                          · intro vs b c f S wx hG hd hb hc hf K hK
                            replace hK : ∀ (v : Value) (S' : (Nat → Prop) × (Nat → Prop)) (w' : World), (fun b c _ S wx => JV W1 B C d m p q (cond b a' a) s (cond c a' a) s E1 n1 k1 E2 n2 k2 S wx) b c f S' w' → (∀ x u, (fun (x : Value) (u : Value) (_ : (Nat → Prop) × (Nat → Prop)) (_ : World) => u = x) x u S wx → (fun (x : Value) (u : Value) (_ : (Nat → Prop) × (Nat → Prop)) (_ : World) => u = x) x u S' w') → (fun (x : Value) (u : Value) (_ : (Nat → Prop) × (Nat → Prop)) (_ : World) => u = x) (rP q) v S' w' → K _ w' := hK
                            simp only [Act.put, List.setIfInBounds_toArray, List.set_cons_zero, List.set_cons_succ] at hK ⊢
                            have HK := Lib.hid hK
                            have HG := Lib.hid hG
                            clear hK hd hb hc hf
                            clear hG
                            go_simp
                            exact HK.out _ S _ HG.out (fun _ _ h => h) rfl
                          · intro vs b c f S wx hG hd hb hc hf K hK
                            have e3 : vs 3 = rP q := hd.get (j := 3) (by simp [depsOf, Region.binds])
                            replace hK : ∀ (v : Value) (S' : (Nat → Prop) × (Nat → Prop)) (w' : World), (fun b c _ S wx => JV W1 B C d m p q (cond b a' a) s (cond c a' a) s E1 n1 k1 E2 n2 k2 S wx) b c f S' w' → (∀ x u, (fun (x : Value) (u : Value) (_ : (Nat → Prop) × (Nat → Prop)) (_ : World) => u = x) x u S wx → (fun (x : Value) (u : Value) (_ : (Nat → Prop) × (Nat → Prop)) (_ : World) => u = x) x u S' w') → (fun (x : Value) (u : Value) (_ : (Nat → Prop) × (Nat → Prop)) (_ : World) => u = x) (rP q) v S' w' → K _ w' := hK
                            simp only [Act.put, List.setIfInBounds_toArray, List.set_cons_zero, List.set_cons_succ, e3] at hK ⊢
                            have HK := Lib.hid hK
                            have HG := Lib.hid hG
                            clear hK hd hb hc hf e3
                            clear hG
                            go_simp
                            exact HK.out _ S _ HG.out (fun _ _ h => h) rfl
                          · intro vs b c f S wx hG hd hb hc hf K hK
                            have e4 : vs 4 = rP q := hd.get (j := 4) (by simp [depsOf, Region.binds])
                            replace hK : ∀ (v : Value) (S' : (Nat → Prop) × (Nat → Prop)) (w' : World), (fun b c _ S wx => JV W1 B C d m p q (cond b a' a) s (cond c a' a) s E1 n1 k1 E2 n2 k2 S wx) b c f S' w' → (∀ x u, (fun (x : Value) (u : Value) (_ : (Nat → Prop) × (Nat → Prop)) (_ : World) => u = x) x u S wx → (fun (x : Value) (u : Value) (_ : (Nat → Prop) × (Nat → Prop)) (_ : World) => u = x) x u S' w') → (fun (x : Value) (u : Value) (_ : (Nat → Prop) × (Nat → Prop)) (_ : World) => u = x) (.pointer (some ⟨q, 1, none⟩)) v S' w' → K _ w' := hK
                            simp only [Act.put, List.setIfInBounds_toArray, List.set_cons_zero, List.set_cons_succ, e4] at hK ⊢
                            have HK := Lib.hid hK
                            have HG := Lib.hid hG
                            clear hK hd hb hc hf e4
                            clear hG
                            go_simp
                            exact HK.out _ S _ HG.out (fun _ _ h => h) rfl
                          · intro vs b c f S wx hG hd hb hc hf K hK
                            have e5 : vs 5 = .pointer (some ⟨q, 1, none⟩) := hd.get (j := 5) (by simp [depsOf, Region.binds])
                            replace hK : ∀ (v : Value) (S' : (Nat → Prop) × (Nat → Prop)) (w' : World), (fun b c _ S wx => JV W1 B C d m p q (cond b a' a) s (cond c a' a) s E1 n1 k1 E2 n2 k2 S wx) b c f S' w' → (∀ x u, (fun (x : Value) (u : Value) (_ : (Nat → Prop) × (Nat → Prop)) (_ : World) => u = x) x u S wx → (fun (x : Value) (u : Value) (_ : (Nat → Prop) × (Nat → Prop)) (_ : World) => u = x) x u S' w') → (fun (x : Value) (u : Value) (_ : (Nat → Prop) × (Nat → Prop)) (_ : World) => u = x) (.int .i64 s) v S' w' → K _ w' := hK
                            simp only [Act.put, List.setIfInBounds_toArray, List.set_cons_zero, List.set_cons_succ, e5] at hK ⊢
                            have HK := Lib.hid hK
                            have HG := Lib.hid hG
                            clear hK hd hb hc hf e5
                            have X1 := HG.out.wq.x1
                            clear hG
                            go_simp
                            exact HK.out _ S _ HG.out (fun _ _ h => h) rfl
                          · intro vs b c f S wx hG hd hb hc hf K hK
                            obtain rfl : c = false := hc rfl
                            have e2 : vs 2 = rP m := hd.get (j := 2) (by simp [depsOf, Region.binds])
                            have e6 : vs 6 = .int .i64 s := hd.get (j := 6) (by simp [depsOf, Region.binds])
                            replace hK : ∀ (v : Value) (S' : (Nat → Prop) × (Nat → Prop)) (w' : World), (fun b c _ S wx => JV W1 B C d m p q (cond b a' a) s (cond c a' a) s E1 n1 k1 E2 n2 k2 S wx) b true f S' w' → (∀ x u, (fun (x : Value) (u : Value) (_ : (Nat → Prop) × (Nat → Prop)) (_ : World) => u = x) x u S wx → (fun (x : Value) (u : Value) (_ : (Nat → Prop) × (Nat → Prop)) (_ : World) => u = x) x u S' w') → (fun (x : Value) (u : Value) (_ : (Nat → Prop) × (Nat → Prop)) (_ : World) => u = x) (.int .i64 r) v S' w' → K _ w' := hK
                            simp only [Act.put, List.setIfInBounds_toArray, List.set_cons_zero, List.set_cons_succ, e2, e6] at hK ⊢
                            have HK := Lib.hid hK
                            have HG := Lib.hid hG
                            clear hK hd hb hc hf e2 e6
                            clear hG
                            go_simp
                            go_at_call 15
                            refine ((show JV W1 B C d m p q (cond b a' a) s a s E1 n1 k1 E2 n2 k2 S wx from HG.out).doc (r := r) (s' := s) (b' := a') fun hq => (Ew.of (Below.refl _ _) (rsync_RD (r := r) (a' := a') HG.out.rd HLM.out HRR.out)).mono fun e w' h => ⟨h.1, h.2.lq HG.out.wq hq⟩).mono ?_
                            rintro e w9 ⟨rfl, S9, J9, t9, h9, e9⟩
                            exact HK.out _ S9 _ J9 (fun x u h => h) rfl
                          · intro vs b c f S wx hG hd hb hc hf K hK
                            have e1 : vs 1 = .int .i64 r := hd.get (j := 1) (by simp [depsOf, Region.binds])
                            have e7 : vs 7 = .int .i64 r := hd.get (j := 7) (by simp [depsOf, Region.binds])
                            replace hK : ∀ (v : Value) (S' : (Nat → Prop) × (Nat → Prop)) (w' : World), (fun b c _ S wx => JV W1 B C d m p q (cond b a' a) s (cond c a' a) s E1 n1 k1 E2 n2 k2 S wx) b c f S' w' → (∀ x u, (fun (x : Value) (u : Value) (_ : (Nat → Prop) × (Nat → Prop)) (_ : World) => u = x) x u S wx → (fun (x : Value) (u : Value) (_ : (Nat → Prop) × (Nat → Prop)) (_ : World) => u = x) x u S' w') → (fun (x : Value) (u : Value) (_ : (Nat → Prop) × (Nat → Prop)) (_ : World) => u = x) (.bool false) v S' w' → K _ w' := hK
                            simp only [Act.put, List.setIfInBounds_toArray, List.set_cons_zero, List.set_cons_succ, e1, e7] at hK ⊢
                            have HK := Lib.hid hK
                            have HG := Lib.hid hG
                            clear hK hd hb hc hf e1 e7
                            clear hG
                            go_simp
                            exact HK.out _ S _ HG.out (fun _ _ h => h) rfl
                        case hend =>
                          intro vs S wx hG hv
                          have e9 : vs 8 = .bool false := hv 8 (by decide)
                          rw [e9]
                          have HR := Lib.hid (HFIN.out a' s S wx HRG.out hG)
                          clear hG hv e9
                          go_wp2_with fail
                          refine HR.out.is.mono ?_
                          rintro e W9 ⟨rfl, Z9⟩
                          have HZ9 := Lib.hid Z9
                          clear Z9
                          go_wp2_with fail
                          go_roundw
                          case rel => exact ⟨i + 1, _, _, _, _, _, _, by go_num, rfl, rfl, rfl, rfl, rfl, rfl, hlt, HZ9⟩
                          case measure => simp [intOf]; omega
                    · have e1 : (o.k == (1 : Int)) = false := by simpa using k1
                      by_cases k2 : o.k = 2
                      · have e2 : (o.k == (2 : Int)) = true := by simpa using k2
                        clear k0 k1 k2 h34 h5
                        as_aux_lemma =>
                          obtain ⟨a, B, C, s, E1, n1, k1, E2, n2, k2, J0, hB0, hC0, hp0, hq0, hL, hs, hbl, hfin⟩ := HZ.out.jv HBO.out
                          have HJ0 := Lib.hid J0
                          have HNO : Hid (¬ (B W0.heap.size ∨ C W0.heap.size ∨ W0.heap.size = p ∨ W0.heap.size = q)) := Lib.hid fun h => h.elim (fun h => by have := hB0 _ h; omega) fun h => h.elim (fun h => by have := hC0 _ h; omega) fun h => h.elim (fun h => by omega) fun h => by omega
                          have HPL : Hid (p < W1.heap.size) := Lib.hid (by have := J0.pn; omega)
                          have HQL : Hid (q < W1.heap.size) := Lib.hid (by have := J0.pn; omega)
                          have HLM := Lib.hid hL
                          have HBL := Lib.hid hbl
                          have HFIN := Lib.hid hfin
                          have HS0 := Lib.hid hs
                          obtain ⟨r, a', s', hr⟩ : ∃ r a' s', rebA a s (framesB o.p []) = (r, a', s') := ⟨_, _, _, rfl⟩
                          have HRR := Lib.hid hr
                          have HRG : Hid (0 ≤ s' ∧ s' ≤ 9223372036854775807) := Lib.hid (rebA_range hs hr)
                          clear hr
                          clear J0 hB0 hC0 hp0 hq0 hL hs hbl hfin
                          go_wp2_with fail
                          apply region_GQ (fun (x : Value) (u : Value) (_ : (Nat → Prop) × (Nat → Prop)) (_ : World) => u = x) (fun b c _ S wx => JV W1 B C d m p q (cond b a' a) (cond b s' s) (cond c a' a) (cond c s' s) E1 n1 k1 E2 n2 k2 S wx) 3 7 0 [wP p, .pointer (some ⟨W0.heap.size, 1, none⟩), .slice A1 o.p.length c1, .int .i64 r, rP q, .pointer (some ⟨W0.heap.size, 1, none⟩), .slice A1 o.p.length c1, .int .i64 r, .bool false] undef
                          case hm => kernel_rfl
                          case hf => kernel_rfl
                          case hp => kernel_rfl
                          case hQ => exact (by intro c x y w e h; exact And.intro (e.symm.trans (And.left h)) (And.right h))
                          case hF => intro vs; simp only [putAll, Act.put, List.setIfInBounds_toArray, List.set_cons_zero, List.set_cons_succ, Nat.reduceAdd]; rfl
                          case h0 => exact ⟨(B, C), HJ0.out.below ⟨rfl, rfl, rfl, Nat.le_refl _, fun _ _ => rfl⟩⟩
                          case hstep =>
                            repeat' (first | exact AllOps.nil | apply AllOps.cons)
                            · intro vs b c f S wx hG hd hb hc hf K hK
                              obtain rfl : f = false := hf rfl
                              replace hK : ∀ (v : Value) (S' : (Nat → Prop) × (Nat → Prop)) (w' : World), (fun b c _ S wx => JV W1 B C d m p q (cond b a' a) (cond b s' s) (cond c a' a) (cond c s' s) E1 n1 k1 E2 n2 k2 S wx) b c true S' w' → (∀ x u, (fun (x : Value) (u : Value) (_ : (Nat → Prop) × (Nat → Prop)) (_ : World) => u = x) x u S wx → (fun (x : Value) (u : Value) (_ : (Nat → Prop) × (Nat → Prop)) (_ : World) => u = x) x u S' w') → (fun (x : Value) (u : Value) (_ : (Nat → Prop) × (Nat → Prop)) (_ : World) => u = x) (wP p) v S' w' → K _ w' := hK
                              simp only [Act.put, List.setIfInBounds_toArray, List.set_cons_zero, List.set_cons_succ] at hK ⊢
                              have HK := Lib.hid hK
                              have HG := Lib.hid hG
                              clear hK hd hb hc hf
                              clear hG
                              go_simp
                              exact HK.out _ S _ HG.out (fun _ _ h => h) rfl
                            · intro vs b c f S wx hG hd hb hc hf K hK
                              replace hK : ∀ (v : Value) (S' : (Nat → Prop) × (Nat → Prop)) (w' : World), (fun b c _ S wx => JV W1 B C d m p q (cond b a' a) (cond b s' s) (cond c a' a) (cond c s' s) E1 n1 k1 E2 n2 k2 S wx) b c f S' w' → (∀ x u, (fun (x : Value) (u : Value) (_ : (Nat → Prop) × (Nat → Prop)) (_ : World) => u = x) x u S wx → (fun (x : Value) (u : Value) (_ : (Nat → Prop) × (Nat → Prop)) (_ : World) => u = x) x u S' w') → (fun (x : Value) (u : Value) (_ : (Nat → Prop) × (Nat → Prop)) (_ : World) => u = x) (.pointer (some ⟨W0.heap.size, 1, none⟩)) v S' w' → K _ w' := hK
                              simp only [Act.put, List.setIfInBounds_toArray, List.set_cons_zero, List.set_cons_succ] at hK ⊢
                              have HK := Lib.hid hK
                              have HG := Lib.hid hG
                              clear hK hd hb hc hf
                              clear hG
                              go_simp
                              exact HK.out _ S _ HG.out (fun _ _ h => h) rfl
                            · intro vs b c f S wx hG hd hb hc hf K hK
                              have e1 : vs 1 = .pointer (some ⟨W0.heap.size, 1, none⟩) := hd.get (j := 1) (by simp [depsOf, Region.binds])
                              replace hK : ∀ (v : Value) (S' : (Nat → Prop) × (Nat → Prop)) (w' : World), (fun b c _ S wx => JV W1 B C d m p q (cond b a' a) (cond b s' s) (cond c a' a) (cond c s' s) E1 n1 k1 E2 n2 k2 S wx) b c f S' w' → (∀ x u, (fun (x : Value) (u : Value) (_ : (Nat → Prop) × (Nat → Prop)) (_ : World) => u = x) x u S wx → (fun (x : Value) (u : Value) (_ : (Nat → Prop) × (Nat → Prop)) (_ : World) => u = x) x u S' w') → (fun (x : Value) (u : Value) (_ : (Nat → Prop) × (Nat → Prop)) (_ : World) => u = x) (.slice A1 o.p.length c1) v S' w' → K _ w' := hK
                              simp only [Act.put, List.setIfInBounds_toArray, List.set_cons_zero, List.set_cons_succ, e1] at hK ⊢
                              have HK := Lib.hid hK
                              have HG := Lib.hid hG
                              clear hK hd hb hc hf e1
                              have yp := HG.out.tn.cell y1 HNO.out
                              have hyl : W0.heap.size < wx.heap.size := World.block_lt_of_cell? _ _ yp
                              clear hG
                              go_simp
                              exact HK.out _ S _ HG.out (fun _ _ h => h) rfl
                            · intro vs b c f S wx hG hd hb hc hf K hK
                              obtain rfl : b = false := hb rfl
                              have e0 : vs 0 = wP p := hd.get (j := 0) (by simp [depsOf, Region.binds])
                              have e2 : vs 2 = .slice A1 o.p.length c1 := hd.get (j := 2) (by simp [depsOf, Region.binds])
                              replace hK : ∀ (v : Value) (S' : (Nat → Prop) × (Nat → Prop)) (w' : World), (fun b c _ S wx => JV W1 B C d m p q (cond b a' a) (cond b s' s) (cond c a' a) (cond c s' s) E1 n1 k1 E2 n2 k2 S wx) true c f S' w' → (∀ x u, (fun (x : Value) (u : Value) (_ : (Nat → Prop) × (Nat → Prop)) (_ : World) => u = x) x u S wx → (fun (x : Value) (u : Value) (_ : (Nat → Prop) × (Nat → Prop)) (_ : World) => u = x) x u S' w') → (fun (x : Value) (u : Value) (_ : (Nat → Prop) × (Nat → Prop)) (_ : World) => u = x) (.int .i64 r) v S' w' → K _ w' := hK
                              simp only [Act.put, List.setIfInBounds_toArray, List.set_cons_zero, List.set_cons_succ, e0, e2] at hK ⊢
                              have HK := Lib.hid hK
                              have HG := Lib.hid hG
                              clear hK hd hb hc hf e0 e2
                              clear hG
                              go_simp
                              go_at_call 16
                              refine ((show JV W1 B C d m p q a s (cond c a' a) (cond c s' s) E1 n1 k1 E2 n2 k2 S wx from HG.out).prog (r := r) (s' := s') (a' := a') fun hp => wreb_any (show Wp wx p d s from HG.out.wp) hp HG.out.dd HS0.out.1 HS0.out.2 (HBX.out.below (HBL.out _ _ _ _ _ _ HG.out)) (HBL.out _ _ _ _ _ _ HG.out).size (by have := HP.out; omega) HRR.out).mono ?_
                              rintro e w9 ⟨rfl, S9, J9, t9, h9, e9⟩
                              exact HK.out _ S9 _ J9 (fun x u h => h) rfl
                            · intro vs b c f S wx hG hd hb hc hf K hK
                              replace hK : ∀ (v : Value) (S' : (Nat → Prop) × (Nat → Prop)) (w' : World), (fun b c _ S wx => JV W1 B C d m p q (cond b a' a) (cond b s' s) (cond c a' a) (cond c s' s) E1 n1 k1 E2 n2 k2 S wx) b c f S' w' → (∀ x u, (fun (x : Value) (u : Value) (_ : (Nat → Prop) × (Nat → Prop)) (_ : World) => u = x) x u S wx → (fun (x : Value) (u : Value) (_ : (Nat → Prop) × (Nat → Prop)) (_ : World) => u = x) x u S' w') → (fun (x : Value) (u : Value) (_ : (Nat → Prop) × (Nat → Prop)) (_ : World) => u = x) (rP q) v S' w' → K _ w' := hK
                              simp only [Act.put, List.setIfInBounds_toArray, List.set_cons_zero, List.set_cons_succ] at hK ⊢
                              have HK := Lib.hid hK
                              have HG := Lib.hid hG
                              clear hK hd hb hc hf
                              clear hG
                              go_simp
                              exact HK.out _ S _ HG.out (fun _ _ h => h) rfl
                            · intro vs b c f S wx hG hd hb hc hf K hK
                              replace hK : ∀ (v : Value) (S' : (Nat → Prop) × (Nat → Prop)) (w' : World), (fun b c _ S wx => JV W1 B C d m p q (cond b a' a) (cond b s' s) (cond c a' a) (cond c s' s) E1 n1 k1 E2 n2 k2 S wx) b c f S' w' → (∀ x u, (fun (x : Value) (u : Value) (_ : (Nat → Prop) × (Nat → Prop)) (_ : World) => u = x) x u S wx → (fun (x : Value) (u : Value) (_ : (Nat → Prop) × (Nat → Prop)) (_ : World) => u = x) x u S' w') → (fun (x : Value) (u : Value) (_ : (Nat → Prop) × (Nat → Prop)) (_ : World) => u = x) (.pointer (some ⟨W0.heap.size, 1, none⟩)) v S' w' → K _ w' := hK
                              simp only [Act.put, List.setIfInBounds_toArray, List.set_cons_zero, List.set_cons_succ] at hK ⊢
                              have HK := Lib.hid hK
                              have HG := Lib.hid hG
                              clear hK hd hb hc hf
                              clear hG
                              go_simp
                              exact HK.out _ S _ HG.out (fun _ _ h => h) rfl
                            · intro vs b c f S wx hG hd hb hc hf K hK
                              have e5 : vs 5 = .pointer (some ⟨W0.heap.size, 1, none⟩) := hd.get (j := 5) (by simp [depsOf, Region.binds])
                              replace hK : ∀ (v : Value) (S' : (Nat → Prop) × (Nat → Prop)) (w' : World), (fun b c _ S wx => JV W1 B C d m p q (cond b a' a) (cond b s' s) (cond c a' a) (cond c s' s) E1 n1 k1 E2 n2 k2 S wx) b c f S' w' → (∀ x u, (fun (x : Value) (u : Value) (_ : (Nat → Prop) × (Nat → Prop)) (_ : World) => u = x) x u S wx → (fun (x : Value) (u : Value) (_ : (Nat → Prop) × (Nat → Prop)) (_ : World) => u = x) x u S' w') → (fun (x : Value) (u : Value) (_ : (Nat → Prop) × (Nat → Prop)) (_ : World) => u = x) (.slice A1 o.p.length c1) v S' w' → K _ w' := hK
                              simp only [Act.put, List.setIfInBounds_toArray, List.set_cons_zero, List.set_cons_succ, e5] at hK ⊢
                              have HK := Lib.hid hK
                              have HG := Lib.hid hG
                              clear hK hd hb hc hf e5
                              have yp := HG.out.tn.cell y1 HNO.out
                              have hyl : W0.heap.size < wx.heap.size := World.block_lt_of_cell? _ _ yp
                              clear hG
                              go_simp
                              exact HK.out _ S _ HG.out (fun _ _ h => h) rfl
                            · intro vs b c f S wx hG hd hb hc hf K hK
                              obtain rfl : c = false := hc rfl
                              have e4 : vs 4 = rP q := hd.get (j := 4) (by simp [depsOf, Region.binds])
                              have e6 : vs 6 = .slice A1 o.p.length c1 := hd.get (j := 6) (by simp [depsOf, Region.binds])
                              replace hK : ∀ (v : Value) (S' : (Nat → Prop) × (Nat → Prop)) (w' : World), (fun b c _ S wx => JV W1 B C d m p q (cond b a' a) (cond b s' s) (cond c a' a) (cond c s' s) E1 n1 k1 E2 n2 k2 S wx) b true f S' w' → (∀ x u, (fun (x : Value) (u : Value) (_ : (Nat → Prop) × (Nat → Prop)) (_ : World) => u = x) x u S wx → (fun (x : Value) (u : Value) (_ : (Nat → Prop) × (Nat → Prop)) (_ : World) => u = x) x u S' w') → (fun (x : Value) (u : Value) (_ : (Nat → Prop) × (Nat → Prop)) (_ : World) => u = x) (.int .i64 r) v S' w' → K _ w' := hK
                              simp only [Act.put, List.setIfInBounds_toArray, List.set_cons_zero, List.set_cons_succ, e4, e6] at hK ⊢
                              have HK := Lib.hid hK
                              have HG := Lib.hid hG
                              clear hK hd hb hc hf e4 e6
                              clear hG
                              go_simp
                              go_at_call 17
                              refine ((show JV W1 B C d m p q (cond b a' a) (cond b s' s) a s E1 n1 k1 E2 n2 k2 S wx from HG.out).doc (r := r) (s' := s') (b' := a') fun hq => rwreb_any (show Wq wx q m s E1 n1 k1 E2 n2 k2 from HG.out.wq) hq HG.out.rd HLM.out HS0.out.1 HS0.out.2 (HBX.out.below (HBL.out _ _ _ _ _ _ HG.out)) (HBL.out _ _ _ _ _ _ HG.out).size (by have := HP.out; omega) HRR.out).mono ?_
                              rintro e w9 ⟨rfl, S9, J9, t9, h9, e9⟩
                              exact HK.out _ S9 _ J9 (fun x u h => h) rfl
                            · intro vs b c f S wx hG hd hb hc hf K hK
                              have e3 : vs 3 = .int .i64 r := hd.get (j := 3) (by simp [depsOf, Region.binds])
                              have e7 : vs 7 = .int .i64 r := hd.get (j := 7) (by simp [depsOf, Region.binds])
                              replace hK : ∀ (v : Value) (S' : (Nat → Prop) × (Nat → Prop)) (w' : World), (fun b c _ S wx => JV W1 B C d m p q (cond b a' a) (cond b s' s) (cond c a' a) (cond c s' s) E1 n1 k1 E2 n2 k2 S wx) b c f S' w' → (∀ x u, (fun (x : Value) (u : Value) (_ : (Nat → Prop) × (Nat → Prop)) (_ : World) => u = x) x u S wx → (fun (x : Value) (u : Value) (_ : (Nat → Prop) × (Nat → Prop)) (_ : World) => u = x) x u S' w') → (fun (x : Value) (u : Value) (_ : (Nat → Prop) × (Nat → Prop)) (_ : World) => u = x) (.bool false) v S' w' → K _ w' := hK
                              simp only [Act.put, List.setIfInBounds_toArray, List.set_cons_zero, List.set_cons_succ, e3, e7] at hK ⊢
                              have HK := Lib.hid hK
                              have HG := Lib.hid hG
                              clear hK hd hb hc hf e3 e7
                              clear hG
                              go_simp
                              exact HK.out _ S _ HG.out (fun _ _ h => h) rfl
                          case hend =>
                            intro vs S wx hG hv
                            have e9 : vs 8 = .bool false := hv 8 (by decide)
                            rw [e9]
                            have HR := Lib.hid (HFIN.out a' s' S wx HRG.out hG)
                            clear hG hv e9
                            go_wp2_with fail
                            refine HR.out.is.mono ?_
                            rintro e W9 ⟨rfl, Z9⟩
                            have HZ9 := Lib.hid Z9
                            clear Z9
                            go_wp2_with fail
                            go_roundw
                            case rel => exact ⟨i + 1, _, _, _, _, _, _, by go_num, rfl, rfl, rfl, rfl, rfl, rfl, hlt, HZ9⟩
                            case measure => simp [intOf]; omega
                      · have e2 : (o.k == (2 : Int)) = false := by simpa using k2
                        clear k0 k1 k2 h34 h5
                        go_wp2_with fail
                        refine HZ1.out.is.mono ?_
                        rintro e W9 ⟨rfl, Z9⟩
                        have HZ9 := Lib.hid Z9
                        clear Z9
                        go_wp2_with fail
                        go_roundw
                        case rel => exact ⟨i + 1, _, _, _, _, _, _, by go_num, rfl, rfl, rfl, rfl, rfl, rfl, hlt, HZ9⟩
                        case measure => simp [intOf]; omega
        · have i1 : ¬ (i : Int) < os.length := by omega
          go_wp2_with fail
          go_ret
          exact ⟨rfl, HZ.out.bel⟩
end Go.Proofs.Ytkkaehaoahpibaa
