/- ViewSafe: its walk. -/
import Derived.Test.YtcgkbpjfbahleaaVw6
import Derived.Test.YtcgkbpjfbahleaaVwO
namespace Go.Proofs.Ytcgkbpjfbahleaa
open Go.RowKit Go.BigFrame

/-- A control of the law's: what it is, and that all its blocks are new. -/
structure Vs (w wr : World) (b g : Nat) (c : Vc) : Prop where
  ex : ∃ h mc sc, Ct wr b h g mc sc c ∧ w.heap.size ≤ b ∧ w.heap.size ≤ h ∧ w.heap.size ≤ g
  ok : VcOk c
  bl : Below w.heap.size w wr
section
variable {w wr w' : World} {b g : Nat} {c : Vc}
theorem Vs.lt (x : Vs w wr b g c) : b < wr.heap.size ∧ g < wr.heap.size := by
  obtain ⟨h, mc, sc, y, k⟩ := x.ex
  exact ⟨y.lt.1, y.lt.2.2⟩
theorem Vs.below (x : Vs w wr b g c) (hb : Below wr.heap.size wr w') : Vs w w' b g c := by
  obtain ⟨h, mc, sc, y, k⟩ := x.ex
  exact ⟨⟨h, mc, sc, y.below hb, k⟩, x.ok, x.bl.trans (hb.mono x.bl.size)⟩
theorem Vs.safe (x : Vs w wr b g c) : Calls Try.prog 18 #[.pointer (some ⟨b, 0, none⟩)] wr (NewI wr c.sf) := by
  obtain ⟨h, mc, sc, y, k⟩ := x.ex
  exact safe_any y (by have := x.ok.len; omega)
theorem Vs.now (x : Vs w wr b g c) : Calls Try.prog 16 #[.pointer (some ⟨b, 0, none⟩)] wr (NowP wr c) := by
  obtain ⟨h, mc, sc, y, k⟩ := x.ex
  exact now_any y (by have := mems_len x.ok.ms; omega)
theorem Vs.active (x : Vs w wr b g c) (n : Int) : Calls Try.prog 15 #[.pointer (some ⟨b, 0, none⟩), .int .i64 n] wr fun e w' => e = .returned (.int .i64 (acV c n).1) ∧ ∃ g', Vs w w' b g' (acV c n).2 := by
  obtain ⟨h, mc, sc, y, k1, k2, k3⟩ := x.ex
  have hl := mems_len x.ok.ms
  refine (active_any n y (by omega) (by omega)).mono ?_
  rintro e w' ⟨rfl, g', sc', y', kg, t⟩
  refine ⟨rfl, g', ⟨⟨h, mc, sc', y', k1, k2, ?_⟩, ac_ok x.ok n, x.bl.trans (t.below x.bl.size fun k _ e => by rw [e]; exact k1)⟩⟩
  rcases kg with rfl | kg
  · exact k3
  · exact Nat.le_trans x.bl.size kg
theorem Vs.change (x : Vs w wr b g c) (p : Int) {K0 mc0 : Nat} {A : Option Addr} {ms : List Int} (hp : Sr encI 1 wr K0 A mc0 ms) (hK : K0 ≤ w.heap.size) :
    Calls Try.prog 10 #[.pointer (some ⟨b, 0, none⟩), .int .i64 p, .slice A ms.length mc0] wr fun e w' => ∃ v, e = .returned v ∧ Vs w w' b g (chV c p ms).2 ∧ Tn (fun k => k = b ∨ k = g) wr w' := by
  obtain ⟨h, mc, sc, y, k1, k2, k3⟩ := x.ex
  have hKr : K0 ≤ wr.heap.size := Nat.le_trans hK x.bl.size
  by_cases h0 : (chV c p ms).1 = 0
  · have h1 : rightV 1 p ms = true := by
      cases h9 : rightV 1 p ms with
      | true => rfl
      | false => unfold chV at h0; rw [if_pos h9] at h0; exact absurd h0 (by simp)
    have h2 : hasB c.sf p = true := by
      cases h9 : hasB c.sf p with
      | true => rfl
      | false => unfold chV at h0; rw [if_neg (by rw [h1]; decide), if_pos h9] at h0; exact absurd h0 (by simp)
    have h3 : c.e < 4611686018427387904 := by
      rcases Int.lt_or_le c.e 4611686018427387904 with h9 | h9
      · exact h9
      · unfold chV at h0; rw [if_neg (by rw [h1]; decide), if_neg (by rw [h2]; decide), if_pos h9] at h0; exact absurd h0 (by simp)
    have hc : (chV c p ms).2 = ⟨c.e + 1, p, ms, c.sf.filter fun n => hasB ms n⟩ := by
      unfold chV; rw [if_neg (by rw [h1]; decide), if_neg (by rw [h2]; decide), if_neg (by omega)]
    have hok := ch_ok x.ok p ms
    rw [hc] at hok ⊢
    refine (change_yes y hp hKr (fun hl ad e => ?_) h1 h2 h3 x.ok.e1).mono ?_
    · obtain ⟨ad', e', hb', _⟩ := hp.at_ hl
      rw [e] at e'
      cases e'
      exact ⟨by omega, by omega⟩
    · rintro e w' ⟨h', mc', A', cp, K', rfl, y', kh, _, _, _, t⟩
      exact ⟨_, rfl, ⟨⟨h', mc', sc, y', k1, Nat.le_trans x.bl.size kh, k3⟩, hok, x.bl.trans (t.below x.bl.size fun k _ e => by rcases e with rfl | rfl <;> assumption)⟩, t⟩
  · have hc : (chV c p ms).2 = c := by
      unfold chV at h0 ⊢
      split
      · rfl
      · split
        · rfl
        · split
          · rfl
          · rename_i q1 q2 q3
            rw [if_neg q1, if_neg q2, if_neg q3] at h0
            exact absurd rfl h0
    refine (change_no y hp hKr (r := (chV c p ms).1) (c' := (chV c p ms).2) rfl h0).mono ?_
    rintro e w' ⟨rfl, hb⟩
    refine ⟨_, rfl, ?_⟩
    rw [hc]
    exact ⟨x.below hb, Tn.ofNew hb⟩
end
set_option maxRecDepth 100000 in
set_option maxHeartbeats 6400000 in
theorem viewsafe_any (fA : Option Addr) (fc : Nat) (f : List Int) (A : Option Addr) (cap : Nat) (os : List Op15) (w : World) (hf : Sr encI 1 w w.heap.size fA fc f) (ho : Os15 w w.heap.size A cap os) :
    Calls Try.prog 4 #[.slice fA f.length fc, .slice A os.length cap] w (Ok0 w) := by
  cases hm : memsB f with
  | false =>
    have HN := Lib.hid (new_no w.heap.size fA f.length fc f w rfl hf hm)
    clear hf ho hm
    go_enter Try.func4, Try.ntmps4
    go_wp2_with fail
    go_at_call 7
    refine HN.out.mono ?_
    rintro e w1 ⟨rfl, rfl⟩
    go_wp2_with fail
    go_at_call 9
    refine (awake_any _).mono ?_
    rintro e w2 ⟨rfl, b2⟩
    have HB2 := Lib.hid b2
    clear b2
    go_wp2_with fail
    go_at_call 9
    refine (awake_any _).mono ?_
    rintro e w3 ⟨rfl, b3⟩
    have HB3 := Lib.hid (HB2.out.trans (b3.mono HB2.out.size))
    clear b3
    go_wp2_with fail
    go_ret
    exact ⟨rfl, HB3.out⟩
  | true =>
    have hl0 := mems_len hm
    obtain ⟨ad, hA, _⟩ := hf.at_ (by omega)
    subst hA
    have HN := Lib.hid (new_ok_any w.heap.size ad fc f (f.headD 0) w hf (Nat.le_refl _) hm rfl)
    have HO := Lib.hid ho
    have hcl := ho.le
    have hcm := ho.max
    unfold maxLen at hcm
    have HNK : Hid (VcOk ⟨1, f.headD 0, f, f⟩) := Lib.hid (by
      cases f with
      | nil => simp at hl0
      | cons m l => exact new_ok hm)
    clear hf ho hm hl0
    go_enter Try.func4, Try.ntmps4
    go_wp2_with fail
    go_at_call 7
    refine HN.out.mono ?_
    rintro e w1 ⟨b, rfl, h, g, mc, sc, x1, k1, b1⟩
    have HV1 : Hid (Vs w w1 b g ⟨1, f.headD 0, f, f⟩) := Lib.hid ⟨⟨h, mc, sc, x1, k1⟩, HNK.out, b1⟩
    clear x1 k1 b1
    go_wp2_with fail
    go_at_call 9
    refine (awake_any _).mono ?_
    rintro e w2 ⟨rfl, b2⟩
    have HV2 := Lib.hid (HV1.out.below b2)
    clear b2
    go_wp2_with fail
    go_loopw [33] (fun iv wr => ∃ i : Nat, i ≤ os.length ∧ iv = .int .i64 (i : Int) ∧ ∃ g c, Vs w wr b g c) (fun iv _ => os.length - (intOf iv).toNat)
    case atStart => exact ⟨0, Nat.zero_le _, rfl, _, _, HV2.out⟩
    case round =>
      obtain ⟨i, hi, rfl, g, c, hv⟩ := hrel
      rename World => W0
      have HVC := Lib.hid hv
      clear hv
      by_cases hlt : i < os.length
      · obtain ⟨ad, A2, d2, hA, X⟩ := (HO.out.below HVC.out.bl).get (List.getElem?_eq_getElem hlt)
        subst hA
        generalize os[i] = o at X
        have x0 := X.x0
        have x1 := X.x1
        have x2 := X.x2
        have hi0 : 0 ≤ (i : Int) := by omega
        have HX := Lib.hid X
        clear X
        go_wp2_with fail
        go_at_call 18
        have HBX0 : Hid (Below W0.heap.size W0 (W0.alloc (.cells #[.int .i64 o.k, .int .i64 o.n, .slice A2 o.ms.length d2] 36))) := Lib.hid ((Below.refl _ _).alloc (Nat.le_refl _) _)
        refine ((HVC.out.below HBX0.out).safe).mono ?_
        rintro e w3 ⟨A3, d3, rfl, so3, b3⟩
        have HV3 := Lib.hid ((HVC.out.below HBX0.out).below b3)
        have so3b := so3
        have HSP := Lib.hid ((HX.out.sr.below (HBX0.out.mono HVC.out.bl.size)).below (b3.mono (Nat.le_trans HVC.out.bl.size HBX0.out.size)))
        have y0 := kept b3 (p := ⟨W0.heap.size, 0, none⟩) (v := .int .i64 o.k) (by simp [go_sem])
        have y1 := kept b3 (p := ⟨W0.heap.size, 1, none⟩) (v := .int .i64 o.n) (by simp [go_sem])
        have y2 := kept b3 (p := ⟨W0.heap.size, 2, none⟩) (v := .slice A2 o.ms.length d2) (by simp [go_sem])
        have hz3 : W0.heap.size < w3.heap.size := by have := b3.size; simp at this; omega
        clear so3 b3 x0 x1 x2
        cases hk : (o.k == (0 : Int)) with
        | true =>
          go_wp2_with fail
          go_at_call 10
          refine (HV3.out.change o.n HSP.out (Nat.le_refl _)).mono ?_
          rintro e w4 ⟨v4, rfl, hv4, t4⟩
          have hlt0 := HVC.out.lt
          have HW4 := Lib.hid ((so3b.tn t4 (fun k e q => by have := (so3b.lt k e).1; simp at this; omega)).sr encI_len).1
          have HSUB : Hid (∀ n ∈ (chV c o.n o.ms).2.sf, n ∈ c.sf) := Lib.hid ch_sub
          generalize (chV c o.n o.ms).2 = c2 at *
          have HV4 := Lib.hid hv4
          have HVK := Lib.hid hv4.ok
          clear hv4 t4 so3b
          obtain ⟨g2, hg2⟩ : ∃ g2, g2 = g := ⟨_, rfl⟩
          rw [← hg2] at HV4
          clear hg2
          go_wp2_with fail
          go_at_call 18
          refine (HV4.out.safe).mono ?_
          rintro e w5 ⟨A5, d5, rfl, so5, b5⟩
          have HVX := Lib.hid (HV4.out.below b5)
          have HL5 := Lib.hid (so5.sr encI_len).1
          have HW5 := Lib.hid (HW4.out.below b5)
          have hle5 := (so5.sr encI_len).1.le
          have hmax5 := (so5.sr encI_len).1.max
          unfold maxLen at hmax5
          clear so5 b5
          go_wp2_with fail
          go_loop [51] (fun jv => ∃ j : Nat, j ≤ c2.sf.length ∧ jv = .int .i64 (j : Int)) (fun jv => c2.sf.length - (intOf jv).toNat)
          case atStart => exact ⟨0, Nat.zero_le _, rfl⟩
          case round =>
            obtain ⟨j, hj, rfl⟩ := hrel
            by_cases hjl : j < c2.sf.length
            · obtain ⟨ad5, rfl, _, hc5⟩ := HL5.out.int hjl
              have HMM : Hid (hasB c.sf c2.sf[j] = true) := Lib.hid (by unfold hasB; simpa using HSUB.out _ (List.getElem_mem hjl))
              generalize c2.sf[j] = x at *
              have HRH := Lib.hid (rhas_any w4.heap.size A3 _ d3 c.sf x w5 rfl HW5.out)
              rw [HMM.out] at HRH
              go_wp2_with (go_at_call 21; refine HRH.out.mono ?_; rintro e w9 ⟨rfl, rfl⟩)
              go_round
              case rel => exact ⟨j + 1, by omega, by go_num⟩
              case measure => simp [intOf]; omega
            · go_wp2_with fail
              go_at_call 16
              refine (HVX.out.now).mono ?_
              rintro e w4 ⟨A4, d4, rfl, so4, b4⟩
              have HV5 : Hid (Vs w (w4.alloc (.cells #[.int .i64 c2.e, .int .i64 c2.p, .slice A4 c2.ms.length d4] 37)) b g2 c2) := Lib.hid ((HVX.out.below b4).below ((Below.refl _ _).alloc (Nat.le_refl _) _))
              have HSR : Hid (Sr encI 1 (w4.alloc (.cells #[.int .i64 c2.e, .int .i64 c2.p, .slice A4 c2.ms.length d4] 37)) (w4.alloc (.cells #[.int .i64 c2.e, .int .i64 c2.p, .slice A4 c2.ms.length d4] 37)).heap.size A4 d4 c2.ms) := Lib.hid (((so4.sr encI_len).1.alloc (Nat.le_refl _) _).more (by simp))
              have HOK : Hid (rightV c2.e c2.p c2.ms = true) := Lib.hid (rightV_iff.2 ⟨HVK.out.e1, HVK.out.e2, HVK.out.ms, HVK.out.pm⟩)
              have HPS : Hid (hasB c2.sf c2.p = true) := Lib.hid (by unfold hasB; simpa using HVK.out.ps)
              have HB0 : Hid ((w4.alloc (.cells #[.int .i64 c2.e, .int .i64 c2.p, .slice A4 c2.ms.length d4] 37)).cell? ⟨w4.heap.size, 0, none⟩ = some (.int .i64 c2.e)) := Lib.hid (by simp [go_sem])
              have HB1 : Hid ((w4.alloc (.cells #[.int .i64 c2.e, .int .i64 c2.p, .slice A4 c2.ms.length d4] 37)).cell? ⟨w4.heap.size, 1, none⟩ = some (.int .i64 c2.p)) := Lib.hid (by simp [go_sem])
              have HB2 : Hid ((w4.alloc (.cells #[.int .i64 c2.e, .int .i64 c2.p, .slice A4 c2.ms.length d4] 37)).cell? ⟨w4.heap.size, 2, none⟩ = some (.slice A4 c2.ms.length d4)) := Lib.hid (by simp [go_sem])
              have HBX : Hid (w4.heap.size < (w4.alloc (.cells #[.int .i64 c2.e, .int .i64 c2.p, .slice A4 c2.ms.length d4] 37)).heap.size) := Lib.hid (by simp)
              clear so4 b4
              go_upto_region 18 with fail
              generalize w4.alloc (.cells #[.int .i64 c2.e, .int .i64 c2.p, .slice A4 c2.ms.length d4] 37) = W5 at *
              apply region_V (HV W5.heap.size) (Below W5.heap.size W5) [.v (.agg #[.int .i64 c2.e, .int .i64 c2.p, .slice A4 c2.ms.length d4]), .v (.bool true), .v (.bool false), .v (.bool false), .v (.pointer (some ⟨b, 0, none⟩)), .s c2.sf, .v (.pointer (some ⟨w4.heap.size, 1, none⟩)), .v (.int .i64 c2.p), .v (.bool true), .v (.bool false), .v (.bool false)] (.v undef)
              case mono => exact fun p v w0 w1 h hb => HV.mono h hb
              case hm => kernel_rfl
              case hf => kernel_rfl
              case hQ => exact (by intro c x y w e h; exact And.intro (e.symm.trans (And.left h)) (And.right h))
              case hF => intro vs; simp only [putAll, Act.put, List.setIfInBounds_toArray, List.set_cons_zero, List.set_cons_succ, Nat.reduceAdd]; rfl
              case h0 => exact ⟨rfl, rfl, rfl, Nat.le_refl _, fun _ _ => rfl⟩
              case hstep =>
                repeat' (first | exact AllOps.nil | apply AllOps.cons)
                · intro vs wx hG hd K hK
                  replace hK : ∀ (uu : Value) (w' : World), Below wx.heap.size wx w' → ((Below W5.heap.size W5)) w' → (HV W5.heap.size) (.v (.agg #[.int .i64 c2.e, .int .i64 c2.p, .slice A4 c2.ms.length d4])) uu w' → K _ w' := hK
                  simp only [Act.put, List.setIfInBounds_toArray, List.set_cons_zero, List.set_cons_succ] at hK ⊢
                  have HK := Lib.hid hK
                  have HG := Lib.hid hG
                  clear hK hd
                  have h0 := HG.out.cell (p := ⟨w4.heap.size, 0, none⟩) HBX.out
                  rw [HB0.out] at h0
                  have h1 := HG.out.cell (p := ⟨w4.heap.size, 1, none⟩) HBX.out
                  rw [HB1.out] at h1
                  have h2 := HG.out.cell (p := ⟨w4.heap.size, 2, none⟩) HBX.out
                  rw [HB2.out] at h2
                  clear hG
                  go_simp
                  exact HK.out _ _ (Below.refl _ _) HG.out rfl
                · intro vs wx hG hd K hK
                  have e0 : vs 0 = .agg #[.int .i64 c2.e, .int .i64 c2.p, .slice A4 c2.ms.length d4] := hd.get (j := 0) (by simp [depsOf, Region.binds])
                  replace hK : ∀ (uu : Value) (w' : World), Below wx.heap.size wx w' → ((Below W5.heap.size W5)) w' → (HV W5.heap.size) (.v (.bool true)) uu w' → K _ w' := hK
                  simp only [Act.put, List.setIfInBounds_toArray, List.set_cons_zero, List.set_cons_succ, e0] at hK ⊢
                  have HK := Lib.hid hK
                  have HG := Lib.hid hG
                  clear hK hd e0
                  clear hG
                  go_simp
                  go_at_call 19
                  refine (vright_any c2.e c2.p W5.heap.size A4 _ d4 c2.ms wx rfl (HSR.out.below HG.out) HG.out.size).mono ?_
                  rintro e w9 ⟨rfl, hb⟩
                  exact HK.out _ _ hb (HG.out.trans (hb.mono HG.out.size)) (by rw [HOK.out]; rfl)
                · intro vs wx hG hd K hK
                  have e1 : vs 1 = .bool true := hd.get (j := 1) (by simp [depsOf, Region.binds])
                  replace hK : ∀ (uu : Value) (w' : World), Below wx.heap.size wx w' → ((Below W5.heap.size W5)) w' → (HV W5.heap.size) (.v (.bool false)) uu w' → K _ w' := hK
                  simp only [Act.put, List.setIfInBounds_toArray, List.set_cons_zero, List.set_cons_succ, e1] at hK ⊢
                  have HK := Lib.hid hK
                  have HG := Lib.hid hG
                  clear hK hd e1
                  clear hG
                  go_simp
                  exact HK.out _ _ (Below.refl _ _) HG.out rfl
                · intro vs wx hG hd K hK
                  have e2 : vs 2 = .bool false := hd.get (j := 2) (by simp [depsOf, Region.binds])
                  replace hK : ∀ (uu : Value) (w' : World), Below wx.heap.size wx w' → ((Below W5.heap.size W5)) w' → (HV W5.heap.size) (.v (.bool false)) uu w' → K _ w' := hK
                  simp only [Act.put, List.setIfInBounds_toArray, List.set_cons_zero, List.set_cons_succ, e2] at hK ⊢
                  have HK := Lib.hid hK
                  have HG := Lib.hid hG
                  clear hK hd e2
                  clear hG
                  go_simp
                  exact HK.out _ _ (Below.refl _ _) HG.out rfl
                · intro vs wx hG hd K hK
                  have e3 : vs 3 = .bool false := hd.get (j := 3) (by simp [depsOf, Region.binds])
                  replace hK : ∀ (uu : Value) (w' : World), Below wx.heap.size wx w' → ((Below W5.heap.size W5)) w' → (HV W5.heap.size) (.v (.pointer (some ⟨b, 0, none⟩))) uu w' → K _ w' := hK
                  simp only [Act.put, List.setIfInBounds_toArray, List.set_cons_zero, List.set_cons_succ, e3] at hK ⊢
                  have HK := Lib.hid hK
                  have HG := Lib.hid hG
                  clear hK hd e3
                  clear hG
                  go_simp
                  exact HK.out _ _ (Below.refl _ _) HG.out rfl
                · intro vs wx hG hd K hK
                  have e3 : vs 3 = .bool false := hd.get (j := 3) (by simp [depsOf, Region.binds])
                  have e4 : vs 4 = .pointer (some ⟨b, 0, none⟩) := hd.get (j := 4) (by simp [depsOf, Region.binds])
                  replace hK : ∀ (uu : Value) (w' : World), Below wx.heap.size wx w' → ((Below W5.heap.size W5)) w' → (HV W5.heap.size) (.s c2.sf) uu w' → K _ w' := hK
                  simp only [Act.put, List.setIfInBounds_toArray, List.set_cons_zero, List.set_cons_succ, e3, e4] at hK ⊢
                  have HK := Lib.hid hK
                  have HG := Lib.hid hG
                  clear hK hd e3 e4
                  clear hG
                  go_simp
                  go_at_call 18
                  refine ((HV5.out.below HG.out).safe).mono ?_
                  rintro e w9 ⟨A9, c9, rfl, h9, hb⟩
                  exact HK.out _ _ hb (HG.out.trans (hb.mono HG.out.size)) ⟨A9, c9, rfl, h9.more HG.out.size⟩
                · intro vs wx hG hd K hK
                  have e3 : vs 3 = .bool false := hd.get (j := 3) (by simp [depsOf, Region.binds])
                  replace hK : ∀ (uu : Value) (w' : World), Below wx.heap.size wx w' → ((Below W5.heap.size W5)) w' → (HV W5.heap.size) (.v (.pointer (some ⟨w4.heap.size, 1, none⟩))) uu w' → K _ w' := hK
                  simp only [Act.put, List.setIfInBounds_toArray, List.set_cons_zero, List.set_cons_succ, e3] at hK ⊢
                  have HK := Lib.hid hK
                  have HG := Lib.hid hG
                  clear hK hd e3
                  clear hG
                  go_simp
                  exact HK.out _ _ (Below.refl _ _) HG.out rfl
                · intro vs wx hG hd K hK
                  have e3 : vs 3 = .bool false := hd.get (j := 3) (by simp [depsOf, Region.binds])
                  have e6 : vs 6 = .pointer (some ⟨w4.heap.size, 1, none⟩) := hd.get (j := 6) (by simp [depsOf, Region.binds])
                  replace hK : ∀ (uu : Value) (w' : World), Below wx.heap.size wx w' → ((Below W5.heap.size W5)) w' → (HV W5.heap.size) (.v (.int .i64 c2.p)) uu w' → K _ w' := hK
                  simp only [Act.put, List.setIfInBounds_toArray, List.set_cons_zero, List.set_cons_succ, e3, e6] at hK ⊢
                  have HK := Lib.hid hK
                  have HG := Lib.hid hG
                  clear hK hd e3 e6
                  have h0 := HG.out.cell (p := ⟨w4.heap.size, 0, none⟩) HBX.out
                  rw [HB0.out] at h0
                  have h1 := HG.out.cell (p := ⟨w4.heap.size, 1, none⟩) HBX.out
                  rw [HB1.out] at h1
                  have h2 := HG.out.cell (p := ⟨w4.heap.size, 2, none⟩) HBX.out
                  rw [HB2.out] at h2
                  clear hG
                  go_simp
                  exact HK.out _ _ (Below.refl _ _) HG.out rfl
                · intro vs wx hG hd K hK
                  have e3 : vs 3 = .bool false := hd.get (j := 3) (by simp [depsOf, Region.binds])
                  obtain ⟨A5, d5, e5, r5⟩ : ∃ A' c', vs 5 = .slice A' c2.sf.length c' ∧ So encI 1 wx W5.heap.size 3 (.slice A' c2.sf.length c') c2.sf := hd.get (j := 5) (by simp [depsOf, Region.binds])
                  have e7 : vs 7 = .int .i64 c2.p := hd.get (j := 7) (by simp [depsOf, Region.binds])
                  replace hK : ∀ (uu : Value) (w' : World), Below wx.heap.size wx w' → ((Below W5.heap.size W5)) w' → (HV W5.heap.size) (.v (.bool true)) uu w' → K _ w' := hK
                  simp only [Act.put, List.setIfInBounds_toArray, List.set_cons_zero, List.set_cons_succ, e3, e5, e7] at hK ⊢
                  have HK := Lib.hid hK
                  have HG := Lib.hid hG
                  clear hK hd e3 e5 e7
                  clear hG
                  go_simp
                  go_at_call 21
                  refine (rhas_any wx.heap.size A5 _ d5 c2.sf c2.p wx rfl (r5.sr encI_len).1).mono ?_
                  rintro e w9 ⟨rfl, rfl⟩
                  exact HK.out _ _ (Below.refl _ _) HG.out (by rw [HPS.out]; rfl)
                · intro vs wx hG hd K hK
                  have e3 : vs 3 = .bool false := hd.get (j := 3) (by simp [depsOf, Region.binds])
                  have e8 : vs 8 = .bool true := hd.get (j := 8) (by simp [depsOf, Region.binds])
                  replace hK : ∀ (uu : Value) (w' : World), Below wx.heap.size wx w' → ((Below W5.heap.size W5)) w' → (HV W5.heap.size) (.v (.bool false)) uu w' → K _ w' := hK
                  simp only [Act.put, List.setIfInBounds_toArray, List.set_cons_zero, List.set_cons_succ, e3, e8] at hK ⊢
                  have HK := Lib.hid hK
                  have HG := Lib.hid hG
                  clear hK hd e3 e8
                  clear hG
                  go_simp
                  exact HK.out _ _ (Below.refl _ _) HG.out rfl
                · intro vs wx hG hd K hK
                  have e3 : vs 3 = .bool false := hd.get (j := 3) (by simp [depsOf, Region.binds])
                  have e9 : vs 9 = .bool false := hd.get (j := 9) (by simp [depsOf, Region.binds])
                  replace hK : ∀ (uu : Value) (w' : World), Below wx.heap.size wx w' → ((Below W5.heap.size W5)) w' → (HV W5.heap.size) (.v (.bool false)) uu w' → K _ w' := hK
                  simp only [Act.put, List.setIfInBounds_toArray, List.set_cons_zero, List.set_cons_succ, e3, e9] at hK ⊢
                  have HK := Lib.hid hK
                  have HG := Lib.hid hG
                  clear hK hd e3 e9
                  clear hG
                  go_simp
                  exact HK.out _ _ (Below.refl _ _) HG.out rfl
              case hend =>
                intro vs W6 hG hv
                have e10 : vs 10 = .bool false := hv 10 (by decide)
                have HG6 := Lib.hid hG
                clear hG hv
                simp only [e10]
                go_wp2_with fail
                go_at_call 18
                refine ((HV5.out.below HG6.out).safe).mono ?_
                rintro e w7 ⟨A7, d7, rfl, so7, b7⟩
                have HV7 := Lib.hid ((HV5.out.below HG6.out).below b7)
                have HG7 := Lib.hid (HG6.out.trans (b7.mono HG6.out.size))
                have HL := Lib.hid (so7.sr encI_len).1
                have h2 := HG7.out.cell (p := ⟨w4.heap.size, 2, none⟩) HBX.out
                rw [HB2.out] at h2
                have hbx7 : w4.heap.size < w7.heap.size := Nat.lt_of_lt_of_le HBX.out HG7.out.size
                have HSM := Lib.hid (HSR.out.below HG7.out)
                have hle7 := (so7.sr encI_len).1.le
                have hmax7 := (so7.sr encI_len).1.max
                unfold maxLen at hmax7
                clear so7 b7
                go_wp2_with fail
                go_loop [80] (fun jv => ∃ j : Nat, j ≤ c2.sf.length ∧ jv = .int .i64 (j : Int)) (fun jv => c2.sf.length - (intOf jv).toNat)
                case atStart => exact ⟨0, Nat.zero_le _, rfl⟩
                case round =>
                  obtain ⟨j, hj, rfl⟩ := hrel
                  by_cases hjl : j < c2.sf.length
                  · obtain ⟨ad7, rfl, _, hc7⟩ := HL.out.int hjl
                    have HMM : Hid (hasB c2.ms c2.sf[j] = true) := Lib.hid (by unfold hasB; simpa using HVK.out.sub _ (List.getElem_mem hjl))
                    generalize c2.sf[j] = x at *
                    have HRH := Lib.hid (rhas_any W5.heap.size A4 _ d4 c2.ms x w7 rfl HSM.out)
                    rw [HMM.out] at HRH
                    go_wp2_with (go_at_call 21; refine HRH.out.mono ?_; rintro e w9 ⟨rfl, rfl⟩)
                    go_round
                    case rel => exact ⟨j + 1, by omega, by go_num⟩
                    case measure => simp [intOf]; omega
                  · go_wp2
                    go_roundw
                    case rel => exact ⟨i + 1, by omega, by go_num, g2, c2, HV7.out⟩
                    case measure => simp [intOf]; omega
        | false =>
          go_wp2_with fail
          go_at_call 15
          refine (HV3.out.active o.n).mono ?_
          rintro e w4 ⟨rfl, g2, hv4⟩
          generalize (acV c o.n).2 = c2 at *
          have HVX := Lib.hid hv4
          have HVK := Lib.hid hv4.ok
          clear hv4
          go_wp2_with fail
          go_at_call 16
          refine (HVX.out.now).mono ?_
          rintro e w4 ⟨A4, d4, rfl, so4, b4⟩
          have HV5 : Hid (Vs w (w4.alloc (.cells #[.int .i64 c2.e, .int .i64 c2.p, .slice A4 c2.ms.length d4] 37)) b g2 c2) := Lib.hid ((HVX.out.below b4).below ((Below.refl _ _).alloc (Nat.le_refl _) _))
          have HSR : Hid (Sr encI 1 (w4.alloc (.cells #[.int .i64 c2.e, .int .i64 c2.p, .slice A4 c2.ms.length d4] 37)) (w4.alloc (.cells #[.int .i64 c2.e, .int .i64 c2.p, .slice A4 c2.ms.length d4] 37)).heap.size A4 d4 c2.ms) := Lib.hid (((so4.sr encI_len).1.alloc (Nat.le_refl _) _).more (by simp))
          have HOK : Hid (rightV c2.e c2.p c2.ms = true) := Lib.hid (rightV_iff.2 ⟨HVK.out.e1, HVK.out.e2, HVK.out.ms, HVK.out.pm⟩)
          have HPS : Hid (hasB c2.sf c2.p = true) := Lib.hid (by unfold hasB; simpa using HVK.out.ps)
          have HB0 : Hid ((w4.alloc (.cells #[.int .i64 c2.e, .int .i64 c2.p, .slice A4 c2.ms.length d4] 37)).cell? ⟨w4.heap.size, 0, none⟩ = some (.int .i64 c2.e)) := Lib.hid (by simp [go_sem])
          have HB1 : Hid ((w4.alloc (.cells #[.int .i64 c2.e, .int .i64 c2.p, .slice A4 c2.ms.length d4] 37)).cell? ⟨w4.heap.size, 1, none⟩ = some (.int .i64 c2.p)) := Lib.hid (by simp [go_sem])
          have HB2 : Hid ((w4.alloc (.cells #[.int .i64 c2.e, .int .i64 c2.p, .slice A4 c2.ms.length d4] 37)).cell? ⟨w4.heap.size, 2, none⟩ = some (.slice A4 c2.ms.length d4)) := Lib.hid (by simp [go_sem])
          have HBX : Hid (w4.heap.size < (w4.alloc (.cells #[.int .i64 c2.e, .int .i64 c2.p, .slice A4 c2.ms.length d4] 37)).heap.size) := Lib.hid (by simp)
          clear so4 b4
          go_upto_region 18 with fail
          generalize w4.alloc (.cells #[.int .i64 c2.e, .int .i64 c2.p, .slice A4 c2.ms.length d4] 37) = W5 at *
          apply region_V (HV W5.heap.size) (Below W5.heap.size W5) [.v (.agg #[.int .i64 c2.e, .int .i64 c2.p, .slice A4 c2.ms.length d4]), .v (.bool true), .v (.bool false), .v (.bool false), .v (.pointer (some ⟨b, 0, none⟩)), .s c2.sf, .v (.pointer (some ⟨w4.heap.size, 1, none⟩)), .v (.int .i64 c2.p), .v (.bool true), .v (.bool false), .v (.bool false)] (.v undef)
          case mono => exact fun p v w0 w1 h hb => HV.mono h hb
          case hm => kernel_rfl
          case hf => kernel_rfl
          case hQ => exact (by intro c x y w e h; exact And.intro (e.symm.trans (And.left h)) (And.right h))
          case hF => intro vs; simp only [putAll, Act.put, List.setIfInBounds_toArray, List.set_cons_zero, List.set_cons_succ, Nat.reduceAdd]; rfl
          case h0 => exact ⟨rfl, rfl, rfl, Nat.le_refl _, fun _ _ => rfl⟩
          case hstep =>
            repeat' (first | exact AllOps.nil | apply AllOps.cons)
            · intro vs wx hG hd K hK
              replace hK : ∀ (uu : Value) (w' : World), Below wx.heap.size wx w' → ((Below W5.heap.size W5)) w' → (HV W5.heap.size) (.v (.agg #[.int .i64 c2.e, .int .i64 c2.p, .slice A4 c2.ms.length d4])) uu w' → K _ w' := hK
              simp only [Act.put, List.setIfInBounds_toArray, List.set_cons_zero, List.set_cons_succ] at hK ⊢
              have HK := Lib.hid hK
              have HG := Lib.hid hG
              clear hK hd
              have h0 := HG.out.cell (p := ⟨w4.heap.size, 0, none⟩) HBX.out
              rw [HB0.out] at h0
              have h1 := HG.out.cell (p := ⟨w4.heap.size, 1, none⟩) HBX.out
              rw [HB1.out] at h1
              have h2 := HG.out.cell (p := ⟨w4.heap.size, 2, none⟩) HBX.out
              rw [HB2.out] at h2
              clear hG
              go_simp
              exact HK.out _ _ (Below.refl _ _) HG.out rfl
            · intro vs wx hG hd K hK
              have e0 : vs 0 = .agg #[.int .i64 c2.e, .int .i64 c2.p, .slice A4 c2.ms.length d4] := hd.get (j := 0) (by simp [depsOf, Region.binds])
              replace hK : ∀ (uu : Value) (w' : World), Below wx.heap.size wx w' → ((Below W5.heap.size W5)) w' → (HV W5.heap.size) (.v (.bool true)) uu w' → K _ w' := hK
              simp only [Act.put, List.setIfInBounds_toArray, List.set_cons_zero, List.set_cons_succ, e0] at hK ⊢
              have HK := Lib.hid hK
              have HG := Lib.hid hG
              clear hK hd e0
              clear hG
              go_simp
              go_at_call 19
              refine (vright_any c2.e c2.p W5.heap.size A4 _ d4 c2.ms wx rfl (HSR.out.below HG.out) HG.out.size).mono ?_
              rintro e w9 ⟨rfl, hb⟩
              exact HK.out _ _ hb (HG.out.trans (hb.mono HG.out.size)) (by rw [HOK.out]; rfl)
            · intro vs wx hG hd K hK
              have e1 : vs 1 = .bool true := hd.get (j := 1) (by simp [depsOf, Region.binds])
              replace hK : ∀ (uu : Value) (w' : World), Below wx.heap.size wx w' → ((Below W5.heap.size W5)) w' → (HV W5.heap.size) (.v (.bool false)) uu w' → K _ w' := hK
              simp only [Act.put, List.setIfInBounds_toArray, List.set_cons_zero, List.set_cons_succ, e1] at hK ⊢
              have HK := Lib.hid hK
              have HG := Lib.hid hG
              clear hK hd e1
              clear hG
              go_simp
              exact HK.out _ _ (Below.refl _ _) HG.out rfl
            · intro vs wx hG hd K hK
              have e2 : vs 2 = .bool false := hd.get (j := 2) (by simp [depsOf, Region.binds])
              replace hK : ∀ (uu : Value) (w' : World), Below wx.heap.size wx w' → ((Below W5.heap.size W5)) w' → (HV W5.heap.size) (.v (.bool false)) uu w' → K _ w' := hK
              simp only [Act.put, List.setIfInBounds_toArray, List.set_cons_zero, List.set_cons_succ, e2] at hK ⊢
              have HK := Lib.hid hK
              have HG := Lib.hid hG
              clear hK hd e2
              clear hG
              go_simp
              exact HK.out _ _ (Below.refl _ _) HG.out rfl
            · intro vs wx hG hd K hK
              have e3 : vs 3 = .bool false := hd.get (j := 3) (by simp [depsOf, Region.binds])
              replace hK : ∀ (uu : Value) (w' : World), Below wx.heap.size wx w' → ((Below W5.heap.size W5)) w' → (HV W5.heap.size) (.v (.pointer (some ⟨b, 0, none⟩))) uu w' → K _ w' := hK
              simp only [Act.put, List.setIfInBounds_toArray, List.set_cons_zero, List.set_cons_succ, e3] at hK ⊢
              have HK := Lib.hid hK
              have HG := Lib.hid hG
              clear hK hd e3
              clear hG
              go_simp
              exact HK.out _ _ (Below.refl _ _) HG.out rfl
            · intro vs wx hG hd K hK
              have e3 : vs 3 = .bool false := hd.get (j := 3) (by simp [depsOf, Region.binds])
              have e4 : vs 4 = .pointer (some ⟨b, 0, none⟩) := hd.get (j := 4) (by simp [depsOf, Region.binds])
              replace hK : ∀ (uu : Value) (w' : World), Below wx.heap.size wx w' → ((Below W5.heap.size W5)) w' → (HV W5.heap.size) (.s c2.sf) uu w' → K _ w' := hK
              simp only [Act.put, List.setIfInBounds_toArray, List.set_cons_zero, List.set_cons_succ, e3, e4] at hK ⊢
              have HK := Lib.hid hK
              have HG := Lib.hid hG
              clear hK hd e3 e4
              clear hG
              go_simp
              go_at_call 18
              refine ((HV5.out.below HG.out).safe).mono ?_
              rintro e w9 ⟨A9, c9, rfl, h9, hb⟩
              exact HK.out _ _ hb (HG.out.trans (hb.mono HG.out.size)) ⟨A9, c9, rfl, h9.more HG.out.size⟩
            · intro vs wx hG hd K hK
              have e3 : vs 3 = .bool false := hd.get (j := 3) (by simp [depsOf, Region.binds])
              replace hK : ∀ (uu : Value) (w' : World), Below wx.heap.size wx w' → ((Below W5.heap.size W5)) w' → (HV W5.heap.size) (.v (.pointer (some ⟨w4.heap.size, 1, none⟩))) uu w' → K _ w' := hK
              simp only [Act.put, List.setIfInBounds_toArray, List.set_cons_zero, List.set_cons_succ, e3] at hK ⊢
              have HK := Lib.hid hK
              have HG := Lib.hid hG
              clear hK hd e3
              clear hG
              go_simp
              exact HK.out _ _ (Below.refl _ _) HG.out rfl
            · intro vs wx hG hd K hK
              have e3 : vs 3 = .bool false := hd.get (j := 3) (by simp [depsOf, Region.binds])
              have e6 : vs 6 = .pointer (some ⟨w4.heap.size, 1, none⟩) := hd.get (j := 6) (by simp [depsOf, Region.binds])
              replace hK : ∀ (uu : Value) (w' : World), Below wx.heap.size wx w' → ((Below W5.heap.size W5)) w' → (HV W5.heap.size) (.v (.int .i64 c2.p)) uu w' → K _ w' := hK
              simp only [Act.put, List.setIfInBounds_toArray, List.set_cons_zero, List.set_cons_succ, e3, e6] at hK ⊢
              have HK := Lib.hid hK
              have HG := Lib.hid hG
              clear hK hd e3 e6
              have h0 := HG.out.cell (p := ⟨w4.heap.size, 0, none⟩) HBX.out
              rw [HB0.out] at h0
              have h1 := HG.out.cell (p := ⟨w4.heap.size, 1, none⟩) HBX.out
              rw [HB1.out] at h1
              have h2 := HG.out.cell (p := ⟨w4.heap.size, 2, none⟩) HBX.out
              rw [HB2.out] at h2
              clear hG
              go_simp
              exact HK.out _ _ (Below.refl _ _) HG.out rfl
            · intro vs wx hG hd K hK
              have e3 : vs 3 = .bool false := hd.get (j := 3) (by simp [depsOf, Region.binds])
              obtain ⟨A5, d5, e5, r5⟩ : ∃ A' c', vs 5 = .slice A' c2.sf.length c' ∧ So encI 1 wx W5.heap.size 3 (.slice A' c2.sf.length c') c2.sf := hd.get (j := 5) (by simp [depsOf, Region.binds])
              have e7 : vs 7 = .int .i64 c2.p := hd.get (j := 7) (by simp [depsOf, Region.binds])
              replace hK : ∀ (uu : Value) (w' : World), Below wx.heap.size wx w' → ((Below W5.heap.size W5)) w' → (HV W5.heap.size) (.v (.bool true)) uu w' → K _ w' := hK
              simp only [Act.put, List.setIfInBounds_toArray, List.set_cons_zero, List.set_cons_succ, e3, e5, e7] at hK ⊢
              have HK := Lib.hid hK
              have HG := Lib.hid hG
              clear hK hd e3 e5 e7
              clear hG
              go_simp
              go_at_call 21
              refine (rhas_any wx.heap.size A5 _ d5 c2.sf c2.p wx rfl (r5.sr encI_len).1).mono ?_
              rintro e w9 ⟨rfl, rfl⟩
              exact HK.out _ _ (Below.refl _ _) HG.out (by rw [HPS.out]; rfl)
            · intro vs wx hG hd K hK
              have e3 : vs 3 = .bool false := hd.get (j := 3) (by simp [depsOf, Region.binds])
              have e8 : vs 8 = .bool true := hd.get (j := 8) (by simp [depsOf, Region.binds])
              replace hK : ∀ (uu : Value) (w' : World), Below wx.heap.size wx w' → ((Below W5.heap.size W5)) w' → (HV W5.heap.size) (.v (.bool false)) uu w' → K _ w' := hK
              simp only [Act.put, List.setIfInBounds_toArray, List.set_cons_zero, List.set_cons_succ, e3, e8] at hK ⊢
              have HK := Lib.hid hK
              have HG := Lib.hid hG
              clear hK hd e3 e8
              clear hG
              go_simp
              exact HK.out _ _ (Below.refl _ _) HG.out rfl
            · intro vs wx hG hd K hK
              have e3 : vs 3 = .bool false := hd.get (j := 3) (by simp [depsOf, Region.binds])
              have e9 : vs 9 = .bool false := hd.get (j := 9) (by simp [depsOf, Region.binds])
              replace hK : ∀ (uu : Value) (w' : World), Below wx.heap.size wx w' → ((Below W5.heap.size W5)) w' → (HV W5.heap.size) (.v (.bool false)) uu w' → K _ w' := hK
              simp only [Act.put, List.setIfInBounds_toArray, List.set_cons_zero, List.set_cons_succ, e3, e9] at hK ⊢
              have HK := Lib.hid hK
              have HG := Lib.hid hG
              clear hK hd e3 e9
              clear hG
              go_simp
              exact HK.out _ _ (Below.refl _ _) HG.out rfl
          case hend =>
            intro vs W6 hG hv
            have e10 : vs 10 = .bool false := hv 10 (by decide)
            have HG6 := Lib.hid hG
            clear hG hv
            simp only [e10]
            go_wp2_with fail
            go_at_call 18
            refine ((HV5.out.below HG6.out).safe).mono ?_
            rintro e w7 ⟨A7, d7, rfl, so7, b7⟩
            have HV7 := Lib.hid ((HV5.out.below HG6.out).below b7)
            have HG7 := Lib.hid (HG6.out.trans (b7.mono HG6.out.size))
            have HL := Lib.hid (so7.sr encI_len).1
            have h2 := HG7.out.cell (p := ⟨w4.heap.size, 2, none⟩) HBX.out
            rw [HB2.out] at h2
            have hbx7 : w4.heap.size < w7.heap.size := Nat.lt_of_lt_of_le HBX.out HG7.out.size
            have HSM := Lib.hid (HSR.out.below HG7.out)
            have hle7 := (so7.sr encI_len).1.le
            have hmax7 := (so7.sr encI_len).1.max
            unfold maxLen at hmax7
            clear so7 b7
            go_wp2_with fail
            go_loop [80] (fun jv => ∃ j : Nat, j ≤ c2.sf.length ∧ jv = .int .i64 (j : Int)) (fun jv => c2.sf.length - (intOf jv).toNat)
            case atStart => exact ⟨0, Nat.zero_le _, rfl⟩
            case round =>
              obtain ⟨j, hj, rfl⟩ := hrel
              by_cases hjl : j < c2.sf.length
              · obtain ⟨ad7, rfl, _, hc7⟩ := HL.out.int hjl
                have HMM : Hid (hasB c2.ms c2.sf[j] = true) := Lib.hid (by unfold hasB; simpa using HVK.out.sub _ (List.getElem_mem hjl))
                generalize c2.sf[j] = x at *
                have HRH := Lib.hid (rhas_any W5.heap.size A4 _ d4 c2.ms x w7 rfl HSM.out)
                rw [HMM.out] at HRH
                go_wp2_with (go_at_call 21; refine HRH.out.mono ?_; rintro e w9 ⟨rfl, rfl⟩)
                go_round
                case rel => exact ⟨j + 1, by omega, by go_num⟩
                case measure => simp [intOf]; omega
              · go_wp2
                go_roundw
                case rel => exact ⟨i + 1, by omega, by go_num, g2, c2, HV7.out⟩
                case measure => simp [intOf]; omega
      · obtain rfl : i = os.length := by omega
        go_wp2
        go_ret
        exact ⟨rfl, HVC.out.bl⟩
end Go.Proofs.Ytcgkbpjfbahleaa
