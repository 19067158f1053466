/- Points in order: a group's samples rise. -/
import Derived.Test.YtcfbcidakddhfaaGreatDoorPr43
import Derived.Test.YtcfbcidakddhfaaGreatDoorPr44
import Derived.Test.YtcfbcidakddhfaaGreatDoorPr13
namespace Go.Proofs.YtcfbcidakddhfaaGreatDoor
open Go.RowKit Go.BigFrame

set_option maxRecDepth 100000 in
set_option maxHeartbeats 3200000 in
theorem sameA_any {w : World} {Kp : Nat} {A1 A2 B1 B2 : Option Addr} {n k c1 c2 d1 d2 : Nat} {l m : List Rz} {nl nm : List Pz} (hln : l.length = n) (hkn : nl.length = k) (hlm : m.map Prod.fst = l.map Prod.fst) (hnm : nm.map Prod.fst = nl.map Prod.fst) (h1 : Rs9 w Kp A1 c1 l) (h2 : Rs9 w Kp B1 d1 m) (h3 : Ps w Kp A2 c2 nl) (h4 : Ps w Kp B2 d2 nm) (hK : Kp ≤ w.heap.size) :
    Calls Tryz.prog 10 #[.agg #[.slice A1 n c1, .slice A2 k c2], .agg #[.slice B1 n d1, .slice B2 k d2]] w (Ok0 w) := by
  subst hln hkn
  have hml : m.length = l.length := by have := congrArg List.length hlm; rw [List.length_map, List.length_map] at this; exact this
  have hle := h1.sr.le
  have hmax := h1.sr.max
  have hle2 := h2.sr.le
  have hmax2 := h2.sr.max
  unfold maxLen at hmax hmax2
  obtain ⟨W1, hW1⟩ : ∃ W1, W1 = (w.alloc (.cells #[.slice A1 l.length c1, .slice A2 nl.length c2] 42)).alloc (.cells #[.slice B1 l.length d1, .slice B2 nl.length d2] 42) := ⟨_, rfl⟩
  have B0 : Below w.heap.size w W1 := by rw [hW1]; go_grown
  have hz : W1.heap.size = w.heap.size + 2 := by rw [hW1]; simp
  have r1 : Rwo W1 w.heap.size #[.slice A1 l.length c1, .slice A2 nl.length c2] 42 := ⟨by
    rw [hW1, Below.heap_alloc _ _ _ (by simp)]
    exact heap_alloc_new w _⟩
  have r2 : Rwo W1 (w.heap.size + 1) #[.slice B1 l.length d1, .slice B2 nl.length d2] 42 := ⟨by
    rw [hW1]
    have := heap_alloc_new (w.alloc (.cells #[.slice A1 l.length c1, .slice A2 nl.length c2] 42)) (.cells #[.slice B1 l.length d1, .slice B2 nl.length d2] 42)
    simpa using this⟩
  have H1 := Lib.hid (h1.below (B0.mono hK))
  have H2 := Lib.hid (h2.below (B0.mono hK))
  have HSP := Lib.hid (samePts_any (w := W1) (l := nl) (m := nm) (A := A2) (B := B2) (cap := c2) (cbp := d2) rfl hnm (h3.below (B0.mono hK)) (h4.below (B0.mono hK)) (by omega))
  have HLM := Lib.hid hlm
  have HR1 := Lib.hid r1
  have HR2 := Lib.hid r2
  have HB1 := Lib.hid B0
  have HWW := Lib.hid hW1
  have x0 : W1.cell? ⟨w.heap.size, 0, none⟩ = some (.slice A1 l.length c1) := r1.cell rfl
  have x1 : W1.cell? ⟨w.heap.size, 1, none⟩ = some (.slice A2 nl.length c2) := r1.cell rfl
  have x2 : W1.cell? ⟨w.heap.size + 1, 0, none⟩ = some (.slice B1 l.length d1) := r2.cell rfl
  have x3 : W1.cell? ⟨w.heap.size + 1, 1, none⟩ = some (.slice B2 nl.length d2) := r2.cell rfl
  have z1 : w.heap.size < W1.heap.size := by omega
  have z2 : w.heap.size + 1 < W1.heap.size := by omega
  have hK1 : Kp ≤ W1.heap.size := by omega
  clear h1 h2 h3 h4 hlm hnm r1 r2 B0 hW1 hz
  go_enter Tryz.func10, Tryz.ntmps10
  go_upto_region 1 with fail
  rw [← HWW.out]
  clear HWW
  go_wp2_with fail
  refine HSP.out.mono ?_
  rintro e w2 ⟨rfl, b2⟩
  have HB2 := Lib.hid b2
  clear b2 x0 x1 x2 x3
  have z3 : W1.heap.size ≤ w2.heap.size := HB2.out.size
  go_wp2_with fail
  go_loopw [5] (fun iv wr => ∃ i : Nat, iv = .int .i64 (i : Int) ∧ i ≤ l.length ∧ Below W1.heap.size W1 wr) (fun iv _ => l.length - (intOf iv).toNat)
  case atStart => exact ⟨0, rfl, Nat.zero_le _, HB2.out⟩
  case round =>
    obtain ⟨i, rfl, hi, hbl⟩ := hrel
    rename World => W0
    have x0 : W0.cell? ⟨w.heap.size, 0, none⟩ = some (.slice A1 l.length c1) := (HR1.out.below hbl).cell rfl
    have x1 : W0.cell? ⟨w.heap.size + 1, 0, none⟩ = some (.slice B1 l.length d1) := (HR2.out.below hbl).cell rfl
    have zz := hbl.size
    by_cases hlt : i < l.length
    · obtain ⟨ad, hA, _, g0, g1⟩ := rs_cells (H1.out.sr.below (hbl.mono hK1)) hlt
      obtain ⟨ae, hB, _, k0, k1⟩ := rs_cells (H2.out.sr.below (hbl.mono hK1)) (i := i) (by omega)
      have hs1 := (H1.out.st l[i] (List.getElem_mem hlt)).below (hbl.mono hK1)
      have hs2 := (H2.out.st (m[i]'(by omega)) (List.getElem_mem (by omega))).below (hbl.mono hK1)
      have hc1 := (H1.out.ce l[i] (List.getElem_mem hlt)).below (hbl.mono hK1)
      have hc2 := (H2.out.ce (m[i]'(by omega)) (List.getElem_mem (by omega))).below (hbl.mono hK1)
      have hxy : (m[i]'(by omega)).1 = l[i].1 := by
        have h9 : (m.map Prod.fst)[i]? = (l.map Prod.fst)[i]? := by rw [HLM.out]
        rw [List.getElem?_map, List.getElem?_map, List.getElem?_eq_getElem hlt, List.getElem?_eq_getElem (show i < m.length by omega)] at h9
        simpa using h9
      generalize l[i] = x at *
      generalize (m[i]'(by omega)) = y at *
      subst hA hB
      obtain ⟨p0, ⟨a1, u1⟩, e1, f1⟩ := x
      obtain ⟨p, ⟨a2, u2⟩, e2, f2⟩ := y
      simp only at hxy
      subst hxy
      simp only at g0 g1 k0 k1 hs1 hs2 hc1 hc2
      have HS1 := Lib.hid hs1
      have HS2 := Lib.hid hs2
      have HE1 := Lib.hid hc1
      have HE2 := Lib.hid hc2
      have HB0 := Lib.hid hbl
      have hKw : Hid (Kp ≤ W0.heap.size) := Lib.hid (Nat.le_trans hK1 hbl.size)
      have hi2 : (i : Int) < l.length := by omega
      clear hs1 hs2 hc1 hc2 hbl
      go_upto_region 6 with fail
      apply region_V (fun (pv : Value) u (_ : World) => u = pv) (fun wx => Below W0.heap.size W0 wx) [(.pointer (some ⟨w.heap.size, 0, none⟩)), (.slice (some ad) l.length c1), (.int .i64 (i : Nat)), (.pointer (some (ad.add (i * 2)))), (.pointer (some (ad.add (i * 2)))), (.slice a1 p.1.length u1), (.pointer (some ⟨(w.heap.size + 1), 0, none⟩)), (.slice (some ae) l.length d1), (.int .i64 (i : Nat)), (.pointer (some (ae.add (i * 2)))), (.pointer (some (ae.add (i * 2)))), (.slice a2 p.1.length u2), (.bool true), (.bool false), (.bool false), (.pointer (some ⟨w.heap.size, 0, none⟩)), (.slice (some ad) l.length c1), (.int .i64 (i : Nat)), (.pointer (some (ad.add (i * 2)))), (.pointer (some ⟨(ad.add (i * 2)).block, (ad.add (i * 2)).off + 1, none⟩)), (.slice e1 p.2.length f1), (.pointer (some ⟨(w.heap.size + 1), 0, none⟩)), (.slice (some ae) l.length d1), (.int .i64 (i : Nat)), (.pointer (some (ae.add (i * 2)))), (.pointer (some ⟨(ae.add (i * 2)).block, (ae.add (i * 2)).off + 1, none⟩)), (.slice e2 p.2.length f2), (.bool true), (.bool false), (.bool false)] (undef)
      case mono => exact fun p v w0 w1 h hb => h
      case hm => kernel_rfl
      case hf => kernel_rfl
      case hQ => exact (by intro c x y w e h; exact And.intro (e.symm.trans (And.left h)) (And.right h))
      case hF => intro vs; simp only [putAll, Act.put, List.setIfInBounds_toArray, List.set_cons_zero, List.set_cons_succ, Nat.reduceAdd]; rfl
      case h0 => exact ⟨rfl, rfl, rfl, Nat.le_refl _, fun _ _ => rfl⟩
      case hstep =>
        repeat' (first | exact AllOps.nil | apply AllOps.cons)
        · intro vs wx hG hd K hK
          replace hK : ∀ (uu : Value) (w' : World), Below wx.heap.size wx w' → ((fun wx => Below W0.heap.size W0 wx)) w' → (fun (pv : Value) u (_ : World) => u = pv) ((.pointer (some ⟨w.heap.size, 0, none⟩))) uu w' → K _ w' := hK
          simp only [Act.put, List.setIfInBounds_toArray, List.set_cons_zero, List.set_cons_succ] at hK ⊢
          have HK := Lib.hid hK
          have HG := Lib.hid hG
          clear hK hd
          clear hG
          go_simp
          exact HK.out _ _ (Below.refl _ _) HG.out rfl
        · intro vs wx hG hd K hK
          have e0 : vs 0 = .pointer (some ⟨w.heap.size, 0, none⟩) := hd.get (j := 0) (by simp [depsOf, Region.binds])
          replace hK : ∀ (uu : Value) (w' : World), Below wx.heap.size wx w' → ((fun wx => Below W0.heap.size W0 wx)) w' → (fun (pv : Value) u (_ : World) => u = pv) ((.slice (some ad) l.length c1)) uu w' → K _ w' := hK
          simp only [Act.put, List.setIfInBounds_toArray, List.set_cons_zero, List.set_cons_succ, e0] at hK ⊢
          have HK := Lib.hid hK
          have HG := Lib.hid hG
          clear hK hd e0
          have hb1 := HG.out
          have yg0 := kept hb1 g0
          have yg1 := kept hb1 g1
          have yk0 := kept hb1 k0
          have yk1 := kept hb1 k1
          have yx0 := kept hb1 x0
          have yx1 := kept hb1 x1
          have yz := hb1.size
          clear hb1 hG
          go_simp
          exact HK.out _ _ (Below.refl _ _) HG.out rfl
        · intro vs wx hG hd K hK
          replace hK : ∀ (uu : Value) (w' : World), Below wx.heap.size wx w' → ((fun wx => Below W0.heap.size W0 wx)) w' → (fun (pv : Value) u (_ : World) => u = pv) ((.int .i64 (i : Nat))) uu w' → K _ w' := hK
          simp only [Act.put, List.setIfInBounds_toArray, List.set_cons_zero, List.set_cons_succ] at hK ⊢
          have HK := Lib.hid hK
          have HG := Lib.hid hG
          clear hK hd
          clear hG
          go_simp
          exact HK.out _ _ (Below.refl _ _) HG.out rfl
        · intro vs wx hG hd K hK
          have e1 : vs 1 = .slice (some ad) l.length c1 := hd.get (j := 1) (by simp [depsOf, Region.binds])
          have e2 : vs 2 = .int .i64 (i : Nat) := hd.get (j := 2) (by simp [depsOf, Region.binds])
          replace hK : ∀ (uu : Value) (w' : World), Below wx.heap.size wx w' → ((fun wx => Below W0.heap.size W0 wx)) w' → (fun (pv : Value) u (_ : World) => u = pv) ((.pointer (some (ad.add (i * 2))))) uu w' → K _ w' := hK
          simp only [Act.put, List.setIfInBounds_toArray, List.set_cons_zero, List.set_cons_succ, e1, e2] at hK ⊢
          have HK := Lib.hid hK
          have HG := Lib.hid hG
          clear hK hd e1 e2
          clear hG
          go_simp
          exact HK.out _ _ (Below.refl _ _) HG.out rfl
        · intro vs wx hG hd K hK
          have e3 : vs 3 = .pointer (some (ad.add (i * 2))) := hd.get (j := 3) (by simp [depsOf, Region.binds])
          replace hK : ∀ (uu : Value) (w' : World), Below wx.heap.size wx w' → ((fun wx => Below W0.heap.size W0 wx)) w' → (fun (pv : Value) u (_ : World) => u = pv) ((.pointer (some (ad.add (i * 2))))) uu w' → K _ w' := hK
          simp only [Act.put, List.setIfInBounds_toArray, List.set_cons_zero, List.set_cons_succ, e3] at hK ⊢
          have HK := Lib.hid hK
          have HG := Lib.hid hG
          clear hK hd e3
          clear hG
          go_simp
          exact HK.out _ _ (Below.refl _ _) HG.out rfl
        · intro vs wx hG hd K hK
          have e4 : vs 4 = .pointer (some (ad.add (i * 2))) := hd.get (j := 4) (by simp [depsOf, Region.binds])
          replace hK : ∀ (uu : Value) (w' : World), Below wx.heap.size wx w' → ((fun wx => Below W0.heap.size W0 wx)) w' → (fun (pv : Value) u (_ : World) => u = pv) ((.slice a1 p.1.length u1)) uu w' → K _ w' := hK
          simp only [Act.put, List.setIfInBounds_toArray, List.set_cons_zero, List.set_cons_succ, e4] at hK ⊢
          have HK := Lib.hid hK
          have HG := Lib.hid hG
          clear hK hd e4
          have hb1 := HG.out
          have yg0 := kept hb1 g0
          have yg1 := kept hb1 g1
          have yk0 := kept hb1 k0
          have yk1 := kept hb1 k1
          have yx0 := kept hb1 x0
          have yx1 := kept hb1 x1
          have yz := hb1.size
          clear hb1 hG
          go_simp
          exact HK.out _ _ (Below.refl _ _) HG.out rfl
        · intro vs wx hG hd K hK
          replace hK : ∀ (uu : Value) (w' : World), Below wx.heap.size wx w' → ((fun wx => Below W0.heap.size W0 wx)) w' → (fun (pv : Value) u (_ : World) => u = pv) ((.pointer (some ⟨(w.heap.size + 1), 0, none⟩))) uu w' → K _ w' := hK
          simp only [Act.put, List.setIfInBounds_toArray, List.set_cons_zero, List.set_cons_succ] at hK ⊢
          have HK := Lib.hid hK
          have HG := Lib.hid hG
          clear hK hd
          clear hG
          go_simp
          exact HK.out _ _ (Below.refl _ _) HG.out rfl
        · intro vs wx hG hd K hK
          have e6 : vs 6 = .pointer (some ⟨(w.heap.size + 1), 0, none⟩) := hd.get (j := 6) (by simp [depsOf, Region.binds])
          replace hK : ∀ (uu : Value) (w' : World), Below wx.heap.size wx w' → ((fun wx => Below W0.heap.size W0 wx)) w' → (fun (pv : Value) u (_ : World) => u = pv) ((.slice (some ae) l.length d1)) uu w' → K _ w' := hK
          simp only [Act.put, List.setIfInBounds_toArray, List.set_cons_zero, List.set_cons_succ, e6] at hK ⊢
          have HK := Lib.hid hK
          have HG := Lib.hid hG
          clear hK hd e6
          have hb1 := HG.out
          have yg0 := kept hb1 g0
          have yg1 := kept hb1 g1
          have yk0 := kept hb1 k0
          have yk1 := kept hb1 k1
          have yx0 := kept hb1 x0
          have yx1 := kept hb1 x1
          have yz := hb1.size
          clear hb1 hG
          go_simp
          exact HK.out _ _ (Below.refl _ _) HG.out rfl
        · intro vs wx hG hd K hK
          replace hK : ∀ (uu : Value) (w' : World), Below wx.heap.size wx w' → ((fun wx => Below W0.heap.size W0 wx)) w' → (fun (pv : Value) u (_ : World) => u = pv) ((.int .i64 (i : Nat))) uu w' → K _ w' := hK
          simp only [Act.put, List.setIfInBounds_toArray, List.set_cons_zero, List.set_cons_succ] at hK ⊢
          have HK := Lib.hid hK
          have HG := Lib.hid hG
          clear hK hd
          clear hG
          go_simp
          exact HK.out _ _ (Below.refl _ _) HG.out rfl
        · intro vs wx hG hd K hK
          have e7 : vs 7 = .slice (some ae) l.length d1 := hd.get (j := 7) (by simp [depsOf, Region.binds])
          have e8 : vs 8 = .int .i64 (i : Nat) := hd.get (j := 8) (by simp [depsOf, Region.binds])
          replace hK : ∀ (uu : Value) (w' : World), Below wx.heap.size wx w' → ((fun wx => Below W0.heap.size W0 wx)) w' → (fun (pv : Value) u (_ : World) => u = pv) ((.pointer (some (ae.add (i * 2))))) uu w' → K _ w' := hK
          simp only [Act.put, List.setIfInBounds_toArray, List.set_cons_zero, List.set_cons_succ, e7, e8] at hK ⊢
          have HK := Lib.hid hK
          have HG := Lib.hid hG
          clear hK hd e7 e8
          clear hG
          go_simp
          exact HK.out _ _ (Below.refl _ _) HG.out rfl
        · intro vs wx hG hd K hK
          have e9 : vs 9 = .pointer (some (ae.add (i * 2))) := hd.get (j := 9) (by simp [depsOf, Region.binds])
          replace hK : ∀ (uu : Value) (w' : World), Below wx.heap.size wx w' → ((fun wx => Below W0.heap.size W0 wx)) w' → (fun (pv : Value) u (_ : World) => u = pv) ((.pointer (some (ae.add (i * 2))))) uu w' → K _ w' := hK
          simp only [Act.put, List.setIfInBounds_toArray, List.set_cons_zero, List.set_cons_succ, e9] at hK ⊢
          have HK := Lib.hid hK
          have HG := Lib.hid hG
          clear hK hd e9
          clear hG
          go_simp
          exact HK.out _ _ (Below.refl _ _) HG.out rfl
        · intro vs wx hG hd K hK
          have e10 : vs 10 = .pointer (some (ae.add (i * 2))) := hd.get (j := 10) (by simp [depsOf, Region.binds])
          replace hK : ∀ (uu : Value) (w' : World), Below wx.heap.size wx w' → ((fun wx => Below W0.heap.size W0 wx)) w' → (fun (pv : Value) u (_ : World) => u = pv) ((.slice a2 p.1.length u2)) uu w' → K _ w' := hK
          simp only [Act.put, List.setIfInBounds_toArray, List.set_cons_zero, List.set_cons_succ, e10] at hK ⊢
          have HK := Lib.hid hK
          have HG := Lib.hid hG
          clear hK hd e10
          have hb1 := HG.out
          have yg0 := kept hb1 g0
          have yg1 := kept hb1 g1
          have yk0 := kept hb1 k0
          have yk1 := kept hb1 k1
          have yx0 := kept hb1 x0
          have yx1 := kept hb1 x1
          have yz := hb1.size
          clear hb1 hG
          go_simp
          exact HK.out _ _ (Below.refl _ _) HG.out rfl
        · intro vs wx hG hd K hK
          have e5 : vs 5 = .slice a1 p.1.length u1 := hd.get (j := 5) (by simp [depsOf, Region.binds])
          have e11 : vs 11 = .slice a2 p.1.length u2 := hd.get (j := 11) (by simp [depsOf, Region.binds])
          replace hK : ∀ (uu : Value) (w' : World), Below wx.heap.size wx w' → ((fun wx => Below W0.heap.size W0 wx)) w' → (fun (pv : Value) u (_ : World) => u = pv) ((.bool true)) uu w' → K _ w' := hK
          simp only [Act.put, List.setIfInBounds_toArray, List.set_cons_zero, List.set_cons_succ, e5, e11] at hK ⊢
          have HK := Lib.hid hK
          have HG := Lib.hid hG
          clear hK hd e5 e11
          have hb1 := HG.out
          clear hG
          go_simp
          go_at_call 23
          refine (rSame_any Kp a1 a2 p.1.length p.1.length u1 u2 p.1 p.1 wx rfl rfl (HS1.out.below (hb1.mono hKw.out)) (HS2.out.below (hb1.mono hKw.out)) (Nat.le_trans hKw.out hb1.size)).mono ?_
          rintro en w9 ⟨rfl, hb⟩
          rw [cmpL_self]
          exact HK.out _ _ hb (HG.out.trans (hb.mono hb1.size)) rfl
        · intro vs wx hG hd K hK
          have e12 : vs 12 = .bool true := hd.get (j := 12) (by simp [depsOf, Region.binds])
          replace hK : ∀ (uu : Value) (w' : World), Below wx.heap.size wx w' → ((fun wx => Below W0.heap.size W0 wx)) w' → (fun (pv : Value) u (_ : World) => u = pv) ((.bool false)) uu w' → K _ w' := hK
          simp only [Act.put, List.setIfInBounds_toArray, List.set_cons_zero, List.set_cons_succ, e12] at hK ⊢
          have HK := Lib.hid hK
          have HG := Lib.hid hG
          clear hK hd e12
          clear hG
          go_simp
          exact HK.out _ _ (Below.refl _ _) HG.out rfl
        · intro vs wx hG hd K hK
          have e13 : vs 13 = .bool false := hd.get (j := 13) (by simp [depsOf, Region.binds])
          replace hK : ∀ (uu : Value) (w' : World), Below wx.heap.size wx w' → ((fun wx => Below W0.heap.size W0 wx)) w' → (fun (pv : Value) u (_ : World) => u = pv) ((.bool false)) uu w' → K _ w' := hK
          simp only [Act.put, List.setIfInBounds_toArray, List.set_cons_zero, List.set_cons_succ, e13] at hK ⊢
          have HK := Lib.hid hK
          have HG := Lib.hid hG
          clear hK hd e13
          clear hG
          go_simp
          exact HK.out _ _ (Below.refl _ _) HG.out rfl
        · intro vs wx hG hd K hK
          have e14 : vs 14 = .bool false := hd.get (j := 14) (by simp [depsOf, Region.binds])
          replace hK : ∀ (uu : Value) (w' : World), Below wx.heap.size wx w' → ((fun wx => Below W0.heap.size W0 wx)) w' → (fun (pv : Value) u (_ : World) => u = pv) ((.pointer (some ⟨w.heap.size, 0, none⟩))) uu w' → K _ w' := hK
          simp only [Act.put, List.setIfInBounds_toArray, List.set_cons_zero, List.set_cons_succ, e14] at hK ⊢
          have HK := Lib.hid hK
          have HG := Lib.hid hG
          clear hK hd e14
          clear hG
          go_simp
          exact HK.out _ _ (Below.refl _ _) HG.out rfl
        · intro vs wx hG hd K hK
          have e15 : vs 15 = .pointer (some ⟨w.heap.size, 0, none⟩) := hd.get (j := 15) (by simp [depsOf, Region.binds])
          have e14 : vs 14 = .bool false := hd.get (j := 14) (by simp [depsOf, Region.binds])
          replace hK : ∀ (uu : Value) (w' : World), Below wx.heap.size wx w' → ((fun wx => Below W0.heap.size W0 wx)) w' → (fun (pv : Value) u (_ : World) => u = pv) ((.slice (some ad) l.length c1)) uu w' → K _ w' := hK
          simp only [Act.put, List.setIfInBounds_toArray, List.set_cons_zero, List.set_cons_succ, e15, e14] at hK ⊢
          have HK := Lib.hid hK
          have HG := Lib.hid hG
          clear hK hd e15 e14
          have hb1 := HG.out
          have yg0 := kept hb1 g0
          have yg1 := kept hb1 g1
          have yk0 := kept hb1 k0
          have yk1 := kept hb1 k1
          have yx0 := kept hb1 x0
          have yx1 := kept hb1 x1
          have yz := hb1.size
          clear hb1 hG
          go_simp
          exact HK.out _ _ (Below.refl _ _) HG.out rfl
        · intro vs wx hG hd K hK
          have e14 : vs 14 = .bool false := hd.get (j := 14) (by simp [depsOf, Region.binds])
          replace hK : ∀ (uu : Value) (w' : World), Below wx.heap.size wx w' → ((fun wx => Below W0.heap.size W0 wx)) w' → (fun (pv : Value) u (_ : World) => u = pv) ((.int .i64 (i : Nat))) uu w' → K _ w' := hK
          simp only [Act.put, List.setIfInBounds_toArray, List.set_cons_zero, List.set_cons_succ, e14] at hK ⊢
          have HK := Lib.hid hK
          have HG := Lib.hid hG
          clear hK hd e14
          clear hG
          go_simp
          exact HK.out _ _ (Below.refl _ _) HG.out rfl
        · intro vs wx hG hd K hK
          have e16 : vs 16 = .slice (some ad) l.length c1 := hd.get (j := 16) (by simp [depsOf, Region.binds])
          have e17 : vs 17 = .int .i64 (i : Nat) := hd.get (j := 17) (by simp [depsOf, Region.binds])
          have e14 : vs 14 = .bool false := hd.get (j := 14) (by simp [depsOf, Region.binds])
          replace hK : ∀ (uu : Value) (w' : World), Below wx.heap.size wx w' → ((fun wx => Below W0.heap.size W0 wx)) w' → (fun (pv : Value) u (_ : World) => u = pv) ((.pointer (some (ad.add (i * 2))))) uu w' → K _ w' := hK
          simp only [Act.put, List.setIfInBounds_toArray, List.set_cons_zero, List.set_cons_succ, e16, e17, e14] at hK ⊢
          have HK := Lib.hid hK
          have HG := Lib.hid hG
          clear hK hd e16 e17 e14
          clear hG
          go_simp
          exact HK.out _ _ (Below.refl _ _) HG.out rfl
        · intro vs wx hG hd K hK
          have e18 : vs 18 = .pointer (some (ad.add (i * 2))) := hd.get (j := 18) (by simp [depsOf, Region.binds])
          have e14 : vs 14 = .bool false := hd.get (j := 14) (by simp [depsOf, Region.binds])
          replace hK : ∀ (uu : Value) (w' : World), Below wx.heap.size wx w' → ((fun wx => Below W0.heap.size W0 wx)) w' → (fun (pv : Value) u (_ : World) => u = pv) ((.pointer (some ⟨(ad.add (i * 2)).block, (ad.add (i * 2)).off + 1, none⟩))) uu w' → K _ w' := hK
          simp only [Act.put, List.setIfInBounds_toArray, List.set_cons_zero, List.set_cons_succ, e18, e14] at hK ⊢
          have HK := Lib.hid hK
          have HG := Lib.hid hG
          clear hK hd e18 e14
          clear hG
          go_simp
          exact HK.out _ _ (Below.refl _ _) HG.out rfl
        · intro vs wx hG hd K hK
          have e19 : vs 19 = .pointer (some ⟨(ad.add (i * 2)).block, (ad.add (i * 2)).off + 1, none⟩) := hd.get (j := 19) (by simp [depsOf, Region.binds])
          have e14 : vs 14 = .bool false := hd.get (j := 14) (by simp [depsOf, Region.binds])
          replace hK : ∀ (uu : Value) (w' : World), Below wx.heap.size wx w' → ((fun wx => Below W0.heap.size W0 wx)) w' → (fun (pv : Value) u (_ : World) => u = pv) ((.slice e1 p.2.length f1)) uu w' → K _ w' := hK
          simp only [Act.put, List.setIfInBounds_toArray, List.set_cons_zero, List.set_cons_succ, e19, e14] at hK ⊢
          have HK := Lib.hid hK
          have HG := Lib.hid hG
          clear hK hd e19 e14
          have hb1 := HG.out
          have yg0 := kept hb1 g0
          have yg1 := kept hb1 g1
          have yk0 := kept hb1 k0
          have yk1 := kept hb1 k1
          have yx0 := kept hb1 x0
          have yx1 := kept hb1 x1
          have yz := hb1.size
          clear hb1 hG
          go_simp
          exact HK.out _ _ (Below.refl _ _) HG.out rfl
        · intro vs wx hG hd K hK
          have e14 : vs 14 = .bool false := hd.get (j := 14) (by simp [depsOf, Region.binds])
          replace hK : ∀ (uu : Value) (w' : World), Below wx.heap.size wx w' → ((fun wx => Below W0.heap.size W0 wx)) w' → (fun (pv : Value) u (_ : World) => u = pv) ((.pointer (some ⟨(w.heap.size + 1), 0, none⟩))) uu w' → K _ w' := hK
          simp only [Act.put, List.setIfInBounds_toArray, List.set_cons_zero, List.set_cons_succ, e14] at hK ⊢
          have HK := Lib.hid hK
          have HG := Lib.hid hG
          clear hK hd e14
          clear hG
          go_simp
          exact HK.out _ _ (Below.refl _ _) HG.out rfl
        · intro vs wx hG hd K hK
          have e21 : vs 21 = .pointer (some ⟨(w.heap.size + 1), 0, none⟩) := hd.get (j := 21) (by simp [depsOf, Region.binds])
          have e14 : vs 14 = .bool false := hd.get (j := 14) (by simp [depsOf, Region.binds])
          replace hK : ∀ (uu : Value) (w' : World), Below wx.heap.size wx w' → ((fun wx => Below W0.heap.size W0 wx)) w' → (fun (pv : Value) u (_ : World) => u = pv) ((.slice (some ae) l.length d1)) uu w' → K _ w' := hK
          simp only [Act.put, List.setIfInBounds_toArray, List.set_cons_zero, List.set_cons_succ, e21, e14] at hK ⊢
          have HK := Lib.hid hK
          have HG := Lib.hid hG
          clear hK hd e21 e14
          have hb1 := HG.out
          have yg0 := kept hb1 g0
          have yg1 := kept hb1 g1
          have yk0 := kept hb1 k0
          have yk1 := kept hb1 k1
          have yx0 := kept hb1 x0
          have yx1 := kept hb1 x1
          have yz := hb1.size
          clear hb1 hG
          go_simp
          exact HK.out _ _ (Below.refl _ _) HG.out rfl
        · intro vs wx hG hd K hK
          have e14 : vs 14 = .bool false := hd.get (j := 14) (by simp [depsOf, Region.binds])
          replace hK : ∀ (uu : Value) (w' : World), Below wx.heap.size wx w' → ((fun wx => Below W0.heap.size W0 wx)) w' → (fun (pv : Value) u (_ : World) => u = pv) ((.int .i64 (i : Nat))) uu w' → K _ w' := hK
          simp only [Act.put, List.setIfInBounds_toArray, List.set_cons_zero, List.set_cons_succ, e14] at hK ⊢
          have HK := Lib.hid hK
          have HG := Lib.hid hG
          clear hK hd e14
          clear hG
          go_simp
          exact HK.out _ _ (Below.refl _ _) HG.out rfl
        · intro vs wx hG hd K hK
          have e22 : vs 22 = .slice (some ae) l.length d1 := hd.get (j := 22) (by simp [depsOf, Region.binds])
          have e23 : vs 23 = .int .i64 (i : Nat) := hd.get (j := 23) (by simp [depsOf, Region.binds])
          have e14 : vs 14 = .bool false := hd.get (j := 14) (by simp [depsOf, Region.binds])
          replace hK : ∀ (uu : Value) (w' : World), Below wx.heap.size wx w' → ((fun wx => Below W0.heap.size W0 wx)) w' → (fun (pv : Value) u (_ : World) => u = pv) ((.pointer (some (ae.add (i * 2))))) uu w' → K _ w' := hK
          simp only [Act.put, List.setIfInBounds_toArray, List.set_cons_zero, List.set_cons_succ, e22, e23, e14] at hK ⊢
          have HK := Lib.hid hK
          have HG := Lib.hid hG
          clear hK hd e22 e23 e14
          clear hG
          go_simp
          exact HK.out _ _ (Below.refl _ _) HG.out rfl
        · intro vs wx hG hd K hK
          have e24 : vs 24 = .pointer (some (ae.add (i * 2))) := hd.get (j := 24) (by simp [depsOf, Region.binds])
          have e14 : vs 14 = .bool false := hd.get (j := 14) (by simp [depsOf, Region.binds])
          replace hK : ∀ (uu : Value) (w' : World), Below wx.heap.size wx w' → ((fun wx => Below W0.heap.size W0 wx)) w' → (fun (pv : Value) u (_ : World) => u = pv) ((.pointer (some ⟨(ae.add (i * 2)).block, (ae.add (i * 2)).off + 1, none⟩))) uu w' → K _ w' := hK
          simp only [Act.put, List.setIfInBounds_toArray, List.set_cons_zero, List.set_cons_succ, e24, e14] at hK ⊢
          have HK := Lib.hid hK
          have HG := Lib.hid hG
          clear hK hd e24 e14
          clear hG
          go_simp
          exact HK.out _ _ (Below.refl _ _) HG.out rfl
        · intro vs wx hG hd K hK
          have e25 : vs 25 = .pointer (some ⟨(ae.add (i * 2)).block, (ae.add (i * 2)).off + 1, none⟩) := hd.get (j := 25) (by simp [depsOf, Region.binds])
          have e14 : vs 14 = .bool false := hd.get (j := 14) (by simp [depsOf, Region.binds])
          replace hK : ∀ (uu : Value) (w' : World), Below wx.heap.size wx w' → ((fun wx => Below W0.heap.size W0 wx)) w' → (fun (pv : Value) u (_ : World) => u = pv) ((.slice e2 p.2.length f2)) uu w' → K _ w' := hK
          simp only [Act.put, List.setIfInBounds_toArray, List.set_cons_zero, List.set_cons_succ, e25, e14] at hK ⊢
          have HK := Lib.hid hK
          have HG := Lib.hid hG
          clear hK hd e25 e14
          have hb1 := HG.out
          have yg0 := kept hb1 g0
          have yg1 := kept hb1 g1
          have yk0 := kept hb1 k0
          have yk1 := kept hb1 k1
          have yx0 := kept hb1 x0
          have yx1 := kept hb1 x1
          have yz := hb1.size
          clear hb1 hG
          go_simp
          exact HK.out _ _ (Below.refl _ _) HG.out rfl
        · intro vs wx hG hd K hK
          have e20 : vs 20 = .slice e1 p.2.length f1 := hd.get (j := 20) (by simp [depsOf, Region.binds])
          have e26 : vs 26 = .slice e2 p.2.length f2 := hd.get (j := 26) (by simp [depsOf, Region.binds])
          have e14 : vs 14 = .bool false := hd.get (j := 14) (by simp [depsOf, Region.binds])
          replace hK : ∀ (uu : Value) (w' : World), Below wx.heap.size wx w' → ((fun wx => Below W0.heap.size W0 wx)) w' → (fun (pv : Value) u (_ : World) => u = pv) ((.bool true)) uu w' → K _ w' := hK
          simp only [Act.put, List.setIfInBounds_toArray, List.set_cons_zero, List.set_cons_succ, e20, e26, e14] at hK ⊢
          have HK := Lib.hid hK
          have HG := Lib.hid hG
          clear hK hd e20 e26 e14
          have hb1 := HG.out
          clear hG
          go_simp
          go_at_call 26
          refine (same_any (w := wx) (K := Kp) (l := p.2) rfl (HE1.out.below (hb1.mono hKw.out)) (HE2.out.below (hb1.mono hKw.out)) (Nat.le_trans hKw.out hb1.size)).mono ?_
          rintro en w9 ⟨rfl, hb⟩
          exact HK.out _ _ hb (HG.out.trans (hb.mono hb1.size)) rfl
        · intro vs wx hG hd K hK
          have e27 : vs 27 = .bool true := hd.get (j := 27) (by simp [depsOf, Region.binds])
          have e14 : vs 14 = .bool false := hd.get (j := 14) (by simp [depsOf, Region.binds])
          replace hK : ∀ (uu : Value) (w' : World), Below wx.heap.size wx w' → ((fun wx => Below W0.heap.size W0 wx)) w' → (fun (pv : Value) u (_ : World) => u = pv) ((.bool false)) uu w' → K _ w' := hK
          simp only [Act.put, List.setIfInBounds_toArray, List.set_cons_zero, List.set_cons_succ, e27, e14] at hK ⊢
          have HK := Lib.hid hK
          have HG := Lib.hid hG
          clear hK hd e27 e14
          clear hG
          go_simp
          exact HK.out _ _ (Below.refl _ _) HG.out rfl
        · intro vs wx hG hd K hK
          have e14 : vs 14 = .bool false := hd.get (j := 14) (by simp [depsOf, Region.binds])
          have e28 : vs 28 = .bool false := hd.get (j := 28) (by simp [depsOf, Region.binds])
          replace hK : ∀ (uu : Value) (w' : World), Below wx.heap.size wx w' → ((fun wx => Below W0.heap.size W0 wx)) w' → (fun (pv : Value) u (_ : World) => u = pv) ((.bool false)) uu w' → K _ w' := hK
          simp only [Act.put, List.setIfInBounds_toArray, List.set_cons_zero, List.set_cons_succ, e14, e28] at hK ⊢
          have HK := Lib.hid hK
          have HG := Lib.hid hG
          clear hK hd e14 e28
          clear hG
          go_simp
          exact HK.out _ _ (Below.refl _ _) HG.out rfl
      case hend =>
        intro vs wx hG hv
        have e29 : vs 29 = .bool false := hv 29 (by decide)
        have HB := Lib.hid (HB0.out.trans (hG.mono HB0.out.size))
        clear hv hG
        simp only [e29]
        go_wp2_with fail
        go_roundw
        case rel => exact ⟨i + 1, by go_num, by omega, HB.out⟩
        case measure => simp [intOf]; omega
    · obtain rfl : i = l.length := by omega
      go_wp2
      go_ret
      exact ⟨rfl, HB1.out.trans (hbl.mono (by omega))⟩
end Go.Proofs.YtcfbcidakddhfaaGreatDoor
namespace Go.Proofs.YtcfbcidakddhfaaGreatDoor

/-- Of one set, times rise from place to place. -/
theorem order_rise {l : List Pt} (h : orderB l = true) {j : Nat} (h1 : j + 1 < l.length) (hs : cmpL (l.getD j default).set (l.getD (j + 1) default).set = 0) : (l.getD j default).t < (l.getD (j + 1) default).t := by
  have hb : badO l (j + 1) = false := by
    cases hb : badO l (j + 1) with
    | false => rfl
    | true => rw [order_no (by omega) h1 hb] at h; cases h
  unfold badO at hb
  rw [show j + 1 - 1 = j by omega, hs] at hb
  simp at hb
  simpa using hb
theorem pw_of_steps {α : Type} {R : α → α → Prop} (ht : ∀ a b c, R a b → R b c → R a c) : ∀ {l : List α}, (∀ j (h : j + 1 < l.length), R (l[j]'(by omega)) l[j + 1]) → l.Pairwise R
  | [], _ => List.Pairwise.nil
  | [x], _ => List.pairwise_singleton _ _
  | x :: y :: r, h => by
    have h0 : R x y := h 0 (by simp)
    have ih : (y :: r).Pairwise R := pw_of_steps ht fun j hj => by
      have := h (j + 1) (by simp at hj ⊢; omega)
      simpa using this
    refine List.pairwise_cons.2 ⟨fun z hz => ?_, ih⟩
    rcases List.mem_cons.1 hz with rfl | hz
    · exact h0
    · exact ht _ _ _ h0 ((List.pairwise_cons.1 ih).1 z hz)
theorem group_srt (q : Qr) {l : List Pt} (h : orderB l = true) {i : Nat} (hi : i < l.length) : Srt (smpsQ q ((l.drop i).take (firstN (l.drop i)))) := by
  have hle := firstN_le (l.drop i)
  rw [List.length_drop] at hle
  have hp : ((l.drop i).take (firstN (l.drop i))).Pairwise fun x y => x.t < y.t := by
    refine pw_of_steps (R := fun x y : Pt => x.t < y.t) (fun a b c h1 h2 => Int.lt_trans h1 h2) fun j hj => ?_
    rw [List.length_take, List.length_drop] at hj
    have e1 : ((l.drop i).take (firstN (l.drop i)))[j]'(by rw [List.length_take, List.length_drop]; omega) = l.getD (i + j) default := by
      rw [List.getElem_take, List.getElem_drop, List.getD_eq_getElem?_getD, List.getElem?_eq_getElem (by omega)]
      rfl
    have e2 : ((l.drop i).take (firstN (l.drop i)))[j + 1]'(by rw [List.length_take, List.length_drop]; omega) = l.getD (i + j + 1) default := by
      rw [List.getElem_take, List.getElem_drop, List.getD_eq_getElem?_getD, List.getElem?_eq_getElem (by omega)]
      rfl
    rw [e1, e2]
    refine order_rise h (by omega) ?_
    have s1 := firstN_in (l := l.drop i) (j := j) (by omega) (by rw [List.length_drop]; omega)
    have s2 := firstN_in (l := l.drop i) (j := j + 1) (by omega) (by rw [List.length_drop]; omega)
    rw [List.getElem_drop] at s1 s2
    rw [List.getD_eq_getElem?_getD, List.getElem?_eq_getElem (show i + j < l.length by omega), List.getD_eq_getElem?_getD, List.getElem?_eq_getElem (show i + j + 1 < l.length by omega), Option.getD_some, Option.getD_some, s1]
    have e3 : l[i + j + 1]'(by omega) = l[i + (j + 1)]'(by omega) := rfl
    rw [e3, s2]
    exact cmpL_self _
  unfold Srt smpsQ
  rw [List.pairwise_map]
  exact (hp.filter _).imp fun h => Int.le_of_lt h
end Go.Proofs.YtcfbcidakddhfaaGreatDoor
