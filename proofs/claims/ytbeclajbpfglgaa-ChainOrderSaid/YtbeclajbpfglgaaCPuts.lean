/- ChainPuts: its walk. -/
import Derived.Test.YtbeclajbpfglgaaChD
import Derived.Test.YtbeclajbpfglgaaRegV
namespace Go.Proofs.Ytbeclajbpfglgaa
open Go.RowKit Go.BigFrame

/-- A list in memory. -/
structure Cw (W : World) (A : Option Addr) (c : Nat) (l : List Ve) : Prop where
  sr : Sr encV 6 W W.heap.size A c l
theorem Cw.below {W W' : World} {A : Option Addr} {c : Nat} {l : List Ve} (h : Cw W A c l) (hb : Below W.heap.size W W') : Cw W' A c l := ⟨(h.sr.below hb).more hb.size⟩
/-- What is known of an operation's value: itself, or the list that it holds. -/
inductive Pv where
  | v (x : Value)
  | s (D : List Ve)
def Pv.holds : Pv → Value → World → Prop
  | .v x, u, _ => u = x
  | .s D, u, w => ∃ A c, u = .slice A D.length c ∧ Cw w A c D
theorem Pv.mono : ∀ {p : Pv} {u : Value} {w w' : World}, p.holds u w → Below w.heap.size w w' → p.holds u w'
  | .v _, _, _, _, h, _ => h
  | .s _, _, _, _, ⟨A, c, e, q⟩, hb => ⟨A, c, e, q.below hb⟩
def GetQ (w : World) (g : Ve) (b : Bool) (e : Ending) (w' : World) : Prop := e = .returned (.tuple #[agV g, .bool b]) ∧ Below w.heap.size w w'
/-- The chain, the stamp in its box, the versions that were got in theirs. -/
structure Gp (w : World) (A : Option Addr) (cap : Nat) (B : Option Addr) (cap2 : Nat) (c : List Ve) (x y z : Int) (b8 b10 : Nat) (g : Ve) (wr : World) : Prop where
  m : Mk w wr A cap B cap2 c
  s0 : wr.cell? ⟨w.heap.size, 0, none⟩ = some (.int .i64 x)
  s1 : wr.cell? ⟨w.heap.size, 1, none⟩ = some (.int .u32 y)
  s2 : wr.cell? ⟨w.heap.size, 2, none⟩ = some (.int .u32 z)
  g8 : Vb wr b8 g
  g10 : Vb wr b10 g
theorem Gp.below {w wr w' : World} {A B : Option Addr} {cap cap2 : Nat} {c : List Ve} {x y z : Int} {b8 b10 : Nat} {g : Ve} (h : Gp w A cap B cap2 c x y z b8 b10 g wr) (hb : Below wr.heap.size wr w') : Gp w A cap B cap2 c x y z b8 b10 g w' :=
  ⟨h.m.below hb, kept hb h.s0, kept hb h.s1, kept hb h.s2, h.g8.below hb, h.g10.below hb⟩
set_option maxRecDepth 100000 in
set_option maxHeartbeats 12800000 in
theorem cputs_any (A0 : Option Addr) (cap0 : Nat) (l : List Ve) (x y z : Int) (w : World) (h0 : Sr encV 6 w w.heap.size A0 cap0 l) (ho0 : ∀ u ∈ l, Vok u) (hy : 0 ≤ y ∧ y ≤ 4294967295) (hz : 0 ≤ z ∧ z ≤ 4294967295) :
    Calls Try.prog 4 #[.slice A0 l.length cap0, stv x y z] w (Ok0 w) := by
  have HMD := Lib.hid (fun w' (hb : Below w.heap.size w w') => made_any A0 cap0 l w' ((h0.below hb).more hb.size) ho0)
  have B0 := (Below.refl w.heap.size w).alloc (Nat.le_refl _) (.cells #[.int .i64 x, .int .u32 y, .int .u32 z] 24)
  have HM0 := Lib.hid (HMD.out _ B0)
  have HB0 := Lib.hid B0
  have HTO := Lib.hid (fun w => to_any x y z w)
  clear h0 ho0 B0 HMD
  go_enter Try.func4, Try.ntmps4
  go_wp2_with fail
  refine HM0.out.mono ?_
  rintro e w1 ⟨A, cap, B, cap2, c, rfl, hc60, M1⟩
  have m0 : w1.cell? ⟨w.heap.size, 0, none⟩ = some (.int .i64 x) := kept M1.bel (by simp)
  have m1 : w1.cell? ⟨w.heap.size, 1, none⟩ = some (.int .u32 y) := kept M1.bel (by simp)
  have m2 : w1.cell? ⟨w.heap.size, 2, none⟩ = some (.int .u32 z) := kept M1.bel (by simp)
  have M1 : Mk w w1 A cap B cap2 c := ⟨M1.s1, M1.s2, M1.ok, M1.chn, M1.rt, HB0.out.trans (M1.bel.mono HB0.out.size)⟩
  have hq1 : w.heap.size < w1.heap.size := World.block_lt_of_cell? w1 _ m0
  obtain ⟨g, bo, HG, HRG⟩ : ∃ (g : Ve) (bo : Bool), (Hid (∀ W, Mk w W A cap B cap2 c → Calls Try.prog 13 #[.slice A c.length cap, stv x y z] W (GetQ W g bo))) ∧ Hid (∀ W, Mk w W A cap B cap2 c → Calls Try.prog 15 #[.slice B c.length cap2, stv x y z] W (GetQ W g bo)) :=
    ⟨(getV c x y z).getD nilV, (getV c x y z).isSome, Lib.hid fun W M => get_any M.s1 (Nat.le_refl _) M.ok M.chn (by omega) hy hz, Lib.hid fun W M => rget_any M.s2 (Nat.le_refl _) M.chn⟩
  obtain ⟨D, hD, HCU, HRC⟩ : ∃ D : List Ve, D.length ≤ 60 ∧ (Hid (∀ W, Mk w W A cap B cap2 c → Calls Try.prog 19 #[.slice A c.length cap, stv x y z] W (CutP W D))) ∧ Hid (∀ W, Mk w W A cap B cap2 c → Calls Try.prog 20 #[.slice B c.length cap2, stv x y z] W (CutP W D)) :=
    ⟨c.drop (cutN c x y z), by simp; omega, Lib.hid fun W M => cut_any M.s1 (Nat.le_refl _) M.ok M.chn (by omega) hy hz, Lib.hid fun W M => rcut_any M.s2 (Nat.le_refl _) M.chn (by omega)⟩
  have HM1 := Lib.hid M1
  clear M1 HM0
  go_wp2_with fail
  refine (cawake_any _).mono ?_
  rintro e w2 ⟨rfl, hb⟩
  have HM2 := Lib.hid (HM1.out.below hb)
  have m0 := kept hb m0
  have m1 := kept hb m1
  have m2 := kept hb m2
  have hq2 : w.heap.size < w2.heap.size := Nat.lt_of_lt_of_le hq1 hb.size
  clear hb
  go_wp2_with fail
  refine (HTO.out _).mono ?_
  rintro e w3 ⟨rfl, hb⟩
  have HM3 := Lib.hid (HM2.out.below hb)
  have m0 := kept hb m0
  have m1 := kept hb m1
  have m2 := kept hb m2
  have hq3 : w.heap.size < w3.heap.size := Nat.lt_of_lt_of_le hq2 hb.size
  clear hb
  go_wp2_with fail
  refine (HG.out _ HM3.out).mono ?_
  rintro e w4 ⟨rfl, hb⟩
  have hq4 : w.heap.size < w4.heap.size := Nat.lt_of_lt_of_le hq3 hb.size
  have BX := (Below.refl w4.heap.size w4).alloc (Nat.le_refl _) (.cells #[.int .i64 g.w, .int .u32 g.t, .int .u32 g.m, .int .i64 g.k, .int .i64 g.n, .string g.x] 31)
  have HM4 := Lib.hid ((HM3.out.below hb).below BX)
  have m0 := kept hb m0
  have m1 := kept hb m1
  have m2 := kept hb m2
  clear hb BX
  go_wp2_with fail
  refine (HRG.out _ HM4.out).mono ?_
  rintro e w5 ⟨rfl, hb⟩
  have HV8 : Hid (Vb w5 w4.heap.size g) := Lib.hid ⟨kept hb (by simp), kept hb (by simp), kept hb (by simp), kept hb (by simp), kept hb (by simp), kept hb (by simp)⟩
  have HM5 := Lib.hid (HM4.out.below hb)
  have m0 := kept hb (keptA (o := .cells #[.int .i64 g.w, .int .u32 g.t, .int .u32 g.m, .int .i64 g.k, .int .i64 g.n, .string g.x] 31) m0)
  have m1 := kept hb (keptA (o := .cells #[.int .i64 g.w, .int .u32 g.t, .int .u32 g.m, .int .i64 g.k, .int .i64 g.n, .string g.x] 31) m1)
  have m2 := kept hb (keptA (o := .cells #[.int .i64 g.w, .int .u32 g.t, .int .u32 g.m, .int .i64 g.k, .int .i64 g.n, .string g.x] 31) m2)
  clear hb
  obtain ⟨W6, hW⟩ : ∃ W6, W6 = w5.alloc (.cells #[.int .i64 g.w, .int .u32 g.t, .int .u32 g.m, .int .i64 g.k, .int .i64 g.n, .string g.x] 26) := ⟨_, rfl⟩
  have HGP : Hid (Gp w A cap B cap2 c x y z w4.heap.size w5.heap.size g W6) := Lib.hid (by
    have BX := (Below.refl w5.heap.size w5).alloc (Nat.le_refl _) (.cells #[.int .i64 g.w, .int .u32 g.t, .int .u32 g.m, .int .i64 g.k, .int .i64 g.n, .string g.x] 26)
    rw [hW]
    exact ⟨HM5.out.below BX, keptA m0, keptA m1, keptA m2, HV8.out.below BX, ⟨by simp, by simp, by simp, by simp, by simp, by simp⟩⟩)
  cases bo
  · go_wp2_with fail
    rw [← hW]
    clear hW m0 m1 m2 HM1 HM2 HM3 HM4 HM5 HG HRG HV8
    apply region_V Pv.holds (Gp w A cap B cap2 c x y z w4.heap.size w5.heap.size g) [.v (.bool false), .v (.bool false), .v (.bool true), .v (.bool true), .v (agV g), .v (agV g), .v (agV g), .v (.bool true), .v (.bool true), .v (.bool true), .v (.slice A c.length cap), .v (.agg #[.int .i64 x, .int .u32 y, .int .u32 z]), .v (.agg #[.int .i64 x, .int .u32 y, .int .u32 z]), .s D, .s D, .v (.slice B c.length cap2), .v (.agg #[.int .i64 x, .int .u32 y, .int .u32 z]), .s D, .v (.bool true), .v (.bool true), .v (.bool true), .v (.slice A c.length cap), .s c, .v (.slice B c.length cap2), .v (.bool true), .v (.bool true), .v (.bool true)] (.v undef)
    case mono => exact fun p v w w1 h hb => Pv.mono h hb
    case hm => kernel_rfl
    case hf => kernel_rfl
    case hQ => exact (by intro c x y w e h; exact And.intro (e.symm.trans (And.left h)) (And.right h))
    case hF => intro vs; simp only [putAll, Act.put, List.setIfInBounds_toArray, List.set_cons_zero, List.set_cons_succ, Nat.reduceAdd]; rfl
    case h0 => exact HGP.out.below (below_drewN _ _ 1)
    case hstep =>
      repeat' (first | exact AllOps.nil | apply AllOps.cons)
      · intro vs wx hG hd K hK
        replace hK : ∀ (uu : Value) (w' : World), Below wx.heap.size wx w' → ((Gp w A cap B cap2 c x y z w4.heap.size w5.heap.size g)) w' → Pv.holds (.v (.bool false)) uu w' → K _ w' := hK
        simp only [Act.put, List.setIfInBounds_toArray, List.set_cons_zero, List.set_cons_succ] at hK ⊢
        have HK := Lib.hid hK
        have HG := Lib.hid hG
        clear hK hd
        clear hG
        go_simp
        exact HK.out _ _ (Below.refl _ _) HG.out rfl
      · intro vs wx hG hd K hK
        replace hK : ∀ (uu : Value) (w' : World), Below wx.heap.size wx w' → ((Gp w A cap B cap2 c x y z w4.heap.size w5.heap.size g)) w' → Pv.holds (.v (.bool false)) uu w' → K _ w' := hK
        simp only [Act.put, List.setIfInBounds_toArray, List.set_cons_zero, List.set_cons_succ] at hK ⊢
        have HK := Lib.hid hK
        have HG := Lib.hid hG
        clear hK hd
        clear hG
        go_simp
        exact HK.out _ _ (Below.refl _ _) HG.out rfl
      · intro vs wx hG hd K hK
        have e0 : vs 0 = .bool false := hd.get (j := 0) (by simp [depsOf, Region.binds])
        have e1 : vs 1 = .bool false := hd.get (j := 1) (by simp [depsOf, Region.binds])
        replace hK : ∀ (uu : Value) (w' : World), Below wx.heap.size wx w' → ((Gp w A cap B cap2 c x y z w4.heap.size w5.heap.size g)) w' → Pv.holds (.v (.bool true)) uu w' → K _ w' := hK
        simp only [Act.put, List.setIfInBounds_toArray, List.set_cons_zero, List.set_cons_succ, e0, e1] at hK ⊢
        have HK := Lib.hid hK
        have HG := Lib.hid hG
        clear hK hd e0 e1
        clear hG
        go_simp
        exact HK.out _ _ (Below.refl _ _) HG.out rfl
      · intro vs wx hG hd K hK
        have e2 : vs 2 = .bool true := hd.get (j := 2) (by simp [depsOf, Region.binds])
        replace hK : ∀ (uu : Value) (w' : World), Below wx.heap.size wx w' → ((Gp w A cap B cap2 c x y z w4.heap.size w5.heap.size g)) w' → Pv.holds (.v (.bool true)) uu w' → K _ w' := hK
        simp only [Act.put, List.setIfInBounds_toArray, List.set_cons_zero, List.set_cons_succ, e2] at hK ⊢
        have HK := Lib.hid hK
        have HG := Lib.hid hG
        clear hK hd e2
        clear hG
        go_simp
        exact HK.out _ _ (Below.refl _ _) HG.out rfl
      · intro vs wx hG hd K hK
        have e3 : vs 3 = .bool true := hd.get (j := 3) (by simp [depsOf, Region.binds])
        replace hK : ∀ (uu : Value) (w' : World), Below wx.heap.size wx w' → ((Gp w A cap B cap2 c x y z w4.heap.size w5.heap.size g)) w' → Pv.holds (.v (agV g)) uu w' → K _ w' := hK
        simp only [Act.put, List.setIfInBounds_toArray, List.set_cons_zero, List.set_cons_succ, e3] at hK ⊢
        have HK := Lib.hid hK
        have HG := Lib.hid hG
        clear hK hd e3
        obtain ⟨_, s0, s1, s2, ⟨a0, a1, a2, a3, a4, a5⟩, ⟨b0, b1, b2, b3, b4, b5⟩⟩ := hG
        go_simp
        exact HK.out _ _ (Below.refl _ _) HG.out rfl
      · intro vs wx hG hd K hK
        have e3 : vs 3 = .bool true := hd.get (j := 3) (by simp [depsOf, Region.binds])
        have e4 : vs 4 = agV g := hd.get (j := 4) (by simp [depsOf, Region.binds])
        replace hK : ∀ (uu : Value) (w' : World), Below wx.heap.size wx w' → ((Gp w A cap B cap2 c x y z w4.heap.size w5.heap.size g)) w' → Pv.holds (.v (agV g)) uu w' → K _ w' := hK
        simp only [Act.put, List.setIfInBounds_toArray, List.set_cons_zero, List.set_cons_succ, e3, e4] at hK ⊢
        have HK := Lib.hid hK
        have HG := Lib.hid hG
        clear hK hd e3 e4
        clear hG
        go_simp
        go_at_call 16
        refine (fromv_any g _).mono ?_
        rintro e w1 ⟨rfl, hb⟩
        exact HK.out _ _ hb (HG.out.below hb) rfl
      · intro vs wx hG hd K hK
        have e3 : vs 3 = .bool true := hd.get (j := 3) (by simp [depsOf, Region.binds])
        replace hK : ∀ (uu : Value) (w' : World), Below wx.heap.size wx w' → ((Gp w A cap B cap2 c x y z w4.heap.size w5.heap.size g)) w' → Pv.holds (.v (agV g)) uu w' → K _ w' := hK
        simp only [Act.put, List.setIfInBounds_toArray, List.set_cons_zero, List.set_cons_succ, e3] at hK ⊢
        have HK := Lib.hid hK
        have HG := Lib.hid hG
        clear hK hd e3
        obtain ⟨_, s0, s1, s2, ⟨a0, a1, a2, a3, a4, a5⟩, ⟨b0, b1, b2, b3, b4, b5⟩⟩ := hG
        go_simp
        exact HK.out _ _ (Below.refl _ _) HG.out rfl
      · intro vs wx hG hd K hK
        have e3 : vs 3 = .bool true := hd.get (j := 3) (by simp [depsOf, Region.binds])
        have e5 : vs 5 = agV g := hd.get (j := 5) (by simp [depsOf, Region.binds])
        have e6 : vs 6 = agV g := hd.get (j := 6) (by simp [depsOf, Region.binds])
        replace hK : ∀ (uu : Value) (w' : World), Below wx.heap.size wx w' → ((Gp w A cap B cap2 c x y z w4.heap.size w5.heap.size g)) w' → Pv.holds (.v (.bool true)) uu w' → K _ w' := hK
        simp only [Act.put, List.setIfInBounds_toArray, List.set_cons_zero, List.set_cons_succ, e3, e5, e6] at hK ⊢
        have HK := Lib.hid hK
        have HG := Lib.hid hG
        clear hK hd e3 e5 e6
        clear hG
        go_simp
        exact HK.out _ _ (Below.refl _ _) HG.out rfl
      · intro vs wx hG hd K hK
        have e3 : vs 3 = .bool true := hd.get (j := 3) (by simp [depsOf, Region.binds])
        have e7 : vs 7 = .bool true := hd.get (j := 7) (by simp [depsOf, Region.binds])
        replace hK : ∀ (uu : Value) (w' : World), Below wx.heap.size wx w' → ((Gp w A cap B cap2 c x y z w4.heap.size w5.heap.size g)) w' → Pv.holds (.v (.bool true)) uu w' → K _ w' := hK
        simp only [Act.put, List.setIfInBounds_toArray, List.set_cons_zero, List.set_cons_succ, e3, e7] at hK ⊢
        have HK := Lib.hid hK
        have HG := Lib.hid hG
        clear hK hd e3 e7
        clear hG
        go_simp
        exact HK.out _ _ (Below.refl _ _) HG.out rfl
      · intro vs wx hG hd K hK
        have e8 : vs 8 = .bool true := hd.get (j := 8) (by simp [depsOf, Region.binds])
        replace hK : ∀ (uu : Value) (w' : World), Below wx.heap.size wx w' → ((Gp w A cap B cap2 c x y z w4.heap.size w5.heap.size g)) w' → Pv.holds (.v (.bool true)) uu w' → K _ w' := hK
        simp only [Act.put, List.setIfInBounds_toArray, List.set_cons_zero, List.set_cons_succ, e8] at hK ⊢
        have HK := Lib.hid hK
        have HG := Lib.hid hG
        clear hK hd e8
        clear hG
        go_simp
        exact HK.out _ _ (Below.refl _ _) HG.out rfl
      · intro vs wx hG hd K hK
        have e9 : vs 9 = .bool true := hd.get (j := 9) (by simp [depsOf, Region.binds])
        replace hK : ∀ (uu : Value) (w' : World), Below wx.heap.size wx w' → ((Gp w A cap B cap2 c x y z w4.heap.size w5.heap.size g)) w' → Pv.holds (.v (.slice A c.length cap)) uu w' → K _ w' := hK
        simp only [Act.put, List.setIfInBounds_toArray, List.set_cons_zero, List.set_cons_succ, e9] at hK ⊢
        have HK := Lib.hid hK
        have HG := Lib.hid hG
        clear hK hd e9
        clear hG
        go_simp
        exact HK.out _ _ (Below.refl _ _) HG.out rfl
      · intro vs wx hG hd K hK
        have e9 : vs 9 = .bool true := hd.get (j := 9) (by simp [depsOf, Region.binds])
        replace hK : ∀ (uu : Value) (w' : World), Below wx.heap.size wx w' → ((Gp w A cap B cap2 c x y z w4.heap.size w5.heap.size g)) w' → Pv.holds (.v (.agg #[.int .i64 x, .int .u32 y, .int .u32 z])) uu w' → K _ w' := hK
        simp only [Act.put, List.setIfInBounds_toArray, List.set_cons_zero, List.set_cons_succ, e9] at hK ⊢
        have HK := Lib.hid hK
        have HG := Lib.hid hG
        clear hK hd e9
        obtain ⟨_, s0, s1, s2, ⟨a0, a1, a2, a3, a4, a5⟩, ⟨b0, b1, b2, b3, b4, b5⟩⟩ := hG
        go_simp
        exact HK.out _ _ (Below.refl _ _) HG.out rfl
      · intro vs wx hG hd K hK
        have e9 : vs 9 = .bool true := hd.get (j := 9) (by simp [depsOf, Region.binds])
        have e11 : vs 11 = .agg #[.int .i64 x, .int .u32 y, .int .u32 z] := hd.get (j := 11) (by simp [depsOf, Region.binds])
        replace hK : ∀ (uu : Value) (w' : World), Below wx.heap.size wx w' → ((Gp w A cap B cap2 c x y z w4.heap.size w5.heap.size g)) w' → Pv.holds (.v (.agg #[.int .i64 x, .int .u32 y, .int .u32 z])) uu w' → K _ w' := hK
        simp only [Act.put, List.setIfInBounds_toArray, List.set_cons_zero, List.set_cons_succ, e9, e11] at hK ⊢
        have HK := Lib.hid hK
        have HG := Lib.hid hG
        clear hK hd e9 e11
        clear hG
        go_simp
        go_at_call 14
        refine (to_any x y z _).mono ?_
        rintro e w1 ⟨rfl, hb⟩
        exact HK.out _ _ hb (HG.out.below hb) rfl
      · intro vs wx hG hd K hK
        have e9 : vs 9 = .bool true := hd.get (j := 9) (by simp [depsOf, Region.binds])
        have e10 : vs 10 = .slice A c.length cap := hd.get (j := 10) (by simp [depsOf, Region.binds])
        have e12 : vs 12 = .agg #[.int .i64 x, .int .u32 y, .int .u32 z] := hd.get (j := 12) (by simp [depsOf, Region.binds])
        replace hK : ∀ (uu : Value) (w' : World), Below wx.heap.size wx w' → ((Gp w A cap B cap2 c x y z w4.heap.size w5.heap.size g)) w' → Pv.holds (.s D) uu w' → K _ w' := hK
        simp only [Act.put, List.setIfInBounds_toArray, List.set_cons_zero, List.set_cons_succ, e9, e10, e12] at hK ⊢
        have HK := Lib.hid hK
        have HG := Lib.hid hG
        clear hK hd e9 e10 e12
        clear hG
        go_simp
        go_at_call 19
        refine (HCU.out _ HG.out.m).mono ?_
        rintro e w1 ⟨A3, c3, rfl, s3, hb, _⟩
        exact HK.out _ _ hb (HG.out.below hb) ⟨A3, c3, rfl, ⟨s3⟩⟩
      · intro vs wx hG hd K hK
        have e9 : vs 9 = .bool true := hd.get (j := 9) (by simp [depsOf, Region.binds])
        obtain ⟨A13, c13, e13, q13⟩ : ∃ Aq cq, vs 13 = .slice Aq D.length cq ∧ Cw wx Aq cq D := hd.get (j := 13) (by simp [depsOf, Region.binds])
        replace hK : ∀ (uu : Value) (w' : World), Below wx.heap.size wx w' → ((Gp w A cap B cap2 c x y z w4.heap.size w5.heap.size g)) w' → Pv.holds (.s D) uu w' → K _ w' := hK
        simp only [Act.put, List.setIfInBounds_toArray, List.set_cons_zero, List.set_cons_succ, e9, e13] at hK ⊢
        have HK := Lib.hid hK
        have HG := Lib.hid hG
        clear hK hd e9 e13
        clear hG
        go_simp
        go_at_call 18
        refine (back_any q13.sr (Nat.le_refl _) (by omega)).mono ?_
        rintro e w1 ⟨A3, c3, rfl, s3, hb⟩
        exact HK.out _ _ hb (HG.out.below hb) ⟨A3, c3, rfl, ⟨(s3.sr encV_len).1⟩⟩
      · intro vs wx hG hd K hK
        have e9 : vs 9 = .bool true := hd.get (j := 9) (by simp [depsOf, Region.binds])
        replace hK : ∀ (uu : Value) (w' : World), Below wx.heap.size wx w' → ((Gp w A cap B cap2 c x y z w4.heap.size w5.heap.size g)) w' → Pv.holds (.v (.slice B c.length cap2)) uu w' → K _ w' := hK
        simp only [Act.put, List.setIfInBounds_toArray, List.set_cons_zero, List.set_cons_succ, e9] at hK ⊢
        have HK := Lib.hid hK
        have HG := Lib.hid hG
        clear hK hd e9
        clear hG
        go_simp
        exact HK.out _ _ (Below.refl _ _) HG.out rfl
      · intro vs wx hG hd K hK
        have e9 : vs 9 = .bool true := hd.get (j := 9) (by simp [depsOf, Region.binds])
        replace hK : ∀ (uu : Value) (w' : World), Below wx.heap.size wx w' → ((Gp w A cap B cap2 c x y z w4.heap.size w5.heap.size g)) w' → Pv.holds (.v (.agg #[.int .i64 x, .int .u32 y, .int .u32 z])) uu w' → K _ w' := hK
        simp only [Act.put, List.setIfInBounds_toArray, List.set_cons_zero, List.set_cons_succ, e9] at hK ⊢
        have HK := Lib.hid hK
        have HG := Lib.hid hG
        clear hK hd e9
        obtain ⟨_, s0, s1, s2, ⟨a0, a1, a2, a3, a4, a5⟩, ⟨b0, b1, b2, b3, b4, b5⟩⟩ := hG
        go_simp
        exact HK.out _ _ (Below.refl _ _) HG.out rfl
      · intro vs wx hG hd K hK
        have e9 : vs 9 = .bool true := hd.get (j := 9) (by simp [depsOf, Region.binds])
        have e15 : vs 15 = .slice B c.length cap2 := hd.get (j := 15) (by simp [depsOf, Region.binds])
        have e16 : vs 16 = .agg #[.int .i64 x, .int .u32 y, .int .u32 z] := hd.get (j := 16) (by simp [depsOf, Region.binds])
        replace hK : ∀ (uu : Value) (w' : World), Below wx.heap.size wx w' → ((Gp w A cap B cap2 c x y z w4.heap.size w5.heap.size g)) w' → Pv.holds (.s D) uu w' → K _ w' := hK
        simp only [Act.put, List.setIfInBounds_toArray, List.set_cons_zero, List.set_cons_succ, e9, e15, e16] at hK ⊢
        have HK := Lib.hid hK
        have HG := Lib.hid hG
        clear hK hd e9 e15 e16
        clear hG
        go_simp
        go_at_call 20
        refine (HRC.out _ HG.out.m).mono ?_
        rintro e w1 ⟨A3, c3, rfl, s3, hb, _⟩
        exact HK.out _ _ hb (HG.out.below hb) ⟨A3, c3, rfl, ⟨s3⟩⟩
      · intro vs wx hG hd K hK
        have e9 : vs 9 = .bool true := hd.get (j := 9) (by simp [depsOf, Region.binds])
        obtain ⟨A14, c14, e14, q14⟩ : ∃ Aq cq, vs 14 = .slice Aq D.length cq ∧ Cw wx Aq cq D := hd.get (j := 14) (by simp [depsOf, Region.binds])
        obtain ⟨A17, c17, e17, q17⟩ : ∃ Aq cq, vs 17 = .slice Aq D.length cq ∧ Cw wx Aq cq D := hd.get (j := 17) (by simp [depsOf, Region.binds])
        replace hK : ∀ (uu : Value) (w' : World), Below wx.heap.size wx w' → ((Gp w A cap B cap2 c x y z w4.heap.size w5.heap.size g)) w' → Pv.holds (.v (.bool true)) uu w' → K _ w' := hK
        simp only [Act.put, List.setIfInBounds_toArray, List.set_cons_zero, List.set_cons_succ, e9, e14, e17] at hK ⊢
        have HK := Lib.hid hK
        have HG := Lib.hid hG
        clear hK hd e9 e14 e17
        clear hG
        go_simp
        go_at_call 17
        refine (same_any q14.sr q17.sr (Nat.le_refl _)).mono ?_
        rintro e w1 ⟨rfl, hb⟩
        exact HK.out _ _ hb (HG.out.below hb) rfl
      · intro vs wx hG hd K hK
        have e9 : vs 9 = .bool true := hd.get (j := 9) (by simp [depsOf, Region.binds])
        have e18 : vs 18 = .bool true := hd.get (j := 18) (by simp [depsOf, Region.binds])
        replace hK : ∀ (uu : Value) (w' : World), Below wx.heap.size wx w' → ((Gp w A cap B cap2 c x y z w4.heap.size w5.heap.size g)) w' → Pv.holds (.v (.bool true)) uu w' → K _ w' := hK
        simp only [Act.put, List.setIfInBounds_toArray, List.set_cons_zero, List.set_cons_succ, e9, e18] at hK ⊢
        have HK := Lib.hid hK
        have HG := Lib.hid hG
        clear hK hd e9 e18
        clear hG
        go_simp
        exact HK.out _ _ (Below.refl _ _) HG.out rfl
      · intro vs wx hG hd K hK
        have e19 : vs 19 = .bool true := hd.get (j := 19) (by simp [depsOf, Region.binds])
        replace hK : ∀ (uu : Value) (w' : World), Below wx.heap.size wx w' → ((Gp w A cap B cap2 c x y z w4.heap.size w5.heap.size g)) w' → Pv.holds (.v (.bool true)) uu w' → K _ w' := hK
        simp only [Act.put, List.setIfInBounds_toArray, List.set_cons_zero, List.set_cons_succ, e19] at hK ⊢
        have HK := Lib.hid hK
        have HG := Lib.hid hG
        clear hK hd e19
        clear hG
        go_simp
        exact HK.out _ _ (Below.refl _ _) HG.out rfl
      · intro vs wx hG hd K hK
        have e20 : vs 20 = .bool true := hd.get (j := 20) (by simp [depsOf, Region.binds])
        replace hK : ∀ (uu : Value) (w' : World), Below wx.heap.size wx w' → ((Gp w A cap B cap2 c x y z w4.heap.size w5.heap.size g)) w' → Pv.holds (.v (.slice A c.length cap)) uu w' → K _ w' := hK
        simp only [Act.put, List.setIfInBounds_toArray, List.set_cons_zero, List.set_cons_succ, e20] at hK ⊢
        have HK := Lib.hid hK
        have HG := Lib.hid hG
        clear hK hd e20
        clear hG
        go_simp
        exact HK.out _ _ (Below.refl _ _) HG.out rfl
      · intro vs wx hG hd K hK
        have e20 : vs 20 = .bool true := hd.get (j := 20) (by simp [depsOf, Region.binds])
        have e21 : vs 21 = .slice A c.length cap := hd.get (j := 21) (by simp [depsOf, Region.binds])
        replace hK : ∀ (uu : Value) (w' : World), Below wx.heap.size wx w' → ((Gp w A cap B cap2 c x y z w4.heap.size w5.heap.size g)) w' → Pv.holds (.s c) uu w' → K _ w' := hK
        simp only [Act.put, List.setIfInBounds_toArray, List.set_cons_zero, List.set_cons_succ, e20, e21] at hK ⊢
        have HK := Lib.hid hK
        have HG := Lib.hid hG
        clear hK hd e20 e21
        clear hG
        go_simp
        go_at_call 18
        refine (back_any HG.out.m.s1 (Nat.le_refl _) (by omega)).mono ?_
        rintro e w1 ⟨A3, c3, rfl, s3, hb⟩
        exact HK.out _ _ hb (HG.out.below hb) ⟨A3, c3, rfl, ⟨(s3.sr encV_len).1⟩⟩
      · intro vs wx hG hd K hK
        have e20 : vs 20 = .bool true := hd.get (j := 20) (by simp [depsOf, Region.binds])
        replace hK : ∀ (uu : Value) (w' : World), Below wx.heap.size wx w' → ((Gp w A cap B cap2 c x y z w4.heap.size w5.heap.size g)) w' → Pv.holds (.v (.slice B c.length cap2)) uu w' → K _ w' := hK
        simp only [Act.put, List.setIfInBounds_toArray, List.set_cons_zero, List.set_cons_succ, e20] at hK ⊢
        have HK := Lib.hid hK
        have HG := Lib.hid hG
        clear hK hd e20
        clear hG
        go_simp
        exact HK.out _ _ (Below.refl _ _) HG.out rfl
      · intro vs wx hG hd K hK
        have e20 : vs 20 = .bool true := hd.get (j := 20) (by simp [depsOf, Region.binds])
        obtain ⟨A22, c22, e22, q22⟩ : ∃ Aq cq, vs 22 = .slice Aq c.length cq ∧ Cw wx Aq cq c := hd.get (j := 22) (by simp [depsOf, Region.binds])
        have e23 : vs 23 = .slice B c.length cap2 := hd.get (j := 23) (by simp [depsOf, Region.binds])
        replace hK : ∀ (uu : Value) (w' : World), Below wx.heap.size wx w' → ((Gp w A cap B cap2 c x y z w4.heap.size w5.heap.size g)) w' → Pv.holds (.v (.bool true)) uu w' → K _ w' := hK
        simp only [Act.put, List.setIfInBounds_toArray, List.set_cons_zero, List.set_cons_succ, e20, e22, e23] at hK ⊢
        have HK := Lib.hid hK
        have HG := Lib.hid hG
        clear hK hd e20 e22 e23
        clear hG
        go_simp
        go_at_call 17
        refine (same_any q22.sr HG.out.m.s2 (Nat.le_refl _)).mono ?_
        rintro e w1 ⟨rfl, hb⟩
        exact HK.out _ _ hb (HG.out.below hb) rfl
      · intro vs wx hG hd K hK
        have e20 : vs 20 = .bool true := hd.get (j := 20) (by simp [depsOf, Region.binds])
        have e24 : vs 24 = .bool true := hd.get (j := 24) (by simp [depsOf, Region.binds])
        replace hK : ∀ (uu : Value) (w' : World), Below wx.heap.size wx w' → ((Gp w A cap B cap2 c x y z w4.heap.size w5.heap.size g)) w' → Pv.holds (.v (.bool true)) uu w' → K _ w' := hK
        simp only [Act.put, List.setIfInBounds_toArray, List.set_cons_zero, List.set_cons_succ, e20, e24] at hK ⊢
        have HK := Lib.hid hK
        have HG := Lib.hid hG
        clear hK hd e20 e24
        clear hG
        go_simp
        exact HK.out _ _ (Below.refl _ _) HG.out rfl
      · intro vs wx hG hd K hK
        have e25 : vs 25 = .bool true := hd.get (j := 25) (by simp [depsOf, Region.binds])
        replace hK : ∀ (uu : Value) (w' : World), Below wx.heap.size wx w' → ((Gp w A cap B cap2 c x y z w4.heap.size w5.heap.size g)) w' → Pv.holds (.v (.bool true)) uu w' → K _ w' := hK
        simp only [Act.put, List.setIfInBounds_toArray, List.set_cons_zero, List.set_cons_succ, e25] at hK ⊢
        have HK := Lib.hid hK
        have HG := Lib.hid hG
        clear hK hd e25
        clear hG
        go_simp
        exact HK.out _ _ (Below.refl _ _) HG.out rfl
    case hend =>
      intro vs wy hG hv
      have e26 : vs 26 = .bool true := hv 26 (by simp)
      simp only [e26]
      have HF := hG.m.bel
      clear hG hv e26
      go_wp2
      go_ret
      exact ⟨rfl, HF⟩
  · go_wp2_with fail
    rw [← hW]
    clear hW m0 m1 m2 HM1 HM2 HM3 HM4 HM5 HG HRG HV8
    apply region_V Pv.holds (Gp w A cap B cap2 c x y z w4.heap.size w5.heap.size g) [.v (.bool true), .v (.bool true), .v (.bool true), .v (.bool true), .v (agV g), .v (agV g), .v (agV g), .v (.bool true), .v (.bool true), .v (.bool true), .v (.slice A c.length cap), .v (.agg #[.int .i64 x, .int .u32 y, .int .u32 z]), .v (.agg #[.int .i64 x, .int .u32 y, .int .u32 z]), .s D, .s D, .v (.slice B c.length cap2), .v (.agg #[.int .i64 x, .int .u32 y, .int .u32 z]), .s D, .v (.bool true), .v (.bool true), .v (.bool true), .v (.slice A c.length cap), .s c, .v (.slice B c.length cap2), .v (.bool true), .v (.bool true), .v (.bool true)] (.v undef)
    case mono => exact fun p v w w1 h hb => Pv.mono h hb
    case hm => kernel_rfl
    case hf => kernel_rfl
    case hQ => exact (by intro c x y w e h; exact And.intro (e.symm.trans (And.left h)) (And.right h))
    case hF => intro vs; simp only [putAll, Act.put, List.setIfInBounds_toArray, List.set_cons_zero, List.set_cons_succ, Nat.reduceAdd]; rfl
    case h0 => exact HGP.out.below (below_drewN _ _ 1)
    case hstep =>
      repeat' (first | exact AllOps.nil | apply AllOps.cons)
      · intro vs wx hG hd K hK
        replace hK : ∀ (uu : Value) (w' : World), Below wx.heap.size wx w' → ((Gp w A cap B cap2 c x y z w4.heap.size w5.heap.size g)) w' → Pv.holds (.v (.bool true)) uu w' → K _ w' := hK
        simp only [Act.put, List.setIfInBounds_toArray, List.set_cons_zero, List.set_cons_succ] at hK ⊢
        have HK := Lib.hid hK
        have HG := Lib.hid hG
        clear hK hd
        clear hG
        go_simp
        exact HK.out _ _ (Below.refl _ _) HG.out rfl
      · intro vs wx hG hd K hK
        replace hK : ∀ (uu : Value) (w' : World), Below wx.heap.size wx w' → ((Gp w A cap B cap2 c x y z w4.heap.size w5.heap.size g)) w' → Pv.holds (.v (.bool true)) uu w' → K _ w' := hK
        simp only [Act.put, List.setIfInBounds_toArray, List.set_cons_zero, List.set_cons_succ] at hK ⊢
        have HK := Lib.hid hK
        have HG := Lib.hid hG
        clear hK hd
        clear hG
        go_simp
        exact HK.out _ _ (Below.refl _ _) HG.out rfl
      · intro vs wx hG hd K hK
        have e0 : vs 0 = .bool true := hd.get (j := 0) (by simp [depsOf, Region.binds])
        have e1 : vs 1 = .bool true := hd.get (j := 1) (by simp [depsOf, Region.binds])
        replace hK : ∀ (uu : Value) (w' : World), Below wx.heap.size wx w' → ((Gp w A cap B cap2 c x y z w4.heap.size w5.heap.size g)) w' → Pv.holds (.v (.bool true)) uu w' → K _ w' := hK
        simp only [Act.put, List.setIfInBounds_toArray, List.set_cons_zero, List.set_cons_succ, e0, e1] at hK ⊢
        have HK := Lib.hid hK
        have HG := Lib.hid hG
        clear hK hd e0 e1
        clear hG
        go_simp
        exact HK.out _ _ (Below.refl _ _) HG.out rfl
      · intro vs wx hG hd K hK
        have e2 : vs 2 = .bool true := hd.get (j := 2) (by simp [depsOf, Region.binds])
        replace hK : ∀ (uu : Value) (w' : World), Below wx.heap.size wx w' → ((Gp w A cap B cap2 c x y z w4.heap.size w5.heap.size g)) w' → Pv.holds (.v (.bool true)) uu w' → K _ w' := hK
        simp only [Act.put, List.setIfInBounds_toArray, List.set_cons_zero, List.set_cons_succ, e2] at hK ⊢
        have HK := Lib.hid hK
        have HG := Lib.hid hG
        clear hK hd e2
        clear hG
        go_simp
        exact HK.out _ _ (Below.refl _ _) HG.out rfl
      · intro vs wx hG hd K hK
        have e3 : vs 3 = .bool true := hd.get (j := 3) (by simp [depsOf, Region.binds])
        replace hK : ∀ (uu : Value) (w' : World), Below wx.heap.size wx w' → ((Gp w A cap B cap2 c x y z w4.heap.size w5.heap.size g)) w' → Pv.holds (.v (agV g)) uu w' → K _ w' := hK
        simp only [Act.put, List.setIfInBounds_toArray, List.set_cons_zero, List.set_cons_succ, e3] at hK ⊢
        have HK := Lib.hid hK
        have HG := Lib.hid hG
        clear hK hd e3
        obtain ⟨_, s0, s1, s2, ⟨a0, a1, a2, a3, a4, a5⟩, ⟨b0, b1, b2, b3, b4, b5⟩⟩ := hG
        go_simp
        exact HK.out _ _ (Below.refl _ _) HG.out rfl
      · intro vs wx hG hd K hK
        have e3 : vs 3 = .bool true := hd.get (j := 3) (by simp [depsOf, Region.binds])
        have e4 : vs 4 = agV g := hd.get (j := 4) (by simp [depsOf, Region.binds])
        replace hK : ∀ (uu : Value) (w' : World), Below wx.heap.size wx w' → ((Gp w A cap B cap2 c x y z w4.heap.size w5.heap.size g)) w' → Pv.holds (.v (agV g)) uu w' → K _ w' := hK
        simp only [Act.put, List.setIfInBounds_toArray, List.set_cons_zero, List.set_cons_succ, e3, e4] at hK ⊢
        have HK := Lib.hid hK
        have HG := Lib.hid hG
        clear hK hd e3 e4
        clear hG
        go_simp
        go_at_call 16
        refine (fromv_any g _).mono ?_
        rintro e w1 ⟨rfl, hb⟩
        exact HK.out _ _ hb (HG.out.below hb) rfl
      · intro vs wx hG hd K hK
        have e3 : vs 3 = .bool true := hd.get (j := 3) (by simp [depsOf, Region.binds])
        replace hK : ∀ (uu : Value) (w' : World), Below wx.heap.size wx w' → ((Gp w A cap B cap2 c x y z w4.heap.size w5.heap.size g)) w' → Pv.holds (.v (agV g)) uu w' → K _ w' := hK
        simp only [Act.put, List.setIfInBounds_toArray, List.set_cons_zero, List.set_cons_succ, e3] at hK ⊢
        have HK := Lib.hid hK
        have HG := Lib.hid hG
        clear hK hd e3
        obtain ⟨_, s0, s1, s2, ⟨a0, a1, a2, a3, a4, a5⟩, ⟨b0, b1, b2, b3, b4, b5⟩⟩ := hG
        go_simp
        exact HK.out _ _ (Below.refl _ _) HG.out rfl
      · intro vs wx hG hd K hK
        have e3 : vs 3 = .bool true := hd.get (j := 3) (by simp [depsOf, Region.binds])
        have e5 : vs 5 = agV g := hd.get (j := 5) (by simp [depsOf, Region.binds])
        have e6 : vs 6 = agV g := hd.get (j := 6) (by simp [depsOf, Region.binds])
        replace hK : ∀ (uu : Value) (w' : World), Below wx.heap.size wx w' → ((Gp w A cap B cap2 c x y z w4.heap.size w5.heap.size g)) w' → Pv.holds (.v (.bool true)) uu w' → K _ w' := hK
        simp only [Act.put, List.setIfInBounds_toArray, List.set_cons_zero, List.set_cons_succ, e3, e5, e6] at hK ⊢
        have HK := Lib.hid hK
        have HG := Lib.hid hG
        clear hK hd e3 e5 e6
        clear hG
        go_simp
        exact HK.out _ _ (Below.refl _ _) HG.out rfl
      · intro vs wx hG hd K hK
        have e3 : vs 3 = .bool true := hd.get (j := 3) (by simp [depsOf, Region.binds])
        have e7 : vs 7 = .bool true := hd.get (j := 7) (by simp [depsOf, Region.binds])
        replace hK : ∀ (uu : Value) (w' : World), Below wx.heap.size wx w' → ((Gp w A cap B cap2 c x y z w4.heap.size w5.heap.size g)) w' → Pv.holds (.v (.bool true)) uu w' → K _ w' := hK
        simp only [Act.put, List.setIfInBounds_toArray, List.set_cons_zero, List.set_cons_succ, e3, e7] at hK ⊢
        have HK := Lib.hid hK
        have HG := Lib.hid hG
        clear hK hd e3 e7
        clear hG
        go_simp
        exact HK.out _ _ (Below.refl _ _) HG.out rfl
      · intro vs wx hG hd K hK
        have e8 : vs 8 = .bool true := hd.get (j := 8) (by simp [depsOf, Region.binds])
        replace hK : ∀ (uu : Value) (w' : World), Below wx.heap.size wx w' → ((Gp w A cap B cap2 c x y z w4.heap.size w5.heap.size g)) w' → Pv.holds (.v (.bool true)) uu w' → K _ w' := hK
        simp only [Act.put, List.setIfInBounds_toArray, List.set_cons_zero, List.set_cons_succ, e8] at hK ⊢
        have HK := Lib.hid hK
        have HG := Lib.hid hG
        clear hK hd e8
        clear hG
        go_simp
        exact HK.out _ _ (Below.refl _ _) HG.out rfl
      · intro vs wx hG hd K hK
        have e9 : vs 9 = .bool true := hd.get (j := 9) (by simp [depsOf, Region.binds])
        replace hK : ∀ (uu : Value) (w' : World), Below wx.heap.size wx w' → ((Gp w A cap B cap2 c x y z w4.heap.size w5.heap.size g)) w' → Pv.holds (.v (.slice A c.length cap)) uu w' → K _ w' := hK
        simp only [Act.put, List.setIfInBounds_toArray, List.set_cons_zero, List.set_cons_succ, e9] at hK ⊢
        have HK := Lib.hid hK
        have HG := Lib.hid hG
        clear hK hd e9
        clear hG
        go_simp
        exact HK.out _ _ (Below.refl _ _) HG.out rfl
      · intro vs wx hG hd K hK
        have e9 : vs 9 = .bool true := hd.get (j := 9) (by simp [depsOf, Region.binds])
        replace hK : ∀ (uu : Value) (w' : World), Below wx.heap.size wx w' → ((Gp w A cap B cap2 c x y z w4.heap.size w5.heap.size g)) w' → Pv.holds (.v (.agg #[.int .i64 x, .int .u32 y, .int .u32 z])) uu w' → K _ w' := hK
        simp only [Act.put, List.setIfInBounds_toArray, List.set_cons_zero, List.set_cons_succ, e9] at hK ⊢
        have HK := Lib.hid hK
        have HG := Lib.hid hG
        clear hK hd e9
        obtain ⟨_, s0, s1, s2, ⟨a0, a1, a2, a3, a4, a5⟩, ⟨b0, b1, b2, b3, b4, b5⟩⟩ := hG
        go_simp
        exact HK.out _ _ (Below.refl _ _) HG.out rfl
      · intro vs wx hG hd K hK
        have e9 : vs 9 = .bool true := hd.get (j := 9) (by simp [depsOf, Region.binds])
        have e11 : vs 11 = .agg #[.int .i64 x, .int .u32 y, .int .u32 z] := hd.get (j := 11) (by simp [depsOf, Region.binds])
        replace hK : ∀ (uu : Value) (w' : World), Below wx.heap.size wx w' → ((Gp w A cap B cap2 c x y z w4.heap.size w5.heap.size g)) w' → Pv.holds (.v (.agg #[.int .i64 x, .int .u32 y, .int .u32 z])) uu w' → K _ w' := hK
        simp only [Act.put, List.setIfInBounds_toArray, List.set_cons_zero, List.set_cons_succ, e9, e11] at hK ⊢
        have HK := Lib.hid hK
        have HG := Lib.hid hG
        clear hK hd e9 e11
        clear hG
        go_simp
        go_at_call 14
        refine (to_any x y z _).mono ?_
        rintro e w1 ⟨rfl, hb⟩
        exact HK.out _ _ hb (HG.out.below hb) rfl
      · intro vs wx hG hd K hK
        have e9 : vs 9 = .bool true := hd.get (j := 9) (by simp [depsOf, Region.binds])
        have e10 : vs 10 = .slice A c.length cap := hd.get (j := 10) (by simp [depsOf, Region.binds])
        have e12 : vs 12 = .agg #[.int .i64 x, .int .u32 y, .int .u32 z] := hd.get (j := 12) (by simp [depsOf, Region.binds])
        replace hK : ∀ (uu : Value) (w' : World), Below wx.heap.size wx w' → ((Gp w A cap B cap2 c x y z w4.heap.size w5.heap.size g)) w' → Pv.holds (.s D) uu w' → K _ w' := hK
        simp only [Act.put, List.setIfInBounds_toArray, List.set_cons_zero, List.set_cons_succ, e9, e10, e12] at hK ⊢
        have HK := Lib.hid hK
        have HG := Lib.hid hG
        clear hK hd e9 e10 e12
        clear hG
        go_simp
        go_at_call 19
        refine (HCU.out _ HG.out.m).mono ?_
        rintro e w1 ⟨A3, c3, rfl, s3, hb, _⟩
        exact HK.out _ _ hb (HG.out.below hb) ⟨A3, c3, rfl, ⟨s3⟩⟩
      · intro vs wx hG hd K hK
        have e9 : vs 9 = .bool true := hd.get (j := 9) (by simp [depsOf, Region.binds])
        obtain ⟨A13, c13, e13, q13⟩ : ∃ Aq cq, vs 13 = .slice Aq D.length cq ∧ Cw wx Aq cq D := hd.get (j := 13) (by simp [depsOf, Region.binds])
        replace hK : ∀ (uu : Value) (w' : World), Below wx.heap.size wx w' → ((Gp w A cap B cap2 c x y z w4.heap.size w5.heap.size g)) w' → Pv.holds (.s D) uu w' → K _ w' := hK
        simp only [Act.put, List.setIfInBounds_toArray, List.set_cons_zero, List.set_cons_succ, e9, e13] at hK ⊢
        have HK := Lib.hid hK
        have HG := Lib.hid hG
        clear hK hd e9 e13
        clear hG
        go_simp
        go_at_call 18
        refine (back_any q13.sr (Nat.le_refl _) (by omega)).mono ?_
        rintro e w1 ⟨A3, c3, rfl, s3, hb⟩
        exact HK.out _ _ hb (HG.out.below hb) ⟨A3, c3, rfl, ⟨(s3.sr encV_len).1⟩⟩
      · intro vs wx hG hd K hK
        have e9 : vs 9 = .bool true := hd.get (j := 9) (by simp [depsOf, Region.binds])
        replace hK : ∀ (uu : Value) (w' : World), Below wx.heap.size wx w' → ((Gp w A cap B cap2 c x y z w4.heap.size w5.heap.size g)) w' → Pv.holds (.v (.slice B c.length cap2)) uu w' → K _ w' := hK
        simp only [Act.put, List.setIfInBounds_toArray, List.set_cons_zero, List.set_cons_succ, e9] at hK ⊢
        have HK := Lib.hid hK
        have HG := Lib.hid hG
        clear hK hd e9
        clear hG
        go_simp
        exact HK.out _ _ (Below.refl _ _) HG.out rfl
      · intro vs wx hG hd K hK
        have e9 : vs 9 = .bool true := hd.get (j := 9) (by simp [depsOf, Region.binds])
        replace hK : ∀ (uu : Value) (w' : World), Below wx.heap.size wx w' → ((Gp w A cap B cap2 c x y z w4.heap.size w5.heap.size g)) w' → Pv.holds (.v (.agg #[.int .i64 x, .int .u32 y, .int .u32 z])) uu w' → K _ w' := hK
        simp only [Act.put, List.setIfInBounds_toArray, List.set_cons_zero, List.set_cons_succ, e9] at hK ⊢
        have HK := Lib.hid hK
        have HG := Lib.hid hG
        clear hK hd e9
        obtain ⟨_, s0, s1, s2, ⟨a0, a1, a2, a3, a4, a5⟩, ⟨b0, b1, b2, b3, b4, b5⟩⟩ := hG
        go_simp
        exact HK.out _ _ (Below.refl _ _) HG.out rfl
      · intro vs wx hG hd K hK
        have e9 : vs 9 = .bool true := hd.get (j := 9) (by simp [depsOf, Region.binds])
        have e15 : vs 15 = .slice B c.length cap2 := hd.get (j := 15) (by simp [depsOf, Region.binds])
        have e16 : vs 16 = .agg #[.int .i64 x, .int .u32 y, .int .u32 z] := hd.get (j := 16) (by simp [depsOf, Region.binds])
        replace hK : ∀ (uu : Value) (w' : World), Below wx.heap.size wx w' → ((Gp w A cap B cap2 c x y z w4.heap.size w5.heap.size g)) w' → Pv.holds (.s D) uu w' → K _ w' := hK
        simp only [Act.put, List.setIfInBounds_toArray, List.set_cons_zero, List.set_cons_succ, e9, e15, e16] at hK ⊢
        have HK := Lib.hid hK
        have HG := Lib.hid hG
        clear hK hd e9 e15 e16
        clear hG
        go_simp
        go_at_call 20
        refine (HRC.out _ HG.out.m).mono ?_
        rintro e w1 ⟨A3, c3, rfl, s3, hb, _⟩
        exact HK.out _ _ hb (HG.out.below hb) ⟨A3, c3, rfl, ⟨s3⟩⟩
      · intro vs wx hG hd K hK
        have e9 : vs 9 = .bool true := hd.get (j := 9) (by simp [depsOf, Region.binds])
        obtain ⟨A14, c14, e14, q14⟩ : ∃ Aq cq, vs 14 = .slice Aq D.length cq ∧ Cw wx Aq cq D := hd.get (j := 14) (by simp [depsOf, Region.binds])
        obtain ⟨A17, c17, e17, q17⟩ : ∃ Aq cq, vs 17 = .slice Aq D.length cq ∧ Cw wx Aq cq D := hd.get (j := 17) (by simp [depsOf, Region.binds])
        replace hK : ∀ (uu : Value) (w' : World), Below wx.heap.size wx w' → ((Gp w A cap B cap2 c x y z w4.heap.size w5.heap.size g)) w' → Pv.holds (.v (.bool true)) uu w' → K _ w' := hK
        simp only [Act.put, List.setIfInBounds_toArray, List.set_cons_zero, List.set_cons_succ, e9, e14, e17] at hK ⊢
        have HK := Lib.hid hK
        have HG := Lib.hid hG
        clear hK hd e9 e14 e17
        clear hG
        go_simp
        go_at_call 17
        refine (same_any q14.sr q17.sr (Nat.le_refl _)).mono ?_
        rintro e w1 ⟨rfl, hb⟩
        exact HK.out _ _ hb (HG.out.below hb) rfl
      · intro vs wx hG hd K hK
        have e9 : vs 9 = .bool true := hd.get (j := 9) (by simp [depsOf, Region.binds])
        have e18 : vs 18 = .bool true := hd.get (j := 18) (by simp [depsOf, Region.binds])
        replace hK : ∀ (uu : Value) (w' : World), Below wx.heap.size wx w' → ((Gp w A cap B cap2 c x y z w4.heap.size w5.heap.size g)) w' → Pv.holds (.v (.bool true)) uu w' → K _ w' := hK
        simp only [Act.put, List.setIfInBounds_toArray, List.set_cons_zero, List.set_cons_succ, e9, e18] at hK ⊢
        have HK := Lib.hid hK
        have HG := Lib.hid hG
        clear hK hd e9 e18
        clear hG
        go_simp
        exact HK.out _ _ (Below.refl _ _) HG.out rfl
      · intro vs wx hG hd K hK
        have e19 : vs 19 = .bool true := hd.get (j := 19) (by simp [depsOf, Region.binds])
        replace hK : ∀ (uu : Value) (w' : World), Below wx.heap.size wx w' → ((Gp w A cap B cap2 c x y z w4.heap.size w5.heap.size g)) w' → Pv.holds (.v (.bool true)) uu w' → K _ w' := hK
        simp only [Act.put, List.setIfInBounds_toArray, List.set_cons_zero, List.set_cons_succ, e19] at hK ⊢
        have HK := Lib.hid hK
        have HG := Lib.hid hG
        clear hK hd e19
        clear hG
        go_simp
        exact HK.out _ _ (Below.refl _ _) HG.out rfl
      · intro vs wx hG hd K hK
        have e20 : vs 20 = .bool true := hd.get (j := 20) (by simp [depsOf, Region.binds])
        replace hK : ∀ (uu : Value) (w' : World), Below wx.heap.size wx w' → ((Gp w A cap B cap2 c x y z w4.heap.size w5.heap.size g)) w' → Pv.holds (.v (.slice A c.length cap)) uu w' → K _ w' := hK
        simp only [Act.put, List.setIfInBounds_toArray, List.set_cons_zero, List.set_cons_succ, e20] at hK ⊢
        have HK := Lib.hid hK
        have HG := Lib.hid hG
        clear hK hd e20
        clear hG
        go_simp
        exact HK.out _ _ (Below.refl _ _) HG.out rfl
      · intro vs wx hG hd K hK
        have e20 : vs 20 = .bool true := hd.get (j := 20) (by simp [depsOf, Region.binds])
        have e21 : vs 21 = .slice A c.length cap := hd.get (j := 21) (by simp [depsOf, Region.binds])
        replace hK : ∀ (uu : Value) (w' : World), Below wx.heap.size wx w' → ((Gp w A cap B cap2 c x y z w4.heap.size w5.heap.size g)) w' → Pv.holds (.s c) uu w' → K _ w' := hK
        simp only [Act.put, List.setIfInBounds_toArray, List.set_cons_zero, List.set_cons_succ, e20, e21] at hK ⊢
        have HK := Lib.hid hK
        have HG := Lib.hid hG
        clear hK hd e20 e21
        clear hG
        go_simp
        go_at_call 18
        refine (back_any HG.out.m.s1 (Nat.le_refl _) (by omega)).mono ?_
        rintro e w1 ⟨A3, c3, rfl, s3, hb⟩
        exact HK.out _ _ hb (HG.out.below hb) ⟨A3, c3, rfl, ⟨(s3.sr encV_len).1⟩⟩
      · intro vs wx hG hd K hK
        have e20 : vs 20 = .bool true := hd.get (j := 20) (by simp [depsOf, Region.binds])
        replace hK : ∀ (uu : Value) (w' : World), Below wx.heap.size wx w' → ((Gp w A cap B cap2 c x y z w4.heap.size w5.heap.size g)) w' → Pv.holds (.v (.slice B c.length cap2)) uu w' → K _ w' := hK
        simp only [Act.put, List.setIfInBounds_toArray, List.set_cons_zero, List.set_cons_succ, e20] at hK ⊢
        have HK := Lib.hid hK
        have HG := Lib.hid hG
        clear hK hd e20
        clear hG
        go_simp
        exact HK.out _ _ (Below.refl _ _) HG.out rfl
      · intro vs wx hG hd K hK
        have e20 : vs 20 = .bool true := hd.get (j := 20) (by simp [depsOf, Region.binds])
        obtain ⟨A22, c22, e22, q22⟩ : ∃ Aq cq, vs 22 = .slice Aq c.length cq ∧ Cw wx Aq cq c := hd.get (j := 22) (by simp [depsOf, Region.binds])
        have e23 : vs 23 = .slice B c.length cap2 := hd.get (j := 23) (by simp [depsOf, Region.binds])
        replace hK : ∀ (uu : Value) (w' : World), Below wx.heap.size wx w' → ((Gp w A cap B cap2 c x y z w4.heap.size w5.heap.size g)) w' → Pv.holds (.v (.bool true)) uu w' → K _ w' := hK
        simp only [Act.put, List.setIfInBounds_toArray, List.set_cons_zero, List.set_cons_succ, e20, e22, e23] at hK ⊢
        have HK := Lib.hid hK
        have HG := Lib.hid hG
        clear hK hd e20 e22 e23
        clear hG
        go_simp
        go_at_call 17
        refine (same_any q22.sr HG.out.m.s2 (Nat.le_refl _)).mono ?_
        rintro e w1 ⟨rfl, hb⟩
        exact HK.out _ _ hb (HG.out.below hb) rfl
      · intro vs wx hG hd K hK
        have e20 : vs 20 = .bool true := hd.get (j := 20) (by simp [depsOf, Region.binds])
        have e24 : vs 24 = .bool true := hd.get (j := 24) (by simp [depsOf, Region.binds])
        replace hK : ∀ (uu : Value) (w' : World), Below wx.heap.size wx w' → ((Gp w A cap B cap2 c x y z w4.heap.size w5.heap.size g)) w' → Pv.holds (.v (.bool true)) uu w' → K _ w' := hK
        simp only [Act.put, List.setIfInBounds_toArray, List.set_cons_zero, List.set_cons_succ, e20, e24] at hK ⊢
        have HK := Lib.hid hK
        have HG := Lib.hid hG
        clear hK hd e20 e24
        clear hG
        go_simp
        exact HK.out _ _ (Below.refl _ _) HG.out rfl
      · intro vs wx hG hd K hK
        have e25 : vs 25 = .bool true := hd.get (j := 25) (by simp [depsOf, Region.binds])
        replace hK : ∀ (uu : Value) (w' : World), Below wx.heap.size wx w' → ((Gp w A cap B cap2 c x y z w4.heap.size w5.heap.size g)) w' → Pv.holds (.v (.bool true)) uu w' → K _ w' := hK
        simp only [Act.put, List.setIfInBounds_toArray, List.set_cons_zero, List.set_cons_succ, e25] at hK ⊢
        have HK := Lib.hid hK
        have HG := Lib.hid hG
        clear hK hd e25
        clear hG
        go_simp
        exact HK.out _ _ (Below.refl _ _) HG.out rfl
    case hend =>
      intro vs wy hG hv
      have e26 : vs 26 = .bool true := hv 26 (by simp)
      simp only [e26]
      have HF := hG.m.bel
      clear hG hv e26
      go_wp2
      go_ret
      exact ⟨rfl, HF⟩
end Go.Proofs.Ytbeclajbpfglgaa
