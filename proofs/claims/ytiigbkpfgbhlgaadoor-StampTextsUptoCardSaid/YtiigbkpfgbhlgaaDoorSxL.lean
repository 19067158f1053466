/- StampTexts: its walk. -/
import Derived.Test.YtiigbkpfgbhlgaaDoorSxY
import Derived.Test.YtiigbkpfgbhlgaaDoorSxZ2
import Derived.Test.YtiigbkpfgbhlgaaDoorSxQ
namespace Go.Proofs.YtiigbkpfgbhlgaaDoor
open Go.RowKit

/-- The call's own memory so far: the library's variables, the stamp in its box. -/
structure Ev (w : World) (a : Int) (y z : Nat) (wr : World) : Prop where
  mx : MxS wr
  er : Errs wr
  pw : Pow wr
  c0 : wr.cell? ⟨w.heap.size, 0, none⟩ = some (.int .i64 a)
  c1 : wr.cell? ⟨w.heap.size, 1, none⟩ = some (.int .u32 (y : Int))
  c2 : wr.cell? ⟨w.heap.size, 2, none⟩ = some (.int .u32 (z : Int))
  bel : Below w.heap.size w wr
theorem Ev.below {w : World} {a : Int} {y z : Nat} {wr w' : World} (h : Ev w a y z wr) (hb : Below wr.heap.size wr w') : Ev w a y z w' :=
  ⟨h.mx.below hb, h.er.below hb, h.pw.below hb, kept hb h.c0, kept hb h.c1, kept hb h.c2, h.bel.trans (hb.mono h.bel.size)⟩
theorem Ev.alloc {w : World} {a : Int} {y z : Nat} {wr : World} (h : Ev w a y z wr) (o : Obj) : Ev w a y z (wr.alloc o) := h.below ((Below.refl _ _).alloc (Nat.le_refl _) o)
theorem Ev.drew {w : World} {a : Int} {y z : Nat} {wr : World} (h : Ev w a y z wr) : Ev w a y z wr.drew := h.below ⟨rfl, rfl, rfl, Nat.le_refl _, fun _ _ => rfl⟩
/-- Three numbers in a box. -/
structure C3 (wr : World) (b : Nat) (p q r : Int) : Prop where
  c0 : wr.cell? ⟨b, 0, none⟩ = some (.int .i64 p)
  c1 : wr.cell? ⟨b, 1, none⟩ = some (.int .u32 q)
  c2 : wr.cell? ⟨b, 2, none⟩ = some (.int .u32 r)
theorem C3.below {wr w' : World} {b : Nat} {p q r : Int} (h : C3 wr b p q r) (hb : Below wr.heap.size wr w') : C3 w' b p q r := ⟨kept hb h.c0, kept hb h.c1, kept hb h.c2⟩
theorem C3.start (wr : World) (T : TypeId) (p q r : Int) : C3 (wr.alloc (.cells #[.int .i64 p, .int .u32 q, .int .u32 r] T)) wr.heap.size p q r := ⟨by simp [go_sem], by simp [go_sem], by simp [go_sem]⟩
theorem C3.drew {wr : World} {b : Nat} {p q r : Int} (h : C3 wr b p q r) : C3 wr.drew b p q r := ⟨h.c0, h.c1, h.c2⟩
structure G4 (w : World) (a : Int) (y z : Nat) (bn bm : Nat) (p q r : Int) (wx : World) : Prop where
  ev : Ev w a y z wx
  n : C3 wx bn p q r
  m : C3 wx bm p q r
theorem G4.below {w : World} {a : Int} {y z bn bm : Nat} {p q r : Int} {wx w' : World} (h : G4 w a y z bn bm p q r wx) (hb : Below wx.heap.size wx w') : G4 w a y z bn bm p q r w' := ⟨h.ev.below hb, h.n.below hb, h.m.below hb⟩
structure G7 (w : World) (a : Int) (y z : Nat) (bk : Nat) (p q r : Int) (wx : World) : Prop where
  ev : Ev w a y z wx
  k : C3 wx bk p q r
theorem G7.below {w : World} {a : Int} {y z bk : Nat} {p q r : Int} {wx w' : World} (h : G7 w a y z bk p q r wx) (hb : Below wx.heap.size wx w') : G7 w a y z bk p q r w' := ⟨h.ev.below hb, h.k.below hb⟩
/-- Both Parses tell one thing. -/
theorem one_answer {w w1 w2 w3 : World} {t : List UInt8} {e f : Ending} (h : ParsePost w t e w1) (k : DocPost w2 t f w3) :
    ∃ (p q r er : Int), e = .returned (.tuple #[stv p q r, .int .i64 er]) ∧ f = .returned (.tuple #[stv p q r, .int .i64 er]) := by
  obtain ⟨_, ⟨a, b, c, hr, he⟩ | ⟨hn, he⟩⟩ := h
  · obtain ⟨_, ⟨a', b', c', hr', he'⟩ | ⟨hn', _⟩⟩ := k
    · obtain ⟨rfl, rfl, rfl⟩ := hr.inj hr'
      exact ⟨a, b, c, 0, he, he'⟩
    · exact absurd hr (hn' a b c)
  · obtain ⟨_, ⟨a', b', c', hr', _⟩ | ⟨_, he'⟩⟩ := k
    · exact absurd hr' (hn a' b' c')
    · exact ⟨0, 0, 0, 10, he, he'⟩
set_option maxRecDepth 100000 in
set_option maxHeartbeats 6400000 in
theorem stexts_any (a : Int) (y z : Nat) (t : ByteArray) (w : World) (ha : -9223372036854775808 ≤ a ∧ a ≤ 9223372036854775807) (hy : y ≤ 4294967295) (hz : z ≤ 4294967295) (hs : t.size ≤ 1048576) (hm : MxS w) (he : Errs w) (hpw : Pow w) :
    Calls Tryd.prog 3 #[.agg #[.int .i64 a, .int .u32 (y : Int), .int .u32 (z : Int)], .string t] w fun e w' => e = .returned (.bool true) ∧ Below w.heap.size w w' := by
  have HT := Lib.hid (fun W (h : Pow W) => text_any a y z W ha (by omega) (by omega) h)
  have HR := Lib.hid (fun W => rtext_any a y z W ha hy hz)
  have HPa := Lib.hid (fun W (h : Ev w a y z W) => parse_any t W hs h.mx h.er h.pw)
  have HRp := Lib.hid (fun W => rparse_any t W hs)
  have hxs : (strB (sttextB a y z)).size ≤ 1048576 := by
    have l0 := itoa_len ha.1 ha.2
    have l1 := itoa_len (n := (y : Int)) (by omega) (by omega)
    have l2 := itoa_len (n := (z : Int)) (by omega) (by omega)
    rw [strB_size]
    unfold sttextB
    simp only [List.length_append, List.length_cons]
    omega
  have HPb := Lib.hid (fun W (h : Ev w a y z W) => parse_any (strB (sttextB a y z)) W hxs h.mx h.er h.pw)
  have HRd : Hid (rightB a = true → Reads (strB (sttextB a y z)).data.toList a.toNat y z) := Lib.hid (fun h => by
    unfold rightB at h
    have h := of_decide_eq_true h
    have := reads_of (t := strB (sttextB a y z)) (x0 := a) (y := y) (z := z) h (by omega) (by omega) rfl
    simpa using this)
  have HA0 : Hid (rightB a = true → 0 ≤ a) := Lib.hid (fun h => by unfold rightB at h; exact (of_decide_eq_true h).1)
  have HEv : Hid (Ev w a y z (w.alloc (.cells #[.int .i64 a, .int .u32 (y : Int), .int .u32 (z : Int)] 24))) := Lib.hid ⟨hm.below ((Below.refl _ _).alloc (Nat.le_refl _) _), he.below ((Below.refl _ _).alloc (Nat.le_refl _) _), hpw.below ((Below.refl _ _).alloc (Nat.le_refl _) _), by simp [go_sem], by simp [go_sem], by simp [go_sem], by go_grown⟩
  unfold Str1 at HT HR
  generalize strB (sttextB a y z) = X at *
  have HRr := Lib.hid (fun W => rright_any a (y : Int) (z : Int) W)
  clear hxs hs hm he hpw
  go_enter Tryd.func3, Tryd.ntmps3
  go_wp2_with fail
  refine (stto_any _ _ _ _).mono ?_
  rintro e w1 ⟨rfl, hb⟩
  have HE1 := Lib.hid (HEv.out.below hb)
  clear hb HEv
  go_wp2_with fail
  refine (HT.out _ HE1.out.pw).mono ?_
  rintro e w2 ⟨rfl, hb⟩
  have HE2 := Lib.hid (HE1.out.below hb)
  clear hb HE1 HT
  go_wp2_with fail
  refine (HPa.out _ HE2.out).mono ?_
  rintro e w3 hp3
  have HP3 := Lib.hid hp3
  have hb3 := hp3.1
  obtain ⟨p, q, r, er, hep⟩ : ∃ (p q r er : Int), e = .returned (.tuple #[stv p q r, .int .i64 er]) := by
    obtain ⟨_, ⟨a, b, c, _, he⟩ | ⟨_, he⟩⟩ := hp3
    · exact ⟨a, b, c, 0, he⟩
    · exact ⟨0, 0, 0, 10, he⟩
  subst hep
  have HE3 := Lib.hid (HE2.out.below hb3)
  clear hp3 hb3 HE2 HPa
  have HE4 := Lib.hid (HE3.out.alloc (.cells #[.int .i64 p, .int .u32 q, .int .u32 r] 26))
  have HN4 := Lib.hid (C3.start w3 26 p q r)
  go_wp2_with fail
  refine (HRp.out _).mono ?_
  rintro e w5 hp5
  have hb5 := hp5.1
  obtain ⟨p', q', r', er', h1, h2⟩ := one_answer HP3.out hp5
  injection h1 with h1
  injection h1 with h1
  injection h1 with h1
  simp at h1
  obtain ⟨⟨rfl, rfl, rfl⟩, rfl⟩ := h1
  subst h2
  have HE5 := Lib.hid (HE4.out.below hb5)
  have HN5 := Lib.hid (HN4.out.below hb5)
  have HZ5 : Hid (w3.heap.size < w5.heap.size) := Lib.hid (by have := hb5.size; simp at this; omega)
  clear hp5 hb5 HP3 HE4 HN4 HRp HE3
  have HE6 := Lib.hid (HE5.out.alloc (.cells #[.int .i64 p, .int .u32 q, .int .u32 r] 24))
  have HN6 := Lib.hid (HN5.out.below ((Below.refl _ _).alloc (Nat.le_refl _) (.cells #[.int .i64 p, .int .u32 q, .int .u32 r] 24)))
  have HM6 := Lib.hid (C3.start w5 24 p q r)
  go_upto_region 4 with fail
  obtain ⟨W, hW⟩ : ∃ W, W = w5.alloc (.cells #[.int .i64 p, .int .u32 q, .int .u32 r] 24) := ⟨_, rfl⟩
  rw [← hW] at HE6 HN6 HM6 ⊢
  clear hW HE5 HN5 HZ5
  generalize w3.heap.size = bn at *
  generalize w5.heap.size = bm at *
  apply region_V eqV (G4 w a y z bn bm p q r) [.string X, stv a (y : Int) (z : Int), .string X, .bool false, .bool false, .int .i64 er, .int .i64 er, .bool false, .bool false, .bool false, stv p q r, stv p q r, stv p q r, .bool false, .bool false] (undef)
  case mono => exact fun p v w w1 h hb => h
  case hm => kernel_rfl
  case hf => kernel_rfl
  case hQ => exact (by intro c x y w e h; exact And.intro (e.symm.trans (And.left h)) (And.right h))
  case hF => intro vs; simp only [putAll, Act.put, List.setIfInBounds_toArray, List.set_cons_zero, List.set_cons_succ, Nat.reduceAdd]; rfl
  case h0 => exact ⟨HE6.out.drew, HN6.out.drew, HM6.out.drew⟩
  case hstep =>
    repeat' (first | exact AllOps.nil | apply AllOps.cons)
    · intro vs wx hG hd K hK
      replace hK : ∀ (uu : Value) (w' : World), Below wx.heap.size wx w' → ((G4 w a y z bn bm p q r)) w' → eqV (.string X) uu w' → K _ w' := hK
      simp only [Act.put, List.setIfInBounds_toArray, List.set_cons_zero, List.set_cons_succ] at hK ⊢
      have HK := Lib.hid hK
      have HG := Lib.hid hG
      clear hK hd
      clear hG
      go_simp
      exact HK.out _ _ (Below.refl _ _) HG.out rfl
    · intro vs wx hG hd K hK
      replace hK : ∀ (uu : Value) (w' : World), Below wx.heap.size wx w' → ((G4 w a y z bn bm p q r)) w' → eqV (stv a (y : Int) (z : Int)) uu w' → K _ w' := hK
      simp only [Act.put, List.setIfInBounds_toArray, List.set_cons_zero, List.set_cons_succ] at hK ⊢
      have HK := Lib.hid hK
      have HG := Lib.hid hG
      clear hK hd
      have g0 := HG.out.ev.c0
      have g1 := HG.out.ev.c1
      have g2 := HG.out.ev.c2
      have g3 := HG.out.n.c0
      have g4 := HG.out.n.c1
      have g5 := HG.out.n.c2
      have g6 := HG.out.m.c0
      have g7 := HG.out.m.c1
      have g8 := HG.out.m.c2
      clear hG
      go_simp
      exact HK.out _ _ (Below.refl _ _) HG.out rfl
    · intro vs wx hG hd K hK
      have e1 : vs 1 = stv a (y : Int) (z : Int) := hd.get (j := 1) (by simp [depsOf, Region.binds])
      replace hK : ∀ (uu : Value) (w' : World), Below wx.heap.size wx w' → ((G4 w a y z bn bm p q r)) w' → eqV (.string X) uu w' → K _ w' := hK
      simp only [Act.put, List.setIfInBounds_toArray, List.set_cons_zero, List.set_cons_succ, e1] at hK ⊢
      have HK := Lib.hid hK
      have HG := Lib.hid hG
      clear hK hd e1
      clear hG
      go_simp
      go_at_call 8
      refine (HR.out _).mono ?_
      rintro e w1 ⟨rfl, hb⟩
      exact HK.out _ _ hb (HG.out.below hb) rfl
    · intro vs wx hG hd K hK
      have e0 : vs 0 = .string X := hd.get (j := 0) (by simp [depsOf, Region.binds])
      have e2 : vs 2 = .string X := hd.get (j := 2) (by simp [depsOf, Region.binds])
      replace hK : ∀ (uu : Value) (w' : World), Below wx.heap.size wx w' → ((G4 w a y z bn bm p q r)) w' → eqV (.bool false) uu w' → K _ w' := hK
      simp only [Act.put, List.setIfInBounds_toArray, List.set_cons_zero, List.set_cons_succ, e0, e2] at hK ⊢
      have HK := Lib.hid hK
      have HG := Lib.hid hG
      clear hK hd e0 e2
      clear hG
      go_simp
      exact HK.out _ _ (Below.refl _ _) HG.out rfl
    · intro vs wx hG hd K hK
      have e3 : vs 3 = .bool false := hd.get (j := 3) (by simp [depsOf, Region.binds])
      replace hK : ∀ (uu : Value) (w' : World), Below wx.heap.size wx w' → ((G4 w a y z bn bm p q r)) w' → eqV (.bool false) uu w' → K _ w' := hK
      simp only [Act.put, List.setIfInBounds_toArray, List.set_cons_zero, List.set_cons_succ, e3] at hK ⊢
      have HK := Lib.hid hK
      have HG := Lib.hid hG
      clear hK hd e3
      clear hG
      go_simp
      exact HK.out _ _ (Below.refl _ _) HG.out rfl
    · intro vs wx hG hd K hK
      have e4 : vs 4 = .bool false := hd.get (j := 4) (by simp [depsOf, Region.binds])
      replace hK : ∀ (uu : Value) (w' : World), Below wx.heap.size wx w' → ((G4 w a y z bn bm p q r)) w' → eqV (.int .i64 er) uu w' → K _ w' := hK
      simp only [Act.put, List.setIfInBounds_toArray, List.set_cons_zero, List.set_cons_succ, e4] at hK ⊢
      have HK := Lib.hid hK
      have HG := Lib.hid hG
      clear hK hd e4
      clear hG
      go_simp
      exact HK.out _ _ (Below.refl _ _) HG.out rfl
    · intro vs wx hG hd K hK
      have e4 : vs 4 = .bool false := hd.get (j := 4) (by simp [depsOf, Region.binds])
      replace hK : ∀ (uu : Value) (w' : World), Below wx.heap.size wx w' → ((G4 w a y z bn bm p q r)) w' → eqV (.int .i64 er) uu w' → K _ w' := hK
      simp only [Act.put, List.setIfInBounds_toArray, List.set_cons_zero, List.set_cons_succ, e4] at hK ⊢
      have HK := Lib.hid hK
      have HG := Lib.hid hG
      clear hK hd e4
      clear hG
      go_simp
      exact HK.out _ _ (Below.refl _ _) HG.out rfl
    · intro vs wx hG hd K hK
      have e4 : vs 4 = .bool false := hd.get (j := 4) (by simp [depsOf, Region.binds])
      have e5 : vs 5 = .int .i64 er := hd.get (j := 5) (by simp [depsOf, Region.binds])
      have e6 : vs 6 = .int .i64 er := hd.get (j := 6) (by simp [depsOf, Region.binds])
      replace hK : ∀ (uu : Value) (w' : World), Below wx.heap.size wx w' → ((G4 w a y z bn bm p q r)) w' → eqV (.bool false) uu w' → K _ w' := hK
      simp only [Act.put, List.setIfInBounds_toArray, List.set_cons_zero, List.set_cons_succ, e4, e5, e6] at hK ⊢
      have HK := Lib.hid hK
      have HG := Lib.hid hG
      clear hK hd e4 e5 e6
      clear hG
      go_simp
      exact HK.out _ _ (Below.refl _ _) HG.out rfl
    · intro vs wx hG hd K hK
      have e4 : vs 4 = .bool false := hd.get (j := 4) (by simp [depsOf, Region.binds])
      have e7 : vs 7 = .bool false := hd.get (j := 7) (by simp [depsOf, Region.binds])
      replace hK : ∀ (uu : Value) (w' : World), Below wx.heap.size wx w' → ((G4 w a y z bn bm p q r)) w' → eqV (.bool false) uu w' → K _ w' := hK
      simp only [Act.put, List.setIfInBounds_toArray, List.set_cons_zero, List.set_cons_succ, e4, e7] at hK ⊢
      have HK := Lib.hid hK
      have HG := Lib.hid hG
      clear hK hd e4 e7
      clear hG
      go_simp
      exact HK.out _ _ (Below.refl _ _) HG.out rfl
    · intro vs wx hG hd K hK
      have e8 : vs 8 = .bool false := hd.get (j := 8) (by simp [depsOf, Region.binds])
      replace hK : ∀ (uu : Value) (w' : World), Below wx.heap.size wx w' → ((G4 w a y z bn bm p q r)) w' → eqV (.bool false) uu w' → K _ w' := hK
      simp only [Act.put, List.setIfInBounds_toArray, List.set_cons_zero, List.set_cons_succ, e8] at hK ⊢
      have HK := Lib.hid hK
      have HG := Lib.hid hG
      clear hK hd e8
      clear hG
      go_simp
      exact HK.out _ _ (Below.refl _ _) HG.out rfl
    · intro vs wx hG hd K hK
      have e9 : vs 9 = .bool false := hd.get (j := 9) (by simp [depsOf, Region.binds])
      replace hK : ∀ (uu : Value) (w' : World), Below wx.heap.size wx w' → ((G4 w a y z bn bm p q r)) w' → eqV (stv p q r) uu w' → K _ w' := hK
      simp only [Act.put, List.setIfInBounds_toArray, List.set_cons_zero, List.set_cons_succ, e9] at hK ⊢
      have HK := Lib.hid hK
      have HG := Lib.hid hG
      clear hK hd e9
      have g0 := HG.out.ev.c0
      have g1 := HG.out.ev.c1
      have g2 := HG.out.ev.c2
      have g3 := HG.out.n.c0
      have g4 := HG.out.n.c1
      have g5 := HG.out.n.c2
      have g6 := HG.out.m.c0
      have g7 := HG.out.m.c1
      have g8 := HG.out.m.c2
      clear hG
      go_simp
      exact HK.out _ _ (Below.refl _ _) HG.out rfl
    · intro vs wx hG hd K hK
      have e9 : vs 9 = .bool false := hd.get (j := 9) (by simp [depsOf, Region.binds])
      have e10 : vs 10 = stv p q r := hd.get (j := 10) (by simp [depsOf, Region.binds])
      replace hK : ∀ (uu : Value) (w' : World), Below wx.heap.size wx w' → ((G4 w a y z bn bm p q r)) w' → eqV (stv p q r) uu w' → K _ w' := hK
      simp only [Act.put, List.setIfInBounds_toArray, List.set_cons_zero, List.set_cons_succ, e9, e10] at hK ⊢
      have HK := Lib.hid hK
      have HG := Lib.hid hG
      clear hK hd e9 e10
      clear hG
      go_simp
      go_at_call 9
      refine (stfrom_any _ _ _ _).mono ?_
      rintro e w1 ⟨rfl, hb⟩
      exact HK.out _ _ hb (HG.out.below hb) rfl
    · intro vs wx hG hd K hK
      have e9 : vs 9 = .bool false := hd.get (j := 9) (by simp [depsOf, Region.binds])
      replace hK : ∀ (uu : Value) (w' : World), Below wx.heap.size wx w' → ((G4 w a y z bn bm p q r)) w' → eqV (stv p q r) uu w' → K _ w' := hK
      simp only [Act.put, List.setIfInBounds_toArray, List.set_cons_zero, List.set_cons_succ, e9] at hK ⊢
      have HK := Lib.hid hK
      have HG := Lib.hid hG
      clear hK hd e9
      have g0 := HG.out.ev.c0
      have g1 := HG.out.ev.c1
      have g2 := HG.out.ev.c2
      have g3 := HG.out.n.c0
      have g4 := HG.out.n.c1
      have g5 := HG.out.n.c2
      have g6 := HG.out.m.c0
      have g7 := HG.out.m.c1
      have g8 := HG.out.m.c2
      clear hG
      go_simp
      exact HK.out _ _ (Below.refl _ _) HG.out rfl
    · intro vs wx hG hd K hK
      have e9 : vs 9 = .bool false := hd.get (j := 9) (by simp [depsOf, Region.binds])
      have e11 : vs 11 = stv p q r := hd.get (j := 11) (by simp [depsOf, Region.binds])
      have e12 : vs 12 = stv p q r := hd.get (j := 12) (by simp [depsOf, Region.binds])
      replace hK : ∀ (uu : Value) (w' : World), Below wx.heap.size wx w' → ((G4 w a y z bn bm p q r)) w' → eqV (.bool false) uu w' → K _ w' := hK
      simp only [Act.put, List.setIfInBounds_toArray, List.set_cons_zero, List.set_cons_succ, e9, e11, e12] at hK ⊢
      have HK := Lib.hid hK
      have HG := Lib.hid hG
      clear hK hd e9 e11 e12
      clear hG
      go_simp
      exact HK.out _ _ (Below.refl _ _) HG.out rfl
    · intro vs wx hG hd K hK
      have e9 : vs 9 = .bool false := hd.get (j := 9) (by simp [depsOf, Region.binds])
      have e13 : vs 13 = .bool false := hd.get (j := 13) (by simp [depsOf, Region.binds])
      replace hK : ∀ (uu : Value) (w' : World), Below wx.heap.size wx w' → ((G4 w a y z bn bm p q r)) w' → eqV (.bool false) uu w' → K _ w' := hK
      simp only [Act.put, List.setIfInBounds_toArray, List.set_cons_zero, List.set_cons_succ, e9, e13] at hK ⊢
      have HK := Lib.hid hK
      have HG := Lib.hid hG
      clear hK hd e9 e13
      clear hG
      go_simp
      exact HK.out _ _ (Below.refl _ _) HG.out rfl
  case hend =>
    intro vs wx hG hv
    have e14 := hv 14 (by decide)
    replace e14 : vs 14 = .bool false := e14
    rw [e14]
    have HE7 := Lib.hid hG.ev
    clear hv e14 HE6 HN6 HM6 hG
    go_wp2_with fail
    refine (HPb.out _ HE7.out).mono ?_
    rintro e w8 hp8
    have hb8 := hp8.1
    have HE8 := Lib.hid (HE7.out.below hb8)
    cases hri : rightB a with
    | true =>
      have hrd := HRd.out hri
      have ha0 := HA0.out hri
      obtain rfl : e = .returned (.tuple #[stv a (y : Int) (z : Int), .int .i64 0]) := by
        obtain ⟨_, ⟨a', b', c', hr', he'⟩ | ⟨hn, _⟩⟩ := hp8
        · obtain ⟨h1, h2, h3⟩ := hrd.inj hr'
          subst h1 h2 h3
          rw [he', Int.toNat_of_nonneg ha0]
        · exact absurd hrd (hn _ _ _)
      rw [hri] at HRr
      clear hp8 hb8 HE7 hrd ha0 HRd HA0 HPb hri
      have HE9 := Lib.hid (HE8.out.alloc (.cells #[.int .i64 a, .int .u32 (y : Int), .int .u32 (z : Int)] 26))
      have HK9 := Lib.hid (C3.start w8 26 a y z)
      go_upto_region 7 with fail
      obtain ⟨W2, hW2⟩ : ∃ W, W = w8.alloc (.cells #[.int .i64 a, .int .u32 (y : Int), .int .u32 (z : Int)] 26) := ⟨_, rfl⟩
      rw [← hW2] at HE9 HK9 ⊢
      clear hW2 HE8
      generalize w8.heap.size = bk at *
      apply region_V eqV (G7 w a y z bk a (y : Int) (z : Int)) [stv a (y : Int) (z : Int), .bool true, .bool false, .bool false, .int .i64 0, .bool true, .bool true, stv a (y : Int) (z : Int), stv a (y : Int) (z : Int), stv a (y : Int) (z : Int), .bool true, .bool true, .bool true, .bool true] (undef)
      case mono => exact fun p v w w1 h hb => h
      case hm => kernel_rfl
      case hf => kernel_rfl
      case hQ => exact (by intro c x y w e h; exact And.intro (e.symm.trans (And.left h)) (And.right h))
      case hF => intro vs; simp only [putAll, Act.put, List.setIfInBounds_toArray, List.set_cons_zero, List.set_cons_succ, Nat.reduceAdd]; rfl
      case h0 => exact ⟨HE9.out.drew, HK9.out.drew⟩
      case hstep =>
        repeat' (first | exact AllOps.nil | apply AllOps.cons)
        · intro vs wx hG hd K hK
          replace hK : ∀ (uu : Value) (w' : World), Below wx.heap.size wx w' → ((G7 w a y z bk a (y : Int) (z : Int))) w' → eqV (stv a (y : Int) (z : Int)) uu w' → K _ w' := hK
          simp only [Act.put, List.setIfInBounds_toArray, List.set_cons_zero, List.set_cons_succ] at hK ⊢
          have HK := Lib.hid hK
          have HG := Lib.hid hG
          clear hK hd
          have g0 := HG.out.ev.c0
          have g1 := HG.out.ev.c1
          have g2 := HG.out.ev.c2
          have g3 := HG.out.k.c0
          have g4 := HG.out.k.c1
          have g5 := HG.out.k.c2
          clear hG
          go_simp
          exact HK.out _ _ (Below.refl _ _) HG.out rfl
        · intro vs wx hG hd K hK
          have e0 : vs 0 = stv a (y : Int) (z : Int) := hd.get (j := 0) (by simp [depsOf, Region.binds])
          replace hK : ∀ (uu : Value) (w' : World), Below wx.heap.size wx w' → ((G7 w a y z bk a (y : Int) (z : Int))) w' → eqV (.bool true) uu w' → K _ w' := hK
          simp only [Act.put, List.setIfInBounds_toArray, List.set_cons_zero, List.set_cons_succ, e0] at hK ⊢
          have HK := Lib.hid hK
          have HG := Lib.hid hG
          clear hK hd e0
          clear hG
          go_simp
          go_at_call 10
          refine (HRr.out _).mono ?_
          rintro e w1 ⟨rfl, hb⟩
          exact HK.out _ _ hb (HG.out.below hb) rfl
        · intro vs wx hG hd K hK
          have e1 : vs 1 = .bool true := hd.get (j := 1) (by simp [depsOf, Region.binds])
          replace hK : ∀ (uu : Value) (w' : World), Below wx.heap.size wx w' → ((G7 w a y z bk a (y : Int) (z : Int))) w' → eqV (.bool false) uu w' → K _ w' := hK
          simp only [Act.put, List.setIfInBounds_toArray, List.set_cons_zero, List.set_cons_succ, e1] at hK ⊢
          have HK := Lib.hid hK
          have HG := Lib.hid hG
          clear hK hd e1
          clear hG
          go_simp
          exact HK.out _ _ (Below.refl _ _) HG.out rfl
        · intro vs wx hG hd K hK
          have e2 : vs 2 = .bool false := hd.get (j := 2) (by simp [depsOf, Region.binds])
          replace hK : ∀ (uu : Value) (w' : World), Below wx.heap.size wx w' → ((G7 w a y z bk a (y : Int) (z : Int))) w' → eqV (.bool false) uu w' → K _ w' := hK
          simp only [Act.put, List.setIfInBounds_toArray, List.set_cons_zero, List.set_cons_succ, e2] at hK ⊢
          have HK := Lib.hid hK
          have HG := Lib.hid hG
          clear hK hd e2
          clear hG
          go_simp
          exact HK.out _ _ (Below.refl _ _) HG.out rfl
        · intro vs wx hG hd K hK
          have e3 : vs 3 = .bool false := hd.get (j := 3) (by simp [depsOf, Region.binds])
          replace hK : ∀ (uu : Value) (w' : World), Below wx.heap.size wx w' → ((G7 w a y z bk a (y : Int) (z : Int))) w' → eqV (.int .i64 0) uu w' → K _ w' := hK
          simp only [Act.put, List.setIfInBounds_toArray, List.set_cons_zero, List.set_cons_succ, e3] at hK ⊢
          have HK := Lib.hid hK
          have HG := Lib.hid hG
          clear hK hd e3
          clear hG
          go_simp
          exact HK.out _ _ (Below.refl _ _) HG.out rfl
        · intro vs wx hG hd K hK
          have e3 : vs 3 = .bool false := hd.get (j := 3) (by simp [depsOf, Region.binds])
          have e4 : vs 4 = .int .i64 0 := hd.get (j := 4) (by simp [depsOf, Region.binds])
          replace hK : ∀ (uu : Value) (w' : World), Below wx.heap.size wx w' → ((G7 w a y z bk a (y : Int) (z : Int))) w' → eqV (.bool true) uu w' → K _ w' := hK
          simp only [Act.put, List.setIfInBounds_toArray, List.set_cons_zero, List.set_cons_succ, e3, e4] at hK ⊢
          have HK := Lib.hid hK
          have HG := Lib.hid hG
          clear hK hd e3 e4
          clear hG
          go_simp
          exact HK.out _ _ (Below.refl _ _) HG.out rfl
        · intro vs wx hG hd K hK
          have e3 : vs 3 = .bool false := hd.get (j := 3) (by simp [depsOf, Region.binds])
          have e5 : vs 5 = .bool true := hd.get (j := 5) (by simp [depsOf, Region.binds])
          replace hK : ∀ (uu : Value) (w' : World), Below wx.heap.size wx w' → ((G7 w a y z bk a (y : Int) (z : Int))) w' → eqV (.bool true) uu w' → K _ w' := hK
          simp only [Act.put, List.setIfInBounds_toArray, List.set_cons_zero, List.set_cons_succ, e3, e5] at hK ⊢
          have HK := Lib.hid hK
          have HG := Lib.hid hG
          clear hK hd e3 e5
          clear hG
          go_simp
          exact HK.out _ _ (Below.refl _ _) HG.out rfl
        · intro vs wx hG hd K hK
          have e6 : vs 6 = .bool true := hd.get (j := 6) (by simp [depsOf, Region.binds])
          replace hK : ∀ (uu : Value) (w' : World), Below wx.heap.size wx w' → ((G7 w a y z bk a (y : Int) (z : Int))) w' → eqV (stv a (y : Int) (z : Int)) uu w' → K _ w' := hK
          simp only [Act.put, List.setIfInBounds_toArray, List.set_cons_zero, List.set_cons_succ, e6] at hK ⊢
          have HK := Lib.hid hK
          have HG := Lib.hid hG
          clear hK hd e6
          have g0 := HG.out.ev.c0
          have g1 := HG.out.ev.c1
          have g2 := HG.out.ev.c2
          have g3 := HG.out.k.c0
          have g4 := HG.out.k.c1
          have g5 := HG.out.k.c2
          clear hG
          go_simp
          exact HK.out _ _ (Below.refl _ _) HG.out rfl
        · intro vs wx hG hd K hK
          have e6 : vs 6 = .bool true := hd.get (j := 6) (by simp [depsOf, Region.binds])
          have e7 : vs 7 = stv a (y : Int) (z : Int) := hd.get (j := 7) (by simp [depsOf, Region.binds])
          replace hK : ∀ (uu : Value) (w' : World), Below wx.heap.size wx w' → ((G7 w a y z bk a (y : Int) (z : Int))) w' → eqV (stv a (y : Int) (z : Int)) uu w' → K _ w' := hK
          simp only [Act.put, List.setIfInBounds_toArray, List.set_cons_zero, List.set_cons_succ, e6, e7] at hK ⊢
          have HK := Lib.hid hK
          have HG := Lib.hid hG
          clear hK hd e6 e7
          clear hG
          go_simp
          go_at_call 9
          refine (stfrom_any _ _ _ _).mono ?_
          rintro e w1 ⟨rfl, hb⟩
          exact HK.out _ _ hb (HG.out.below hb) rfl
        · intro vs wx hG hd K hK
          have e6 : vs 6 = .bool true := hd.get (j := 6) (by simp [depsOf, Region.binds])
          replace hK : ∀ (uu : Value) (w' : World), Below wx.heap.size wx w' → ((G7 w a y z bk a (y : Int) (z : Int))) w' → eqV (stv a (y : Int) (z : Int)) uu w' → K _ w' := hK
          simp only [Act.put, List.setIfInBounds_toArray, List.set_cons_zero, List.set_cons_succ, e6] at hK ⊢
          have HK := Lib.hid hK
          have HG := Lib.hid hG
          clear hK hd e6
          have g0 := HG.out.ev.c0
          have g1 := HG.out.ev.c1
          have g2 := HG.out.ev.c2
          have g3 := HG.out.k.c0
          have g4 := HG.out.k.c1
          have g5 := HG.out.k.c2
          clear hG
          go_simp
          exact HK.out _ _ (Below.refl _ _) HG.out rfl
        · intro vs wx hG hd K hK
          have e6 : vs 6 = .bool true := hd.get (j := 6) (by simp [depsOf, Region.binds])
          have e8 : vs 8 = stv a (y : Int) (z : Int) := hd.get (j := 8) (by simp [depsOf, Region.binds])
          have e9 : vs 9 = stv a (y : Int) (z : Int) := hd.get (j := 9) (by simp [depsOf, Region.binds])
          replace hK : ∀ (uu : Value) (w' : World), Below wx.heap.size wx w' → ((G7 w a y z bk a (y : Int) (z : Int))) w' → eqV (.bool true) uu w' → K _ w' := hK
          simp only [Act.put, List.setIfInBounds_toArray, List.set_cons_zero, List.set_cons_succ, e6, e8, e9] at hK ⊢
          have HK := Lib.hid hK
          have HG := Lib.hid hG
          clear hK hd e6 e8 e9
          clear hG
          go_simp
          exact HK.out _ _ (Below.refl _ _) HG.out rfl
        · intro vs wx hG hd K hK
          have e3 : vs 3 = .bool false := hd.get (j := 3) (by simp [depsOf, Region.binds])
          have e6 : vs 6 = .bool true := hd.get (j := 6) (by simp [depsOf, Region.binds])
          have e10 : vs 10 = .bool true := hd.get (j := 10) (by simp [depsOf, Region.binds])
          replace hK : ∀ (uu : Value) (w' : World), Below wx.heap.size wx w' → ((G7 w a y z bk a (y : Int) (z : Int))) w' → eqV (.bool true) uu w' → K _ w' := hK
          simp only [Act.put, List.setIfInBounds_toArray, List.set_cons_zero, List.set_cons_succ, e3, e6, e10] at hK ⊢
          have HK := Lib.hid hK
          have HG := Lib.hid hG
          clear hK hd e3 e6 e10
          clear hG
          go_simp
          exact HK.out _ _ (Below.refl _ _) HG.out rfl
        · intro vs wx hG hd K hK
          have e3 : vs 3 = .bool false := hd.get (j := 3) (by simp [depsOf, Region.binds])
          have e11 : vs 11 = .bool true := hd.get (j := 11) (by simp [depsOf, Region.binds])
          replace hK : ∀ (uu : Value) (w' : World), Below wx.heap.size wx w' → ((G7 w a y z bk a (y : Int) (z : Int))) w' → eqV (.bool true) uu w' → K _ w' := hK
          simp only [Act.put, List.setIfInBounds_toArray, List.set_cons_zero, List.set_cons_succ, e3, e11] at hK ⊢
          have HK := Lib.hid hK
          have HG := Lib.hid hG
          clear hK hd e3 e11
          clear hG
          go_simp
          exact HK.out _ _ (Below.refl _ _) HG.out rfl
        · intro vs wx hG hd K hK
          have e12 : vs 12 = .bool true := hd.get (j := 12) (by simp [depsOf, Region.binds])
          replace hK : ∀ (uu : Value) (w' : World), Below wx.heap.size wx w' → ((G7 w a y z bk a (y : Int) (z : Int))) w' → eqV (.bool true) uu w' → K _ w' := hK
          simp only [Act.put, List.setIfInBounds_toArray, List.set_cons_zero, List.set_cons_succ, e12] at hK ⊢
          have HK := Lib.hid hK
          have HG := Lib.hid hG
          clear hK hd e12
          clear hG
          go_simp
          exact HK.out _ _ (Below.refl _ _) HG.out rfl
      case hend =>
        intro vs wx hG hv
        have e13 := hv 13 (by decide)
        replace e13 : vs 13 = .bool true := e13
        rw [e13]
        clear hv e13
        go_wp2_with fail
        go_ret
        exact ⟨rfl, hG.ev.bel⟩
    | false =>
      obtain ⟨p2, q2, r2, er2, hep⟩ : ∃ (p q r er : Int), e = .returned (.tuple #[stv p q r, .int .i64 er]) := by
        obtain ⟨_, ⟨a, b, c, _, he⟩ | ⟨_, he⟩⟩ := hp8
        · exact ⟨a, b, c, 0, he⟩
        · exact ⟨0, 0, 0, 10, he⟩
      subst hep
      rw [hri] at HRr
      clear hp8 hb8 HE7 HRd HA0 HPb hri
      have HE9 := Lib.hid (HE8.out.alloc (.cells #[.int .i64 p2, .int .u32 q2, .int .u32 r2] 26))
      have HK9 := Lib.hid (C3.start w8 26 p2 q2 r2)
      go_upto_region 7 with fail
      obtain ⟨W2, hW2⟩ : ∃ W, W = w8.alloc (.cells #[.int .i64 p2, .int .u32 q2, .int .u32 r2] 26) := ⟨_, rfl⟩
      rw [← hW2] at HE9 HK9 ⊢
      clear hW2 HE8
      generalize w8.heap.size = bk at *
      apply region_V eqV (G7 w a y z bk p2 q2 r2) [stv a (y : Int) (z : Int), .bool false, .bool true, .bool true, undef, undef, undef, undef, undef, undef, undef, undef, .bool true, .bool true] (undef)
      case mono => exact fun p v w w1 h hb => h
      case hm => kernel_rfl
      case hf => kernel_rfl
      case hQ => exact (by intro c x y w e h; exact And.intro (e.symm.trans (And.left h)) (And.right h))
      case hF => intro vs; simp only [putAll, Act.put, List.setIfInBounds_toArray, List.set_cons_zero, List.set_cons_succ, Nat.reduceAdd]; rfl
      case h0 => exact ⟨HE9.out.drew, HK9.out.drew⟩
      case hstep =>
        repeat' (first | exact AllOps.nil | apply AllOps.cons)
        · intro vs wx hG hd K hK
          replace hK : ∀ (uu : Value) (w' : World), Below wx.heap.size wx w' → ((G7 w a y z bk p2 q2 r2)) w' → eqV (stv a (y : Int) (z : Int)) uu w' → K _ w' := hK
          simp only [Act.put, List.setIfInBounds_toArray, List.set_cons_zero, List.set_cons_succ] at hK ⊢
          have HK := Lib.hid hK
          have HG := Lib.hid hG
          clear hK hd
          have g0 := HG.out.ev.c0
          have g1 := HG.out.ev.c1
          have g2 := HG.out.ev.c2
          have g3 := HG.out.k.c0
          have g4 := HG.out.k.c1
          have g5 := HG.out.k.c2
          clear hG
          go_simp
          exact HK.out _ _ (Below.refl _ _) HG.out rfl
        · intro vs wx hG hd K hK
          have e0 : vs 0 = stv a (y : Int) (z : Int) := hd.get (j := 0) (by simp [depsOf, Region.binds])
          replace hK : ∀ (uu : Value) (w' : World), Below wx.heap.size wx w' → ((G7 w a y z bk p2 q2 r2)) w' → eqV (.bool false) uu w' → K _ w' := hK
          simp only [Act.put, List.setIfInBounds_toArray, List.set_cons_zero, List.set_cons_succ, e0] at hK ⊢
          have HK := Lib.hid hK
          have HG := Lib.hid hG
          clear hK hd e0
          clear hG
          go_simp
          go_at_call 10
          refine (HRr.out _).mono ?_
          rintro e w1 ⟨rfl, hb⟩
          exact HK.out _ _ hb (HG.out.below hb) rfl
        · intro vs wx hG hd K hK
          have e1 : vs 1 = .bool false := hd.get (j := 1) (by simp [depsOf, Region.binds])
          replace hK : ∀ (uu : Value) (w' : World), Below wx.heap.size wx w' → ((G7 w a y z bk p2 q2 r2)) w' → eqV (.bool true) uu w' → K _ w' := hK
          simp only [Act.put, List.setIfInBounds_toArray, List.set_cons_zero, List.set_cons_succ, e1] at hK ⊢
          have HK := Lib.hid hK
          have HG := Lib.hid hG
          clear hK hd e1
          clear hG
          go_simp
          exact HK.out _ _ (Below.refl _ _) HG.out rfl
        · intro vs wx hG hd K hK
          have e2 : vs 2 = .bool true := hd.get (j := 2) (by simp [depsOf, Region.binds])
          replace hK : ∀ (uu : Value) (w' : World), Below wx.heap.size wx w' → ((G7 w a y z bk p2 q2 r2)) w' → eqV (.bool true) uu w' → K _ w' := hK
          simp only [Act.put, List.setIfInBounds_toArray, List.set_cons_zero, List.set_cons_succ, e2] at hK ⊢
          have HK := Lib.hid hK
          have HG := Lib.hid hG
          clear hK hd e2
          clear hG
          go_simp
          exact HK.out _ _ (Below.refl _ _) HG.out rfl
        · intro vs wx hG hd K hK
          have e3 : vs 3 = .bool true := hd.get (j := 3) (by simp [depsOf, Region.binds])
          replace hK : ∀ (uu : Value) (w' : World), Below wx.heap.size wx w' → ((G7 w a y z bk p2 q2 r2)) w' → eqV (undef) uu w' → K _ w' := hK
          simp only [Act.put, List.setIfInBounds_toArray, List.set_cons_zero, List.set_cons_succ, e3] at hK ⊢
          have HK := Lib.hid hK
          have HG := Lib.hid hG
          clear hK hd e3
          clear hG
          go_simp
          exact HK.out _ _ (Below.refl _ _) HG.out rfl
        · intro vs wx hG hd K hK
          have e3 : vs 3 = .bool true := hd.get (j := 3) (by simp [depsOf, Region.binds])
          replace hK : ∀ (uu : Value) (w' : World), Below wx.heap.size wx w' → ((G7 w a y z bk p2 q2 r2)) w' → eqV (undef) uu w' → K _ w' := hK
          simp only [Act.put, List.setIfInBounds_toArray, List.set_cons_zero, List.set_cons_succ, e3] at hK ⊢
          have HK := Lib.hid hK
          have HG := Lib.hid hG
          clear hK hd e3
          clear hG
          go_simp
          exact HK.out _ _ (Below.refl _ _) HG.out rfl
        · intro vs wx hG hd K hK
          have e3 : vs 3 = .bool true := hd.get (j := 3) (by simp [depsOf, Region.binds])
          replace hK : ∀ (uu : Value) (w' : World), Below wx.heap.size wx w' → ((G7 w a y z bk p2 q2 r2)) w' → eqV (undef) uu w' → K _ w' := hK
          simp only [Act.put, List.setIfInBounds_toArray, List.set_cons_zero, List.set_cons_succ, e3] at hK ⊢
          have HK := Lib.hid hK
          have HG := Lib.hid hG
          clear hK hd e3
          clear hG
          go_simp
          exact HK.out _ _ (Below.refl _ _) HG.out rfl
        · intro vs wx hG hd K hK
          have e6 : vs 6 = undef := hd.get (j := 6) (by simp [depsOf, Region.binds])
          replace hK : ∀ (uu : Value) (w' : World), Below wx.heap.size wx w' → ((G7 w a y z bk p2 q2 r2)) w' → eqV (undef) uu w' → K _ w' := hK
          simp only [Act.put, List.setIfInBounds_toArray, List.set_cons_zero, List.set_cons_succ, e6] at hK ⊢
          have HK := Lib.hid hK
          have HG := Lib.hid hG
          clear hK hd e6
          clear hG
          go_simp
          exact HK.out _ _ (Below.refl _ _) HG.out rfl
        · intro vs wx hG hd K hK
          have e6 : vs 6 = undef := hd.get (j := 6) (by simp [depsOf, Region.binds])
          replace hK : ∀ (uu : Value) (w' : World), Below wx.heap.size wx w' → ((G7 w a y z bk p2 q2 r2)) w' → eqV (undef) uu w' → K _ w' := hK
          simp only [Act.put, List.setIfInBounds_toArray, List.set_cons_zero, List.set_cons_succ, e6] at hK ⊢
          have HK := Lib.hid hK
          have HG := Lib.hid hG
          clear hK hd e6
          clear hG
          go_simp
          exact HK.out _ _ (Below.refl _ _) HG.out rfl
        · intro vs wx hG hd K hK
          have e6 : vs 6 = undef := hd.get (j := 6) (by simp [depsOf, Region.binds])
          replace hK : ∀ (uu : Value) (w' : World), Below wx.heap.size wx w' → ((G7 w a y z bk p2 q2 r2)) w' → eqV (undef) uu w' → K _ w' := hK
          simp only [Act.put, List.setIfInBounds_toArray, List.set_cons_zero, List.set_cons_succ, e6] at hK ⊢
          have HK := Lib.hid hK
          have HG := Lib.hid hG
          clear hK hd e6
          clear hG
          go_simp
          exact HK.out _ _ (Below.refl _ _) HG.out rfl
        · intro vs wx hG hd K hK
          have e6 : vs 6 = undef := hd.get (j := 6) (by simp [depsOf, Region.binds])
          replace hK : ∀ (uu : Value) (w' : World), Below wx.heap.size wx w' → ((G7 w a y z bk p2 q2 r2)) w' → eqV (undef) uu w' → K _ w' := hK
          simp only [Act.put, List.setIfInBounds_toArray, List.set_cons_zero, List.set_cons_succ, e6] at hK ⊢
          have HK := Lib.hid hK
          have HG := Lib.hid hG
          clear hK hd e6
          clear hG
          go_simp
          exact HK.out _ _ (Below.refl _ _) HG.out rfl
        · intro vs wx hG hd K hK
          have e3 : vs 3 = .bool true := hd.get (j := 3) (by simp [depsOf, Region.binds])
          replace hK : ∀ (uu : Value) (w' : World), Below wx.heap.size wx w' → ((G7 w a y z bk p2 q2 r2)) w' → eqV (undef) uu w' → K _ w' := hK
          simp only [Act.put, List.setIfInBounds_toArray, List.set_cons_zero, List.set_cons_succ, e3] at hK ⊢
          have HK := Lib.hid hK
          have HG := Lib.hid hG
          clear hK hd e3
          clear hG
          go_simp
          exact HK.out _ _ (Below.refl _ _) HG.out rfl
        · intro vs wx hG hd K hK
          have e3 : vs 3 = .bool true := hd.get (j := 3) (by simp [depsOf, Region.binds])
          have e11 : vs 11 = undef := hd.get (j := 11) (by simp [depsOf, Region.binds])
          replace hK : ∀ (uu : Value) (w' : World), Below wx.heap.size wx w' → ((G7 w a y z bk p2 q2 r2)) w' → eqV (.bool true) uu w' → K _ w' := hK
          simp only [Act.put, List.setIfInBounds_toArray, List.set_cons_zero, List.set_cons_succ, e3, e11] at hK ⊢
          have HK := Lib.hid hK
          have HG := Lib.hid hG
          clear hK hd e3 e11
          clear hG
          go_simp
          exact HK.out _ _ (Below.refl _ _) HG.out rfl
        · intro vs wx hG hd K hK
          have e12 : vs 12 = .bool true := hd.get (j := 12) (by simp [depsOf, Region.binds])
          replace hK : ∀ (uu : Value) (w' : World), Below wx.heap.size wx w' → ((G7 w a y z bk p2 q2 r2)) w' → eqV (.bool true) uu w' → K _ w' := hK
          simp only [Act.put, List.setIfInBounds_toArray, List.set_cons_zero, List.set_cons_succ, e12] at hK ⊢
          have HK := Lib.hid hK
          have HG := Lib.hid hG
          clear hK hd e12
          clear hG
          go_simp
          exact HK.out _ _ (Below.refl _ _) HG.out rfl
      case hend =>
        intro vs wx hG hv
        have e13 := hv 13 (by decide)
        replace e13 : vs 13 = .bool true := e13
        rw [e13]
        clear hv e13
        go_wp2_with fail
        go_ret
        exact ⟨rfl, hG.ev.bel⟩
end Go.Proofs.YtiigbkpfgbhlgaaDoor
