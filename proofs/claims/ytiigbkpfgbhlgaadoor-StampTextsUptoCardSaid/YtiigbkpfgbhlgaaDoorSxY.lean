/- The document's Text of a stamp. -/
import Derived.Test.YtiigbkpfgbhlgaaDoorSxU
import Derived.Test.YtiigbkpfgbhlgaaDoorSxW
import Derived.Test.YtiigbkpfgbhlgaaDoorRegV
import Derived.Test.YtiigbkpfgbhlgaaDoorSxC
namespace Go.Proofs.YtiigbkpfgbhlgaaDoor
open Go.RowKit

/-- A stamp's cells in a box. -/
structure Bx3 (w : World) (b : Nat) (x y z : Int) (W wx : World) : Prop where
  c0 : wx.cell? ⟨b, 0, none⟩ = some (.int .i64 x)
  c1 : wx.cell? ⟨b, 1, none⟩ = some (.int .u32 y)
  c2 : wx.cell? ⟨b, 2, none⟩ = some (.int .u32 z)
  bel : Below w.heap.size w wx
  wb : W.heap.size ≤ wx.heap.size
theorem Bx3.below {w : World} {b : Nat} {x y z : Int} {W wx w' : World} (h : Bx3 w b x y z W wx) (hb : Below wx.heap.size wx w') : Bx3 w b x y z W w' :=
  ⟨kept hb h.c0, kept hb h.c1, kept hb h.c2, h.bel.trans (hb.mono h.bel.size), Nat.le_trans h.wb hb.size⟩
def eqV (x v : Value) (_ : World) : Prop := v = x
set_option maxRecDepth 100000 in
set_option maxHeartbeats 3200000 in
theorem rtext_any (a : Int) (y z : Nat) (w : World) (ha : -9223372036854775808 ≤ a ∧ a ≤ 9223372036854775807) (hy : y ≤ 4294967295) (hz : z ≤ 4294967295) :
    Calls Tryd.prog 8 #[.agg #[.int .i64 a, .int .u32 y, .int .u32 z]] w (Str1 w (sttextB a y z)) := by
  have HW := Lib.hid (fun W => whole_any a W ha.1 ha.2)
  have HY := Lib.hid (fun W => decimal_any y W (by omega))
  have HZ := Lib.hid (fun W => decimal_any z W (by omega))
  have l0 := itoa_len ha.1 ha.2
  have l1 := dec_len (n := y) (by omega)
  have l2 := dec_len (n := z) (by omega)
  have eT : sttextB a y z = Lib.itoa a ++ [46] ++ dec y ++ [46] ++ dec z := by
    unfold sttextB
    have i1 : Lib.itoa (y : Int) = dec y := by rw [itoa_pos (by omega), Int.toNat_natCast]
    have i2 : Lib.itoa (z : Int) = dec z := by rw [itoa_pos (by omega), Int.toNat_natCast]
    rw [i1, i2]
    simp
  have hT : strB (sttextB a y z) = strB (Lib.itoa a) ++ ⟨#[46]⟩ ++ strB (dec y) ++ ⟨#[46]⟩ ++ strB (dec z) := by
    have e : (⟨#[46]⟩ : ByteArray) = strB [46] := rfl
    rw [e, strB_app, strB_app, strB_app, strB_app, ← eT]
  have HT := Lib.hid hT
  have q0 : (strB (Lib.itoa a)).size ≤ 21 := by rw [strB_size]; exact l0
  have q1 : (strB (dec y)).size ≤ 20 := by rw [strB_size]; exact l1
  have q2 : (strB (dec z)).size ≤ 20 := by rw [strB_size]; exact l2
  unfold Str1 at HW HY HZ
  clear hT eT l0 l1 l2 ha
  generalize strB (Lib.itoa a) = X0 at *
  generalize strB (dec y) = X1 at *
  generalize strB (dec z) = X2 at *
  have w1 : IntKind.u64.wrap (y : Int) = (y : Int) := w64 (by omega) (by omega)
  have w2 : IntKind.u64.wrap (z : Int) = (z : Int) := w64 (by omega) (by omega)
  have n1 : ¬ 9223372036854775807 < X0.size + 1 := by omega
  have n2 : ¬ 9223372036854775807 < X0.size + 1 + X1.size := by omega
  have n3 : ¬ 9223372036854775807 < X0.size + 1 + X1.size + 1 := by omega
  have n4 : ¬ 9223372036854775807 < X0.size + 1 + X1.size + 1 + X2.size := by omega
  go_enter Tryd.func8, Tryd.ntmps8
  go_wp2_with fail
  apply region_V eqV (Bx3 w w.heap.size a y z w) [.pointer (some ⟨w.heap.size, 0, none⟩), .int .i64 a, .string (X0), .string (X0 ++ ⟨#[46]⟩), .pointer (some ⟨w.heap.size, 1, none⟩), .int .u32 (y : Int), .int .u64 (y : Int), .string (X1), .string (X0 ++ ⟨#[46]⟩ ++ X1), .string (X0 ++ ⟨#[46]⟩ ++ X1 ++ ⟨#[46]⟩), .pointer (some ⟨w.heap.size, 2, none⟩), .int .u32 (z : Int), .int .u64 (z : Int), .string (X2), .string (X0 ++ ⟨#[46]⟩ ++ X1 ++ ⟨#[46]⟩ ++ X2), .string (X0 ++ ⟨#[46]⟩ ++ X1 ++ ⟨#[46]⟩ ++ X2)] (undef)
  case mono => exact fun p v w w1 h hb => h
  case hm => kernel_rfl
  case hf => kernel_rfl
  case hQ => exact (by intro c x y w e h; exact And.intro (e.symm.trans (And.left h)) (And.right h))
  case hF => intro vs; simp only [putAll, Act.put, List.setIfInBounds_toArray, List.set_cons_zero, List.set_cons_succ, Nat.reduceAdd]; rfl
  case h0 => exact ⟨by simp [go_sem], by simp [go_sem], by simp [go_sem], by go_grown, by simp⟩
  case hstep =>
    repeat' (first | exact AllOps.nil | apply AllOps.cons)
    · intro vs wx hG hd K hK
      replace hK : ∀ (uu : Value) (w' : World), Below wx.heap.size wx w' → ((Bx3 w w.heap.size a y z w)) w' → eqV (.pointer (some ⟨w.heap.size, 0, none⟩)) uu w' → K _ w' := hK
      simp only [Act.put, List.setIfInBounds_toArray, List.set_cons_zero, List.set_cons_succ] at hK ⊢
      have HK := Lib.hid hK
      have HG := Lib.hid hG
      clear hK hd
      clear hG
      go_simp
      exact HK.out _ _ (Below.refl _ _) HG.out rfl
    · intro vs wx hG hd K hK
      have e0 : vs 0 = .pointer (some ⟨w.heap.size, 0, none⟩) := hd.get (j := 0) (by simp [depsOf, Region.binds])
      replace hK : ∀ (uu : Value) (w' : World), Below wx.heap.size wx w' → ((Bx3 w w.heap.size a y z w)) w' → eqV (.int .i64 a) uu w' → K _ w' := hK
      simp only [Act.put, List.setIfInBounds_toArray, List.set_cons_zero, List.set_cons_succ, e0] at hK ⊢
      have HK := Lib.hid hK
      have HG := Lib.hid hG
      clear hK hd e0
      have g0 := HG.out.c0
      have g1 := HG.out.c1
      have g2 := HG.out.c2
      clear hG
      go_simp
      exact HK.out _ _ (Below.refl _ _) HG.out rfl
    · intro vs wx hG hd K hK
      have e1 : vs 1 = .int .i64 a := hd.get (j := 1) (by simp [depsOf, Region.binds])
      replace hK : ∀ (uu : Value) (w' : World), Below wx.heap.size wx w' → ((Bx3 w w.heap.size a y z w)) w' → eqV (.string (X0)) uu w' → K _ w' := hK
      simp only [Act.put, List.setIfInBounds_toArray, List.set_cons_zero, List.set_cons_succ, e1] at hK ⊢
      have HK := Lib.hid hK
      have HG := Lib.hid hG
      clear hK hd e1
      clear hG
      go_simp
      go_at_call 19
      refine (HW.out _).mono ?_
      rintro e w1 ⟨rfl, hb⟩
      exact HK.out _ _ hb (HG.out.below hb) rfl
    · intro vs wx hG hd K hK
      have e2 : vs 2 = .string (X0) := hd.get (j := 2) (by simp [depsOf, Region.binds])
      replace hK : ∀ (uu : Value) (w' : World), Below wx.heap.size wx w' → ((Bx3 w w.heap.size a y z w)) w' → eqV (.string (X0 ++ ⟨#[46]⟩)) uu w' → K _ w' := hK
      simp only [Act.put, List.setIfInBounds_toArray, List.set_cons_zero, List.set_cons_succ, e2] at hK ⊢
      have HK := Lib.hid hK
      have HG := Lib.hid hG
      clear hK hd e2
      clear hG
      go_simp
      exact HK.out _ _ (Below.refl _ _) HG.out rfl
    · intro vs wx hG hd K hK
      replace hK : ∀ (uu : Value) (w' : World), Below wx.heap.size wx w' → ((Bx3 w w.heap.size a y z w)) w' → eqV (.pointer (some ⟨w.heap.size, 1, none⟩)) uu w' → K _ w' := hK
      simp only [Act.put, List.setIfInBounds_toArray, List.set_cons_zero, List.set_cons_succ] at hK ⊢
      have HK := Lib.hid hK
      have HG := Lib.hid hG
      clear hK hd
      clear hG
      go_simp
      exact HK.out _ _ (Below.refl _ _) HG.out rfl
    · intro vs wx hG hd K hK
      have e4 : vs 4 = .pointer (some ⟨w.heap.size, 1, none⟩) := hd.get (j := 4) (by simp [depsOf, Region.binds])
      replace hK : ∀ (uu : Value) (w' : World), Below wx.heap.size wx w' → ((Bx3 w w.heap.size a y z w)) w' → eqV (.int .u32 (y : Int)) uu w' → K _ w' := hK
      simp only [Act.put, List.setIfInBounds_toArray, List.set_cons_zero, List.set_cons_succ, e4] at hK ⊢
      have HK := Lib.hid hK
      have HG := Lib.hid hG
      clear hK hd e4
      have g0 := HG.out.c0
      have g1 := HG.out.c1
      have g2 := HG.out.c2
      clear hG
      go_simp
      exact HK.out _ _ (Below.refl _ _) HG.out rfl
    · intro vs wx hG hd K hK
      have e5 : vs 5 = .int .u32 (y : Int) := hd.get (j := 5) (by simp [depsOf, Region.binds])
      replace hK : ∀ (uu : Value) (w' : World), Below wx.heap.size wx w' → ((Bx3 w w.heap.size a y z w)) w' → eqV (.int .u64 (y : Int)) uu w' → K _ w' := hK
      simp only [Act.put, List.setIfInBounds_toArray, List.set_cons_zero, List.set_cons_succ, e5] at hK ⊢
      have HK := Lib.hid hK
      have HG := Lib.hid hG
      clear hK hd e5
      clear hG
      go_simp
      exact HK.out _ _ (Below.refl _ _) HG.out rfl
    · intro vs wx hG hd K hK
      have e6 : vs 6 = .int .u64 (y : Int) := hd.get (j := 6) (by simp [depsOf, Region.binds])
      replace hK : ∀ (uu : Value) (w' : World), Below wx.heap.size wx w' → ((Bx3 w w.heap.size a y z w)) w' → eqV (.string (X1)) uu w' → K _ w' := hK
      simp only [Act.put, List.setIfInBounds_toArray, List.set_cons_zero, List.set_cons_succ, e6] at hK ⊢
      have HK := Lib.hid hK
      have HG := Lib.hid hG
      clear hK hd e6
      clear hG
      go_simp
      go_at_call 20
      refine (HY.out _).mono ?_
      rintro e w1 ⟨rfl, hb⟩
      exact HK.out _ _ hb (HG.out.below hb) rfl
    · intro vs wx hG hd K hK
      have e3 : vs 3 = .string (X0 ++ ⟨#[46]⟩) := hd.get (j := 3) (by simp [depsOf, Region.binds])
      have e7 : vs 7 = .string (X1) := hd.get (j := 7) (by simp [depsOf, Region.binds])
      replace hK : ∀ (uu : Value) (w' : World), Below wx.heap.size wx w' → ((Bx3 w w.heap.size a y z w)) w' → eqV (.string (X0 ++ ⟨#[46]⟩ ++ X1)) uu w' → K _ w' := hK
      simp only [Act.put, List.setIfInBounds_toArray, List.set_cons_zero, List.set_cons_succ, e3, e7] at hK ⊢
      have HK := Lib.hid hK
      have HG := Lib.hid hG
      clear hK hd e3 e7
      clear hG
      go_simp
      exact HK.out _ _ (Below.refl _ _) HG.out rfl
    · intro vs wx hG hd K hK
      have e8 : vs 8 = .string (X0 ++ ⟨#[46]⟩ ++ X1) := hd.get (j := 8) (by simp [depsOf, Region.binds])
      replace hK : ∀ (uu : Value) (w' : World), Below wx.heap.size wx w' → ((Bx3 w w.heap.size a y z w)) w' → eqV (.string (X0 ++ ⟨#[46]⟩ ++ X1 ++ ⟨#[46]⟩)) uu w' → K _ w' := hK
      simp only [Act.put, List.setIfInBounds_toArray, List.set_cons_zero, List.set_cons_succ, e8] at hK ⊢
      have HK := Lib.hid hK
      have HG := Lib.hid hG
      clear hK hd e8
      clear hG
      go_simp
      exact HK.out _ _ (Below.refl _ _) HG.out rfl
    · intro vs wx hG hd K hK
      replace hK : ∀ (uu : Value) (w' : World), Below wx.heap.size wx w' → ((Bx3 w w.heap.size a y z w)) w' → eqV (.pointer (some ⟨w.heap.size, 2, none⟩)) uu w' → K _ w' := hK
      simp only [Act.put, List.setIfInBounds_toArray, List.set_cons_zero, List.set_cons_succ] at hK ⊢
      have HK := Lib.hid hK
      have HG := Lib.hid hG
      clear hK hd
      clear hG
      go_simp
      exact HK.out _ _ (Below.refl _ _) HG.out rfl
    · intro vs wx hG hd K hK
      have e10 : vs 10 = .pointer (some ⟨w.heap.size, 2, none⟩) := hd.get (j := 10) (by simp [depsOf, Region.binds])
      replace hK : ∀ (uu : Value) (w' : World), Below wx.heap.size wx w' → ((Bx3 w w.heap.size a y z w)) w' → eqV (.int .u32 (z : Int)) uu w' → K _ w' := hK
      simp only [Act.put, List.setIfInBounds_toArray, List.set_cons_zero, List.set_cons_succ, e10] at hK ⊢
      have HK := Lib.hid hK
      have HG := Lib.hid hG
      clear hK hd e10
      have g0 := HG.out.c0
      have g1 := HG.out.c1
      have g2 := HG.out.c2
      clear hG
      go_simp
      exact HK.out _ _ (Below.refl _ _) HG.out rfl
    · intro vs wx hG hd K hK
      have e11 : vs 11 = .int .u32 (z : Int) := hd.get (j := 11) (by simp [depsOf, Region.binds])
      replace hK : ∀ (uu : Value) (w' : World), Below wx.heap.size wx w' → ((Bx3 w w.heap.size a y z w)) w' → eqV (.int .u64 (z : Int)) uu w' → K _ w' := hK
      simp only [Act.put, List.setIfInBounds_toArray, List.set_cons_zero, List.set_cons_succ, e11] at hK ⊢
      have HK := Lib.hid hK
      have HG := Lib.hid hG
      clear hK hd e11
      clear hG
      go_simp
      exact HK.out _ _ (Below.refl _ _) HG.out rfl
    · intro vs wx hG hd K hK
      have e12 : vs 12 = .int .u64 (z : Int) := hd.get (j := 12) (by simp [depsOf, Region.binds])
      replace hK : ∀ (uu : Value) (w' : World), Below wx.heap.size wx w' → ((Bx3 w w.heap.size a y z w)) w' → eqV (.string (X2)) uu w' → K _ w' := hK
      simp only [Act.put, List.setIfInBounds_toArray, List.set_cons_zero, List.set_cons_succ, e12] at hK ⊢
      have HK := Lib.hid hK
      have HG := Lib.hid hG
      clear hK hd e12
      clear hG
      go_simp
      go_at_call 20
      refine (HZ.out _).mono ?_
      rintro e w1 ⟨rfl, hb⟩
      exact HK.out _ _ hb (HG.out.below hb) rfl
    · intro vs wx hG hd K hK
      have e9 : vs 9 = .string (X0 ++ ⟨#[46]⟩ ++ X1 ++ ⟨#[46]⟩) := hd.get (j := 9) (by simp [depsOf, Region.binds])
      have e13 : vs 13 = .string (X2) := hd.get (j := 13) (by simp [depsOf, Region.binds])
      replace hK : ∀ (uu : Value) (w' : World), Below wx.heap.size wx w' → ((Bx3 w w.heap.size a y z w)) w' → eqV (.string (X0 ++ ⟨#[46]⟩ ++ X1 ++ ⟨#[46]⟩ ++ X2)) uu w' → K _ w' := hK
      simp only [Act.put, List.setIfInBounds_toArray, List.set_cons_zero, List.set_cons_succ, e9, e13] at hK ⊢
      have HK := Lib.hid hK
      have HG := Lib.hid hG
      clear hK hd e9 e13
      clear hG
      go_simp
      exact HK.out _ _ (Below.refl _ _) HG.out rfl
    · intro vs wx hG hd K hK
      have e14 : vs 14 = .string (X0 ++ ⟨#[46]⟩ ++ X1 ++ ⟨#[46]⟩ ++ X2) := hd.get (j := 14) (by simp [depsOf, Region.binds])
      replace hK : ∀ (uu : Value) (w' : World), Below wx.heap.size wx w' → ((Bx3 w w.heap.size a y z w)) w' → eqV (.string (X0 ++ ⟨#[46]⟩ ++ X1 ++ ⟨#[46]⟩ ++ X2)) uu w' → K _ w' := hK
      simp only [Act.put, List.setIfInBounds_toArray, List.set_cons_zero, List.set_cons_succ, e14] at hK ⊢
      have HK := Lib.hid hK
      have HG := Lib.hid hG
      clear hK hd e14
      clear hG
      go_simp
      exact HK.out _ _ (Below.refl _ _) HG.out rfl
  case hend =>
    intro vs wx hG hv
    have e15 := hv 15 (by decide)
    replace e15 : vs 15 = .string (X0 ++ ⟨#[46]⟩ ++ X1 ++ ⟨#[46]⟩ ++ X2) := e15
    rw [e15]
    clear hv e15
    go_wp2_with fail
    go_ret
    exact ⟨by rw [HT.out] <;> rfl, hG.bel⟩
end Go.Proofs.YtiigbkpfgbhlgaaDoor
