/- Both logs over both disks, side by side. -/
import Derived.Test.YtkkaehaoahpibaaPk19
import Derived.Test.YtkkaehaoahpibaaPk20
import Derived.Test.YtkkaehaoahpibaaPk9
namespace Go.Proofs.Ytkkaehaoahpibaa
open Go.RowKit Go.BigFrame

/-- The document's log and its disk, seen from the world w. -/
structure Gq (w : World) (C : Nat → Prop) (q m : Nat) (seg : Int) (a : Ad) (A1 : Option Addr) (n1 c1 : Nat) (A2 : Option Addr) (n2 c2 : Nat) (wx : World) : Prop where
  wq : Wq wx q m seg A1 n1 c1 A2 n2 c2
  rd : RD wx C m a
  b : Below w.heap.size w wx
section
variable {w wx wy : World} {C : Nat → Prop} {q m n1 c1 n2 c2 c K : Nat} {seg r : Int} {a a' : Ad} {A A1 A2 : Option Addr} {p1 : List UInt8}
theorem Gq.below (h : Gq w C q m seg a A1 n1 c1 A2 n2 c2 wx) (hb : Below wx.heap.size wx wy) : Gq w C q m seg a A1 n1 c1 A2 n2 c2 wy := ⟨h.wq.below hb, h.rd.below hb, h.b.trans (hb.mono h.b.size)⟩
theorem rwapp_long (A : Option Addr) (n c : Nat) (hn : 1048576 < n) (hm : n ≤ 9223372036854775807) : Calls Try.prog 13 #[.pointer (some ⟨q, 0, none⟩), .slice A n c] w fun e w' => e = .returned (.int .i64 8) ∧ w' = w := by
  go_enter Try.func13, Try.ntmps13
  go_wp2
  go_ret
  exact ⟨rfl, rfl⟩
theorem rwreb_long (A : Option Addr) (n c : Nat) (hn : 1048576 < n) (hm : n ≤ 9223372036854775807) : Calls Try.prog 17 #[.pointer (some ⟨q, 0, none⟩), .slice A n c] w fun e w' => e = .returned (.int .i64 8) ∧ w' = w := by
  go_enter Try.func17, Try.ntmps17
  go_wp2
  go_ret
  exact ⟨rfl, rfl⟩
set_option maxRecDepth 100000 in
set_option maxHeartbeats 6400000 in
theorem rwapp_any (hw : Wq w q m seg A1 n1 c1 A2 n2 c2) (R : RD w C m a) (hL : Lim a) (hb : Bs w K A c p1) (hK : K ≤ w.heap.size) (hl : p1.length ≤ 1048576) (hr : appD a seg (sealB 1 p1) = (r, a')) :
    Calls Try.prog 13 #[.pointer (some ⟨q, 0, none⟩), .slice A p1.length c] w fun e w' => e = .returned (.int .i64 r) ∧ Ew w C m a' w' := by
  have hcl := hb.le
  have HR := Lib.hid hr
  have HS := Lib.hid (refSeal_ok 1 K A c p1 w hb hK hl)
  have HG0 : Hid (Gq w C q m seg a A1 n1 c1 A2 n2 c2 w) := Lib.hid ⟨hw, R, Below.refl _ _⟩
  have HL := Lib.hid hL
  have HCW : Hid (∀ k, C k → k < w.heap.size) := Lib.hid R.bt
  have hq : (1048576 : Int) < (p1.length : Int) → False := fun h => by omega
  have HSL := Lib.hid (sealB_length 1 p1)
  clear hr hb hw R hL
  go_enter Try.func13, Try.ntmps13
  go_wp2_with fail
  refine HS.out.mono ?_
  rintro e w1 ⟨A9, c9, rfl, ho, hb9⟩
  have HO := Lib.hid ho
  have HG1 := Lib.hid (HG0.out.below hb9)
  have hz1 := hb9.size
  clear ho hb9 HS HG0
  go_wp2_with fail
  apply region_VT (Hb w) (fun wx => Gq w C q m seg a A1 n1 c1 A2 n2 c2 wx ∧ Below w1.heap.size w1 wx) (fun v w' => v = .int .i64 r ∧ Ew w C m a' w') 9 [.inl (.pointer (some ⟨q, 0, none⟩)), .inl (.pointer (some ⟨q, 0, none⟩)), .inl (.pointer (some ⟨q, 0, none⟩)), .inl (rP m), .inl (.pointer (some ⟨q, 0, none⟩)), .inl (.pointer (some ⟨q, 0, none⟩)), .inl (.pointer (some ⟨q, 1, none⟩)), .inl (.int .i64 seg), .inl (.slice A9 (9 + p1.length) c9), .inl undef] (.inl undef)
  case mono => exact fun p v w0 w9 h hb => Hb.mono h hb
  case hm => kernel_rfl
  case hf => kernel_rfl
  case hl => kernel_rfl
  case hQ => exact (by intro c x y w e h; exact And.intro (e.symm.trans (And.left h)) (And.right h))
  case hF => intro vs; simp only [putAll, Act.put, List.setIfInBounds_toArray, List.set_cons_zero, List.set_cons_succ, Nat.reduceAdd]; rfl
  case h0 => exact ⟨HG1.out.below ⟨rfl, rfl, rfl, Nat.le_refl _, fun _ _ => rfl⟩, ⟨rfl, rfl, rfl, Nat.le_refl _, fun _ _ => rfl⟩⟩
  case hstep =>
    repeat' (first | exact AllOps.nil | apply AllOps.cons)
    · intro vs wx hG hd K hK
      replace hK : ∀ (uu : Value) (w' : World), Below wx.heap.size wx w' → ((fun wx => Gq w C q m seg a A1 n1 c1 A2 n2 c2 wx ∧ Below w1.heap.size w1 wx)) w' → (Hb w) (.inl (.pointer (some ⟨q, 0, none⟩))) uu w' → K _ w' := hK
      simp only [Act.put, List.setIfInBounds_toArray, List.set_cons_zero, List.set_cons_succ] at hK ⊢
      have HK := Lib.hid hK
      have HG := Lib.hid hG
      clear hK hd
      clear hG
      go_simp
      exact HK.out _ _ (Below.refl _ _) HG.out rfl
    · intro vs wx hG hd K hK
      have e0 : vs 0 = .pointer (some ⟨q, 0, none⟩) := hd.get (j := 0) (by simp [depsOf, Region.binds])
      replace hK : ∀ (uu : Value) (w' : World), Below wx.heap.size wx w' → ((fun wx => Gq w C q m seg a A1 n1 c1 A2 n2 c2 wx ∧ Below w1.heap.size w1 wx)) w' → (Hb w) (.inl (.pointer (some ⟨q, 0, none⟩))) uu w' → K _ w' := hK
      simp only [Act.put, List.setIfInBounds_toArray, List.set_cons_zero, List.set_cons_succ, e0] at hK ⊢
      have HK := Lib.hid hK
      have HG := Lib.hid hG
      clear hK hd e0
      clear hG
      go_simp
      exact HK.out _ _ (Below.refl _ _) HG.out rfl
    · intro vs wx hG hd K hK
      have e1 : vs 1 = .pointer (some ⟨q, 0, none⟩) := hd.get (j := 1) (by simp [depsOf, Region.binds])
      replace hK : ∀ (uu : Value) (w' : World), Below wx.heap.size wx w' → ((fun wx => Gq w C q m seg a A1 n1 c1 A2 n2 c2 wx ∧ Below w1.heap.size w1 wx)) w' → (Hb w) (.inl (.pointer (some ⟨q, 0, none⟩))) uu w' → K _ w' := hK
      simp only [Act.put, List.setIfInBounds_toArray, List.set_cons_zero, List.set_cons_succ, e1] at hK ⊢
      have HK := Lib.hid hK
      have HG := Lib.hid hG
      clear hK hd e1
      clear hG
      go_simp
      exact HK.out _ _ (Below.refl _ _) HG.out rfl
    · intro vs wx hG hd K hK
      have e2 : vs 2 = .pointer (some ⟨q, 0, none⟩) := hd.get (j := 2) (by simp [depsOf, Region.binds])
      replace hK : ∀ (uu : Value) (w' : World), Below wx.heap.size wx w' → ((fun wx => Gq w C q m seg a A1 n1 c1 A2 n2 c2 wx ∧ Below w1.heap.size w1 wx)) w' → (Hb w) (.inl (rP m)) uu w' → K _ w' := hK
      simp only [Act.put, List.setIfInBounds_toArray, List.set_cons_zero, List.set_cons_succ, e2] at hK ⊢
      have HK := Lib.hid hK
      have HG := Lib.hid hG
      clear hK hd e2
      have gc0 := HG.out.1.wq.x0
      have gc1 := HG.out.1.wq.x1
      clear hG
      go_simp
      exact HK.out _ _ (Below.refl _ _) HG.out rfl
    · intro vs wx hG hd K hK
      replace hK : ∀ (uu : Value) (w' : World), Below wx.heap.size wx w' → ((fun wx => Gq w C q m seg a A1 n1 c1 A2 n2 c2 wx ∧ Below w1.heap.size w1 wx)) w' → (Hb w) (.inl (.pointer (some ⟨q, 0, none⟩))) uu w' → K _ w' := hK
      simp only [Act.put, List.setIfInBounds_toArray, List.set_cons_zero, List.set_cons_succ] at hK ⊢
      have HK := Lib.hid hK
      have HG := Lib.hid hG
      clear hK hd
      clear hG
      go_simp
      exact HK.out _ _ (Below.refl _ _) HG.out rfl
    · intro vs wx hG hd K hK
      have e4 : vs 4 = .pointer (some ⟨q, 0, none⟩) := hd.get (j := 4) (by simp [depsOf, Region.binds])
      replace hK : ∀ (uu : Value) (w' : World), Below wx.heap.size wx w' → ((fun wx => Gq w C q m seg a A1 n1 c1 A2 n2 c2 wx ∧ Below w1.heap.size w1 wx)) w' → (Hb w) (.inl (.pointer (some ⟨q, 0, none⟩))) uu w' → K _ w' := hK
      simp only [Act.put, List.setIfInBounds_toArray, List.set_cons_zero, List.set_cons_succ, e4] at hK ⊢
      have HK := Lib.hid hK
      have HG := Lib.hid hG
      clear hK hd e4
      clear hG
      go_simp
      exact HK.out _ _ (Below.refl _ _) HG.out rfl
    · intro vs wx hG hd K hK
      have e5 : vs 5 = .pointer (some ⟨q, 0, none⟩) := hd.get (j := 5) (by simp [depsOf, Region.binds])
      replace hK : ∀ (uu : Value) (w' : World), Below wx.heap.size wx w' → ((fun wx => Gq w C q m seg a A1 n1 c1 A2 n2 c2 wx ∧ Below w1.heap.size w1 wx)) w' → (Hb w) (.inl (.pointer (some ⟨q, 1, none⟩))) uu w' → K _ w' := hK
      simp only [Act.put, List.setIfInBounds_toArray, List.set_cons_zero, List.set_cons_succ, e5] at hK ⊢
      have HK := Lib.hid hK
      have HG := Lib.hid hG
      clear hK hd e5
      clear hG
      go_simp
      exact HK.out _ _ (Below.refl _ _) HG.out rfl
    · intro vs wx hG hd K hK
      have e6 : vs 6 = .pointer (some ⟨q, 1, none⟩) := hd.get (j := 6) (by simp [depsOf, Region.binds])
      replace hK : ∀ (uu : Value) (w' : World), Below wx.heap.size wx w' → ((fun wx => Gq w C q m seg a A1 n1 c1 A2 n2 c2 wx ∧ Below w1.heap.size w1 wx)) w' → (Hb w) (.inl (.int .i64 seg)) uu w' → K _ w' := hK
      simp only [Act.put, List.setIfInBounds_toArray, List.set_cons_zero, List.set_cons_succ, e6] at hK ⊢
      have HK := Lib.hid hK
      have HG := Lib.hid hG
      clear hK hd e6
      have gc0 := HG.out.1.wq.x0
      have gc1 := HG.out.1.wq.x1
      clear hG
      go_simp
      exact HK.out _ _ (Below.refl _ _) HG.out rfl
    · intro vs wx hG hd K hK
      replace hK : ∀ (uu : Value) (w' : World), Below wx.heap.size wx w' → ((fun wx => Gq w C q m seg a A1 n1 c1 A2 n2 c2 wx ∧ Below w1.heap.size w1 wx)) w' → (Hb w) (.inl (.slice A9 (9 + p1.length) c9)) uu w' → K _ w' := hK
      simp only [Act.put, List.setIfInBounds_toArray, List.set_cons_zero, List.set_cons_succ] at hK ⊢
      have HK := Lib.hid hK
      have HG := Lib.hid hG
      clear hK hd
      clear hG
      go_simp
      exact HK.out _ _ (Below.refl _ _) HG.out rfl
    · intro vs wx hG hd K hK
      have e3 : vs 3 = rP m := hd.get (j := 3) (by simp [depsOf, Region.binds])
      have e7 : vs 7 = .int .i64 seg := hd.get (j := 7) (by simp [depsOf, Region.binds])
      have e8 : vs 8 = .slice A9 (9 + p1.length) c9 := hd.get (j := 8) (by simp [depsOf, Region.binds])
      replace hK : ∀ (uu : Value) (w' : World), (fun v w' => v = .int .i64 r ∧ Ew w C m a' w') uu w' → K _ w' := hK
      simp only [Act.put, List.setIfInBounds_toArray, List.set_cons_zero, List.set_cons_succ, e3, e7, e8] at hK ⊢
      have HK := Lib.hid hK
      have HG := Lib.hid hG
      clear hK hd e3 e7 e8
      have hsz9 := HG.out.1.b.size
      have HO9 : Hid (Bs wx wx.heap.size A9 c9 (sealB 1 p1)) := Lib.hid ((HO.out.bs.1.below (HG.out.2)).more (HG.out.2.size))
      have HFR : Hid (0 < (sealB 1 p1).length → ∀ ad : Addr, A9 = some ad → ¬ C ad.block) := Lib.hid fun hl ad e hb => by
        have h5 := (own_block HO.out hl e rfl).1
        have h6 := HCW.out _ hb
        omega
      clear hG
      go_simp
      go_at_call 20
      have h := rappend_RD (r := r) (a' := a') HG.out.1.rd HL.out HO9.out (Nat.le_refl _) HFR.out HR.out
      rw [HSL.out] at h
      refine (Ew.of HG.out.1.b h).mono ?_
      rintro e w9 ⟨rfl, E9⟩
      exact HK.out _ _ ⟨rfl, E9⟩
    · intro vs wx hE K hK
      simp only [Act.put, List.setIfInBounds_toArray, List.set_cons_zero, List.set_cons_succ] at hK ⊢
      have HK := Lib.hid hK
      clear hK hE
      go_simp
      exact HK.out
  case hend =>
    intro vs wx hE he
    obtain ⟨e1, E9⟩ := hE
    rw [he, e1]
    have HE := Lib.hid E9
    clear he e1 E9
    go_wp2_with fail
    go_ret
    exact ⟨rfl, HE.out⟩
/-- The document's log and its disk, behind a call. -/
def Lq (w : World) (C : Nat → Prop) (q m : Nat) (seg : Int) (a : Ad) (A1 : Option Addr) (n1 c1 : Nat) (A2 : Option Addr) (n2 c2 : Nat) (w' : World) : Prop := ∃ C', RD w' C' m a ∧ Tn (fun k => C k ∨ k = q) w w' ∧ (∀ k, C' k → C k ∨ w.heap.size ≤ k) ∧ Wq w' q m seg A1 n1 c1 A2 n2 c2 ∧ ¬ C' q
theorem Ew.lq (h : Ew w C m a wx) (hw : Wq w q m seg A1 n1 c1 A2 n2 c2) (hq : ¬ C q) : Lq w C q m seg a A1 n1 c1 A2 n2 c2 wx := by
  obtain ⟨C', D, t, hC⟩ := h
  have hlt := hw.lt
  exact ⟨C', D, t.mono fun _ _ h => .inl h, hC, hw.tn t hq, fun h => (hC q h).elim hq fun h9 => by omega⟩
set_option maxRecDepth 100000 in
set_option maxHeartbeats 6400000 in
theorem rwreb_any (hw : Wq w q m seg A1 n1 c1 A2 n2 c2) (hq : ¬ C q) (R : RD w C m a) (hL : Lim a) (h1 : 0 ≤ seg) (h2 : seg ≤ 9223372036854775807) (hb : Bs w K A c p1) (hK : K ≤ w.heap.size) (hl : p1.length ≤ 1048576) {sg' : Int} (hr : rebA a seg (framesB p1 []) = (r, a', sg')) :
    Calls Try.prog 17 #[.pointer (some ⟨q, 0, none⟩), .slice A p1.length c] w fun e w' => e = .returned (.int .i64 r) ∧ Lq w C q m sg' a' A1 n1 c1 A2 n2 c2 w' := by
  have hcl := hb.le
  have hql : q < w.heap.size := hw.lt
  obtain ⟨L9, hL9⟩ : ∃ L9, L9 = framesB p1 [] := ⟨_, rfl⟩
  obtain ⟨nx, hwn⟩ : ∃ nx, IntKind.i64.wrap (seg + 1) = nx := ⟨_, rfl⟩
  obtain ⟨r0, a0, ha⟩ : ∃ r0 a0, appD a nx L9 = (r0, a0) := ⟨_, _, rfl⟩
  have hr : (if r0 = 0 then ((keepA a0 nx [seg]).1, (keepA a0 nx [seg]).2, nx) else (r0, a0, seg)) = (r, a', sg') := by
    by_cases hm : seg = 9223372036854775807
    · have hnx : nx < 1 := by rw [← hwn, hm]; decide
      have hav : abv seg = 0 := if_pos hm
      have e1 : ∀ s : Int, s < 1 → appD a s L9 = (if a.down = true then 5 else 1, a) := fun s hs => by
        unfold appD
        by_cases hd : a.down = true
        · rw [if_pos hd, if_pos hd]
        · rw [if_neg hd, if_pos hs, if_neg hd]
      have hne : ¬ (if a.down = true then (5 : Int) else 1) = 0 := by split <;> decide
      unfold rebA at hr
      rw [hav, ← hL9, e1 0 (by decide)] at hr
      rw [e1 nx hnx] at ha
      cases ha
      simp only [if_neg hne] at hr ⊢
      exact hr
    · have hav : abv seg = nx := by rw [← hwn, wrap_in (by omega) (by omega)]; exact if_neg hm
      unfold rebA at hr
      rw [hav, ← hL9, ha] at hr
      exact hr
  have HR := Lib.hid hr
  have HA := Lib.hid ha
  have HW : Hid (∀ wx, Below w.heap.size w wx → Calls Try.prog 33 #[.slice A p1.length c, .slice none 0 0] wx (NewB wx L9)) := Lib.hid fun wx hx => by
    have h := whole_any K A c p1 none 0 [] wx (hb.below (hx.mono hK)) ⟨Nat.le_refl _, Nat.zero_le _, fun _ => rfl, fun h => absurd h (by simp)⟩ (by have := hx.size; omega) hl (fun x hx => (by cases hx)) (by rw [framesB_len]; simp [recsB]; omega)
    rw [← hL9] at h
    exact h
  have HG0 : Hid (Gq w C q m seg a A1 n1 c1 A2 n2 c2 w) := Lib.hid ⟨hw, R, Below.refl _ _⟩
  have HL := Lib.hid hL
  have HCW : Hid (∀ k, C k → k < w.heap.size) := Lib.hid R.bt
  have HWQ := Lib.hid hw
  have HNQ := Lib.hid hq
  have hqq : (1048576 : Int) < (p1.length : Int) → False := fun h => by omega
  have f0 := hw.x0
  have f1 := hw.x1
  clear hr ha hL9 hb hw R hL hq h1 h2
  go_enter Try.func17, Try.ntmps17
  go_wp2_with fail
  apply region_VT (Hb w) (Gq w C q m seg a A1 n1 c1 A2 n2 c2) (fun v w' => v = .int .i64 r0 ∧ Ew w C m a0 w') 8 [.inl (.pointer (some ⟨q, 0, none⟩)), .inl (.pointer (some ⟨q, 0, none⟩)), .inl (.pointer (some ⟨q, 0, none⟩)), .inl (rP m), .inl (.int .i64 seg), .inl (.int .i64 nx), .inl (.slice A p1.length c), .inr L9, .inl undef] (.inl undef)
  case mono => exact fun p v w0 w9 h hb => Hb.mono h hb
  case hm => kernel_rfl
  case hf => kernel_rfl
  case hl => kernel_rfl
  case hQ => exact (by intro c x y w e h; exact And.intro (e.symm.trans (And.left h)) (And.right h))
  case hF => intro vs; simp only [putAll, Act.put, List.setIfInBounds_toArray, List.set_cons_zero, List.set_cons_succ, Nat.reduceAdd]; rfl
  case h0 => exact HG0.out.below ⟨rfl, rfl, rfl, Nat.le_refl _, fun _ _ => rfl⟩
  case hstep =>
    repeat' (first | exact AllOps.nil | apply AllOps.cons)
    · intro vs wx hG hd K hK
      replace hK : ∀ (uu : Value) (w' : World), Below wx.heap.size wx w' → ((Gq w C q m seg a A1 n1 c1 A2 n2 c2)) w' → (Hb w) (.inl (.pointer (some ⟨q, 0, none⟩))) uu w' → K _ w' := hK
      simp only [Act.put, List.setIfInBounds_toArray, List.set_cons_zero, List.set_cons_succ] at hK ⊢
      have HK := Lib.hid hK
      have HG := Lib.hid hG
      clear hK hd
      clear hG
      go_simp
      exact HK.out _ _ (Below.refl _ _) HG.out rfl
    · intro vs wx hG hd K hK
      have e0 : vs 0 = .pointer (some ⟨q, 0, none⟩) := hd.get (j := 0) (by simp [depsOf, Region.binds])
      replace hK : ∀ (uu : Value) (w' : World), Below wx.heap.size wx w' → ((Gq w C q m seg a A1 n1 c1 A2 n2 c2)) w' → (Hb w) (.inl (.pointer (some ⟨q, 0, none⟩))) uu w' → K _ w' := hK
      simp only [Act.put, List.setIfInBounds_toArray, List.set_cons_zero, List.set_cons_succ, e0] at hK ⊢
      have HK := Lib.hid hK
      have HG := Lib.hid hG
      clear hK hd e0
      clear hG
      go_simp
      exact HK.out _ _ (Below.refl _ _) HG.out rfl
    · intro vs wx hG hd K hK
      have e1 : vs 1 = .pointer (some ⟨q, 0, none⟩) := hd.get (j := 1) (by simp [depsOf, Region.binds])
      replace hK : ∀ (uu : Value) (w' : World), Below wx.heap.size wx w' → ((Gq w C q m seg a A1 n1 c1 A2 n2 c2)) w' → (Hb w) (.inl (.pointer (some ⟨q, 0, none⟩))) uu w' → K _ w' := hK
      simp only [Act.put, List.setIfInBounds_toArray, List.set_cons_zero, List.set_cons_succ, e1] at hK ⊢
      have HK := Lib.hid hK
      have HG := Lib.hid hG
      clear hK hd e1
      clear hG
      go_simp
      exact HK.out _ _ (Below.refl _ _) HG.out rfl
    · intro vs wx hG hd K hK
      have e2 : vs 2 = .pointer (some ⟨q, 0, none⟩) := hd.get (j := 2) (by simp [depsOf, Region.binds])
      replace hK : ∀ (uu : Value) (w' : World), Below wx.heap.size wx w' → ((Gq w C q m seg a A1 n1 c1 A2 n2 c2)) w' → (Hb w) (.inl (rP m)) uu w' → K _ w' := hK
      simp only [Act.put, List.setIfInBounds_toArray, List.set_cons_zero, List.set_cons_succ, e2] at hK ⊢
      have HK := Lib.hid hK
      have HG := Lib.hid hG
      clear hK hd e2
      have gc0 := HG.out.wq.x0
      have gc1 := HG.out.wq.x1
      clear hG
      go_simp
      exact HK.out _ _ (Below.refl _ _) HG.out rfl
    · intro vs wx hG hd K hK
      replace hK : ∀ (uu : Value) (w' : World), Below wx.heap.size wx w' → ((Gq w C q m seg a A1 n1 c1 A2 n2 c2)) w' → (Hb w) (.inl (.int .i64 seg)) uu w' → K _ w' := hK
      simp only [Act.put, List.setIfInBounds_toArray, List.set_cons_zero, List.set_cons_succ] at hK ⊢
      have HK := Lib.hid hK
      have HG := Lib.hid hG
      clear hK hd
      clear hG
      go_simp
      exact HK.out _ _ (Below.refl _ _) HG.out rfl
    · intro vs wx hG hd K hK
      have e4 : vs 4 = .int .i64 seg := hd.get (j := 4) (by simp [depsOf, Region.binds])
      replace hK : ∀ (uu : Value) (w' : World), Below wx.heap.size wx w' → ((Gq w C q m seg a A1 n1 c1 A2 n2 c2)) w' → (Hb w) (.inl (.int .i64 nx)) uu w' → K _ w' := hK
      simp only [Act.put, List.setIfInBounds_toArray, List.set_cons_zero, List.set_cons_succ, e4] at hK ⊢
      have HK := Lib.hid hK
      have HG := Lib.hid hG
      clear hK hd e4
      clear hG
      go_simp
      exact HK.out _ _ (Below.refl _ _) HG.out rfl
    · intro vs wx hG hd K hK
      replace hK : ∀ (uu : Value) (w' : World), Below wx.heap.size wx w' → ((Gq w C q m seg a A1 n1 c1 A2 n2 c2)) w' → (Hb w) (.inl (.slice A p1.length c)) uu w' → K _ w' := hK
      simp only [Act.put, List.setIfInBounds_toArray, List.set_cons_zero, List.set_cons_succ] at hK ⊢
      have HK := Lib.hid hK
      have HG := Lib.hid hG
      clear hK hd
      clear hG
      go_simp
      exact HK.out _ _ (Below.refl _ _) HG.out rfl
    · intro vs wx hG hd K hK
      have e6 : vs 6 = .slice A p1.length c := hd.get (j := 6) (by simp [depsOf, Region.binds])
      replace hK : ∀ (uu : Value) (w' : World), Below wx.heap.size wx w' → ((Gq w C q m seg a A1 n1 c1 A2 n2 c2)) w' → (Hb w) (.inr L9) uu w' → K _ w' := hK
      simp only [Act.put, List.setIfInBounds_toArray, List.set_cons_zero, List.set_cons_succ, e6] at hK ⊢
      have HK := Lib.hid hK
      have HG := Lib.hid hG
      clear hK hd e6
      clear hG
      go_simp
      go_at_call 33
      refine (HW.out _ HG.out.b).mono ?_
      rintro e w9 ⟨A9, c9, rfl, ho, hb⟩
      exact HK.out _ _ hb (HG.out.below hb) ⟨A9, c9, rfl, ho.more HG.out.b.size⟩
    · intro vs wx hG hd K hK
      have e3 : vs 3 = rP m := hd.get (j := 3) (by simp [depsOf, Region.binds])
      have e5 : vs 5 = .int .i64 nx := hd.get (j := 5) (by simp [depsOf, Region.binds])
      obtain ⟨A7, c7, e7, q7⟩ : ∃ Aq cq, vs 7 = .slice Aq L9.length cq ∧ Ob wx w.heap.size (.slice Aq L9.length cq) L9 := hd.get (j := 7) (by simp [depsOf, Region.binds])
      replace hK : ∀ (uu : Value) (w' : World), (fun v w' => v = .int .i64 r0 ∧ Ew w C m a0 w') uu w' → K _ w' := hK
      simp only [Act.put, List.setIfInBounds_toArray, List.set_cons_zero, List.set_cons_succ, e3, e5, e7] at hK ⊢
      have HK := Lib.hid hK
      have HG := Lib.hid hG
      clear hK hd e3 e5 e7
      clear hG
      go_simp
      go_at_call 20
      refine (Ew.of HG.out.b (rappend_RD (r := r0) (a' := a0) HG.out.rd HL.out q7.bs.1 (Nat.le_refl _) (fun hl ad e hb => by have h5 := (own_block q7 hl e rfl).1; have h6 := HCW.out _ hb; omega) HA.out)).mono ?_
      rintro e w9 ⟨rfl, E9⟩
      exact HK.out _ _ ⟨rfl, E9⟩
    · intro vs wx hE K hK
      simp only [Act.put, List.setIfInBounds_toArray, List.set_cons_zero, List.set_cons_succ] at hK ⊢
      have HK := Lib.hid hK
      clear hK hE
      go_simp
      exact HK.out
  case hend =>
    intro vs wy hE he
    obtain ⟨e1, E9⟩ := hE
    rw [he, e1]
    obtain ⟨C1, D1, t1, hC1, W1, hn1⟩ := E9.lq HWQ.out HNQ.out
    have y0 := W1.x0
    have y1 := W1.x1
    have y2 := W1.x2
    have y3 := W1.x3
    have yf := W1.fr
    have hyl := W1.lt
    clear he e1 E9
    by_cases hr0 : r0 = 0
    · subst hr0
      obtain ⟨r3, a3, h3⟩ : ∃ r3 a3, opD syncA a0 nx = (r3, a3) := ⟨_, _, rfl⟩
      have H3 := Lib.hid h3
      have HL1 := Lib.hid (lim_app HL.out HA.out)
      have HL3 := Lib.hid (lim_sync HL1.out h3)
      have HRK : Hid (dropsA (r3, a3) [seg] = (r, a') ∧ nx = sg') := Lib.hid (by
        have h9 := HR.out
        rw [if_pos rfl] at h9
        unfold keepA at h9
        rw [h3] at h9
        simp only [Prod.mk.injEq] at h9
        exact ⟨Prod.ext h9.1 h9.2.1, h9.2.2⟩)
      obtain ⟨wz, hwz⟩ : ∃ wz, wz = wy.setCell ⟨q, 1, none⟩ (.int .i64 nx) := ⟨_, rfl⟩
      have t2 : Tn (· = q) wy wz := by rw [hwz]; exact Tn.setCell wy q 1 _
      have RZ : RD wz C1 m a0 := D1.tn t2 fun k hk e => by subst e; exact hn1 hk
      have WZ : Wq wz q m nx A1 n1 c1 A2 n2 c2 := by rw [hwz]; exact ⟨by simpa [go_sem] using y0, by simp [go_sem, y1], by simpa [go_sem] using y2, by simpa [go_sem] using y3, fun j => by simp [go_sem, yf]⟩
      have HWZ := Lib.hid WZ
      have HNZ := Lib.hid hn1
      have HCOMP : Hid (∀ a9 wv, Lq wz C1 q m nx a9 A1 n1 c1 A2 n2 c2 wv → Lq w C q m nx a9 A1 n1 c1 A2 n2 c2 wv) := Lib.hid fun a9 wv hL9 => by
        obtain ⟨C3, D3, t3, hC3, W3, hn3⟩ := hL9
        have t12 : Tn (fun k => C k ∨ k = q) w wz := t1.then (t2.mono fun _ _ h => .inr h)
        have hsz : w.heap.size ≤ wz.heap.size := t12.size
        exact ⟨C3, D3, t12.thenQ t3 fun k hk hb => hb.elim (fun hb => (hC1 k hb).elim .inl fun h => absurd hk (by omega)) .inr, fun k hk => (hC3 k hk).elim (hC1 k) fun h => .inr (by omega), W3, hn3⟩
      have HG8 : Hid (Gq wz C1 q m nx a0 A1 n1 c1 A2 n2 c2 wz) := Lib.hid ⟨WZ, RZ, Below.refl _ _⟩
      clear t1 t2 D1 hC1 W1 hn1 RZ WZ h3 HR HL
      go_wp2_with fail
      rw [← hwz]
      clear hwz y0 y1 y2 y3 yf
      apply region_VT (Hb wz) (Gq wz C1 q m nx a0 A1 n1 c1 A2 n2 c2) (fun v w' => v = .int .i64 r3 ∧ Ew wz C1 m a3 w') 8 [.inl (.pointer (some ⟨q, 0, none⟩)), .inl (.pointer (some ⟨q, 0, none⟩)), .inl (.pointer (some ⟨q, 0, none⟩)), .inl (rP m), .inl (.pointer (some ⟨q, 0, none⟩)), .inl (.pointer (some ⟨q, 0, none⟩)), .inl (.pointer (some ⟨q, 1, none⟩)), .inl (.int .i64 nx), .inl undef] (.inl undef)
      case mono => exact fun p v w0 w9 h hb => Hb.mono h hb
      case hm => kernel_rfl
      case hf => kernel_rfl
      case hl => kernel_rfl
      case hQ => exact (by intro c x y w e h; exact And.intro (e.symm.trans (And.left h)) (And.right h))
      case hF => intro vs; simp only [putAll, Act.put, List.setIfInBounds_toArray, List.set_cons_zero, List.set_cons_succ, Nat.reduceAdd]; rfl
      case h0 => exact HG8.out.below ⟨rfl, rfl, rfl, Nat.le_refl _, fun _ _ => rfl⟩
      case hstep =>
        repeat' (first | exact AllOps.nil | apply AllOps.cons)
        · intro vs wx hG hd K hK
          replace hK : ∀ (uu : Value) (w' : World), Below wx.heap.size wx w' → ((Gq wz C1 q m nx a0 A1 n1 c1 A2 n2 c2)) w' → (Hb wz) (.inl (.pointer (some ⟨q, 0, none⟩))) uu w' → K _ w' := hK
          simp only [Act.put, List.setIfInBounds_toArray, List.set_cons_zero, List.set_cons_succ] at hK ⊢
          have HK := Lib.hid hK
          have HG := Lib.hid hG
          clear hK hd
          clear hG
          go_simp
          exact HK.out _ _ (Below.refl _ _) HG.out rfl
        · intro vs wx hG hd K hK
          have e0 : vs 0 = .pointer (some ⟨q, 0, none⟩) := hd.get (j := 0) (by simp [depsOf, Region.binds])
          replace hK : ∀ (uu : Value) (w' : World), Below wx.heap.size wx w' → ((Gq wz C1 q m nx a0 A1 n1 c1 A2 n2 c2)) w' → (Hb wz) (.inl (.pointer (some ⟨q, 0, none⟩))) uu w' → K _ w' := hK
          simp only [Act.put, List.setIfInBounds_toArray, List.set_cons_zero, List.set_cons_succ, e0] at hK ⊢
          have HK := Lib.hid hK
          have HG := Lib.hid hG
          clear hK hd e0
          clear hG
          go_simp
          exact HK.out _ _ (Below.refl _ _) HG.out rfl
        · intro vs wx hG hd K hK
          have e1 : vs 1 = .pointer (some ⟨q, 0, none⟩) := hd.get (j := 1) (by simp [depsOf, Region.binds])
          replace hK : ∀ (uu : Value) (w' : World), Below wx.heap.size wx w' → ((Gq wz C1 q m nx a0 A1 n1 c1 A2 n2 c2)) w' → (Hb wz) (.inl (.pointer (some ⟨q, 0, none⟩))) uu w' → K _ w' := hK
          simp only [Act.put, List.setIfInBounds_toArray, List.set_cons_zero, List.set_cons_succ, e1] at hK ⊢
          have HK := Lib.hid hK
          have HG := Lib.hid hG
          clear hK hd e1
          clear hG
          go_simp
          exact HK.out _ _ (Below.refl _ _) HG.out rfl
        · intro vs wx hG hd K hK
          have e2 : vs 2 = .pointer (some ⟨q, 0, none⟩) := hd.get (j := 2) (by simp [depsOf, Region.binds])
          replace hK : ∀ (uu : Value) (w' : World), Below wx.heap.size wx w' → ((Gq wz C1 q m nx a0 A1 n1 c1 A2 n2 c2)) w' → (Hb wz) (.inl (rP m)) uu w' → K _ w' := hK
          simp only [Act.put, List.setIfInBounds_toArray, List.set_cons_zero, List.set_cons_succ, e2] at hK ⊢
          have HK := Lib.hid hK
          have HG := Lib.hid hG
          clear hK hd e2
          have gc0 := HG.out.wq.x0
          have gc1 := HG.out.wq.x1
          clear hG
          go_simp
          exact HK.out _ _ (Below.refl _ _) HG.out rfl
        · intro vs wx hG hd K hK
          replace hK : ∀ (uu : Value) (w' : World), Below wx.heap.size wx w' → ((Gq wz C1 q m nx a0 A1 n1 c1 A2 n2 c2)) w' → (Hb wz) (.inl (.pointer (some ⟨q, 0, none⟩))) uu w' → K _ w' := hK
          simp only [Act.put, List.setIfInBounds_toArray, List.set_cons_zero, List.set_cons_succ] at hK ⊢
          have HK := Lib.hid hK
          have HG := Lib.hid hG
          clear hK hd
          clear hG
          go_simp
          exact HK.out _ _ (Below.refl _ _) HG.out rfl
        · intro vs wx hG hd K hK
          have e4 : vs 4 = .pointer (some ⟨q, 0, none⟩) := hd.get (j := 4) (by simp [depsOf, Region.binds])
          replace hK : ∀ (uu : Value) (w' : World), Below wx.heap.size wx w' → ((Gq wz C1 q m nx a0 A1 n1 c1 A2 n2 c2)) w' → (Hb wz) (.inl (.pointer (some ⟨q, 0, none⟩))) uu w' → K _ w' := hK
          simp only [Act.put, List.setIfInBounds_toArray, List.set_cons_zero, List.set_cons_succ, e4] at hK ⊢
          have HK := Lib.hid hK
          have HG := Lib.hid hG
          clear hK hd e4
          clear hG
          go_simp
          exact HK.out _ _ (Below.refl _ _) HG.out rfl
        · intro vs wx hG hd K hK
          have e5 : vs 5 = .pointer (some ⟨q, 0, none⟩) := hd.get (j := 5) (by simp [depsOf, Region.binds])
          replace hK : ∀ (uu : Value) (w' : World), Below wx.heap.size wx w' → ((Gq wz C1 q m nx a0 A1 n1 c1 A2 n2 c2)) w' → (Hb wz) (.inl (.pointer (some ⟨q, 1, none⟩))) uu w' → K _ w' := hK
          simp only [Act.put, List.setIfInBounds_toArray, List.set_cons_zero, List.set_cons_succ, e5] at hK ⊢
          have HK := Lib.hid hK
          have HG := Lib.hid hG
          clear hK hd e5
          clear hG
          go_simp
          exact HK.out _ _ (Below.refl _ _) HG.out rfl
        · intro vs wx hG hd K hK
          have e6 : vs 6 = .pointer (some ⟨q, 1, none⟩) := hd.get (j := 6) (by simp [depsOf, Region.binds])
          replace hK : ∀ (uu : Value) (w' : World), Below wx.heap.size wx w' → ((Gq wz C1 q m nx a0 A1 n1 c1 A2 n2 c2)) w' → (Hb wz) (.inl (.int .i64 nx)) uu w' → K _ w' := hK
          simp only [Act.put, List.setIfInBounds_toArray, List.set_cons_zero, List.set_cons_succ, e6] at hK ⊢
          have HK := Lib.hid hK
          have HG := Lib.hid hG
          clear hK hd e6
          have gc0 := HG.out.wq.x0
          have gc1 := HG.out.wq.x1
          clear hG
          go_simp
          exact HK.out _ _ (Below.refl _ _) HG.out rfl
        · intro vs wx hG hd K hK
          have e3 : vs 3 = rP m := hd.get (j := 3) (by simp [depsOf, Region.binds])
          have e7 : vs 7 = .int .i64 nx := hd.get (j := 7) (by simp [depsOf, Region.binds])
          replace hK : ∀ (uu : Value) (w' : World), (fun v w' => v = .int .i64 r3 ∧ Ew wz C1 m a3 w') uu w' → K _ w' := hK
          simp only [Act.put, List.setIfInBounds_toArray, List.set_cons_zero, List.set_cons_succ, e3, e7] at hK ⊢
          have HK := Lib.hid hK
          have HG := Lib.hid hG
          clear hK hd e3 e7
          clear hG
          go_simp
          go_at_call 15
          refine (Ew.of HG.out.b (rsync_RD (r := r3) (a' := a3) HG.out.rd HL1.out H3.out)).mono ?_
          rintro e w9 ⟨rfl, E9⟩
          exact HK.out _ _ ⟨rfl, E9⟩
        · intro vs wx hE K hK
          simp only [Act.put, List.setIfInBounds_toArray, List.set_cons_zero, List.set_cons_succ] at hK ⊢
          have HK := Lib.hid hK
          clear hK hE
          go_simp
          exact HK.out
      case hend =>
        intro vs wv hE he
        obtain ⟨e1, E9⟩ := hE
        rw [he, e1]
        have HE9 := Lib.hid E9
        have wqv := HWZ.out.tn E9.tn HNZ.out
        have v0 := wqv.x0
        have v1 := wqv.x1
        have hvl := wqv.lt
        have HWV := Lib.hid wqv
        clear he e1 E9 wqv
        by_cases hr3 : r3 = 0
        · subst hr3
          obtain ⟨r4, a4, h4⟩ : ∃ r4 a4, opD dropA a3 seg = (r4, a4) := ⟨_, _, rfl⟩
          have HPAIR : Hid ((r4, a4) = (r, a') ∧ nx = sg') := Lib.hid (by
            have h9 := HRK.out
            simp only [dropsA, if_true, h4] at h9
            exact h9)
          have HC4 := Lib.hid (HE9.out.step fun C' R' _ => rdrop_RD R' HL3.out h4)
          clear h4
          go_wp2_with fail
          refine HC4.out.mono ?_
          rintro e w5 ⟨rfl, E5⟩
          have HLQ := Lib.hid (E5.lq HWZ.out HNZ.out)
          clear E5 HC4
          go_wp2_with fail
          go_ret
          obtain ⟨hp, rfl⟩ := HPAIR.out
          obtain ⟨rfl, rfl⟩ := Prod.mk.inj hp
          exact ⟨rfl, HCOMP.out _ _ HLQ.out⟩
        · have r3b : (r3 == (0 : Int)) = false := by simpa using hr3
          have HPAIR : Hid ((r3, a3) = (r, a') ∧ nx = sg') := Lib.hid (by
            have h9 := HRK.out
            rw [drops_stop hr3] at h9
            exact h9)
          have HLQ := Lib.hid (HE9.out.lq HWZ.out HNZ.out)
          clear hr3
          go_wp2_with fail
          go_ret
          obtain ⟨hp, rfl⟩ := HPAIR.out
          obtain ⟨rfl, rfl⟩ := Prod.mk.inj hp
          exact ⟨rfl, HCOMP.out _ _ HLQ.out⟩
    · have r0b : (r0 == (0 : Int)) = false := by simpa using hr0
      have HN : Hid ((r0, a0) = (r, a') ∧ seg = sg') := Lib.hid (by
        have h9 := HR.out
        rw [if_neg hr0] at h9
        simp only [Prod.mk.injEq] at h9
        exact ⟨Prod.ext h9.1 h9.2.1, h9.2.2⟩)
      have HLQ : Hid (Lq w C q m seg a0 A1 n1 c1 A2 n2 c2 wy) := Lib.hid ⟨C1, D1, t1, hC1, W1, hn1⟩
      clear hr0 HR D1 t1 hC1 W1 hn1
      go_wp2_with fail
      go_ret
      obtain ⟨hp, rfl⟩ := HN.out
      obtain ⟨rfl, rfl⟩ := Prod.mk.inj hp
      exact ⟨rfl, HLQ.out⟩
end
end Go.Proofs.Ytkkaehaoahpibaa
namespace Go.Proofs.Ytkkaehaoahpibaa
open Go.RowKit Go.BigFrame

/-- What Open answers: the error, the disk afterwards, the segment. -/
def oA (a : Ad) : Int × Ad × Int := if a.down = true then (5, a, 0) else rsA a
section
variable {w : World} {B C : Nat → Prop} {d m : Nat} {a a' : Ad} {r s : Int}
theorem popen_any (D : DD w B d a) (h : oA a = (r, a', s)) : Calls Try.prog 8 #[dP d] w (LaidP w B d s (lgA a.L).1 (lgA a.L).2 r a') := by
  have hbt := D.bt
  unfold oA at h
  by_cases hd : a.down = true
  · rw [if_pos hd] at h
    simp only [Prod.mk.injEq] at h
    obtain ⟨rfl, rfl, rfl⟩ := h
    have HS := Dw.start D
    obtain ⟨room, fuse, down, L⟩ := a
    simp only at hd
    subst hd
    refine (open_down D).mono ?_
    rintro e w' ⟨rfl, rfl⟩
    exact .inr ⟨by decide, rfl, HS⟩
  · rw [if_neg hd] at h
    have hd2 : a.down = false := by simpa using hd
    unfold rsA at h
    by_cases hal : aloneA a.L = true
    · rw [if_pos hal] at h
      simp only [Prod.mk.injEq] at h
      obtain ⟨rfl, rfl, rfl⟩ := h
      cases hN : newA a.L with
      | none => exact absurd hal (by simp [aloneA, hN])
      | some y =>
        obtain ⟨x, base, rs, n⟩ := y
        have hal2 : alB a.L x n = true := by unfold aloneA at hal; rw [hN] at hal; exact hal
        have hlg : lgA a.L = (base, rs) := by unfold lgA; rw [hN]
        rw [hlg]
        have D0 := D
        obtain ⟨room, fuse, down, L⟩ := a
        simp only at hd2 hN hal2 ⊢
        subst hd2
        refine (open_alone D hN hal2).mono ?_
        rintro e w' ⟨hb, p, ho⟩
        refine .inl ⟨rfl, p, B, ho, D0.below hb, Tn.ofNew hb, fun _ hk => .inl hk, fun hk => ?_⟩
        obtain ⟨_, _, _, _, _, _, hp, _⟩ := ho
        exact absurd (hbt p hk) (by omega)
    · rw [if_neg hal] at h
      have hal2 : aloneA a.L = false := by simpa using hal
      simp only [Prod.mk.injEq] at h
      obtain ⟨rfl, rfl, rfl⟩ := h
      exact open_lay D hd2 hal2 rfl
theorem ropen_down (R : RD w C m a) (hd : a.down = true) : Calls Try.prog 9 #[rP m] w fun e w' => e = .returned (.tuple #[.pointer none, .int .i64 5]) ∧ w' = w := by
  obtain ⟨A, cap, qs, K0, e0, hC⟩ := R.ex
  rw [hd] at K0
  have k3 := K0.c3
  clear R K0 e0 hC
  go_enter Try.func9, Try.ntmps9
  go_wp2
  exact bodyPost_ret (v := .tuple #[.pointer none, .int .i64 5]) (by simp [results, Try.results9, go_sem]) rfl ⟨rfl, rfl⟩
theorem ropen_all (R : RD w C m a) (hL : Lim a) (hn : ∀ x ∈ a.L, 1 ≤ x.n ∧ x.n ≤ 9223372036854775807) (h : oA a = (r, a', s)) : Calls Try.prog 9 #[rP m] w (ROut w C m s (lgA a.L).1 (lgA a.L).2 r a') := by
  unfold oA at h
  by_cases hd : a.down = true
  · rw [if_pos hd] at h
    simp only [Prod.mk.injEq] at h
    obtain ⟨rfl, rfl, rfl⟩ := h
    have HE := Ew.start R
    refine (ropen_down R hd).mono ?_
    rintro e w' ⟨rfl, rfl⟩
    exact ⟨HE, .inr ⟨by decide, rfl⟩⟩
  · rw [if_neg hd] at h
    exact ropen_any R hL hn (by simpa using hd) h
end
end Go.Proofs.Ytkkaehaoahpibaa
namespace Go.Proofs.Ytkkaehaoahpibaa
open Go.RowKit

theorem region_GP {P : Program} {Q : Exit → Act → World → Prop} {ops : Array Oper} {id : Nat} {a0 : Act} {w0 : World} {ι : Type} (holds : ι → Value → World → Prop) (G : Bool → Bool → World → Prop) (p q : Nat) (xs : List ι) (d : ι)
    (F : (Nat → Value) → Act) (hF : ∀ vs, F vs = putAll vs 0 ops.toList a0) (hm : P.follows .mixedOrders = true) (hf : fitsR ops = true) (hp : (Nat.blt p ops.size && Nat.blt q ops.size) = true)
    (hQ : ∀ c (x y : Act) w, x.defers = y.defers → Q (.panic c) x w → Q (.panic c) y w)
    (h0 : G false false w0.drew)
    (hstep : AllOps (fun i o => ∀ vs b c w, G b c w → AllD (fun j => holds (xs.getD j d) (vs j) w) (depsOf o) → (Nat.beq i p = true → b = false) → (Nat.beq i q = true → c = false) →
      ∀ K : Act → World → Prop, (∀ v w', G (upG i p b) (upG i q c) w' → (∀ x u, holds x u w → holds x u w') → holds (xs.getD i d) v w' → K ((F vs).put o.dst v) w') →
        if Region.wanted o (yielded ops (F vs).tmps) = true then Oper.wp P o (F vs) w K Q else K ((F vs).put o.dst undef) w) 0 ops.toList)
    (hend : ∀ vs w, G true true w → (∀ i, i < ops.size → holds (xs.getD i d) (vs i) w) → Q .normal (F vs) w) :
    (Code.region id ops true).wp P Q a0 w0 := by
  simp only [Bool.and_eq_true, Nat.blt_eq] at hp
  refine region_inv hm hf F hF hQ (fun l vs w => G (l p) (l q) w ∧ ∀ i, l i = true → holds (xs.getD i d) (vs i) w) ⟨h0, fun _ h => by cases h⟩ ?_ (fun l vs w hl hJ => ?_)
  · intro i o ho l vs w ⟨hG, hV⟩ hli hall K hK
    have hd := mem_deps ho hall
    have ho' : ops.toList[i]? = some o := by rw [Array.getElem?_toList]; exact ho
    have go := hstep.get ho'
    rw [Nat.zero_add] at go
    have hdep : AllD (fun j => holds (xs.getD j d) (vs j) w) (depsOf o) := by
      have hdo : depsAt ops i = depsOf o := by simp [depsAt, ho]
      rw [hdo] at hd
      exact AllD.of (fun j hj => hV j hj) (AllL.mk hd)
    refine go vs (l p) (l q) w hG hdep (fun h => by have := Nat.eq_of_beq_eq_true h; subst this; exact hli) (fun h => by have := Nat.eq_of_beq_eq_true h; subst this; exact hli) K fun v w' hG' hk hv => hK _ w' ⟨?_, fun j hj => ?_⟩
    · rw [upG_eq, upG_eq]; exact hG'
    · by_cases ej : j = i
      · subst ej; rw [updR_same]; exact hv
      · rw [updR_ne _ _ ej] at hj ⊢
        exact hk _ _ (hV j hj)
  · have h1 := hJ.1
    rw [hl p hp.1, hl q hp.2] at h1
    exact hend vs w h1 fun i hi => hJ.2 i (hl i hi)
end Go.Proofs.Ytkkaehaoahpibaa
namespace Go.Proofs.Ytkkaehaoahpibaa
open Go.RowKit Go.BigFrame

/-- Behind the world W: the program's disk is a and its log goes on at s1, the document's b and s2. -/
structure JW (W : World) (B C : Nat → Prop) (d m p q : Nat) (a : Ad) (s1 : Int) (b : Ad) (s2 : Int) (A1 : Option Addr) (n1 c1 : Nat) (A2 : Option Addr) (n2 c2 : Nat) (wx : World) : Prop where
  ex : ∃ B' C', DD wx B' d a ∧ RD wx C' m b ∧ (∀ k, B' k → B k ∨ W.heap.size ≤ k) ∧ (∀ k, C' k → C k ∨ W.heap.size ≤ k) ∧ ∀ k, B' k → ¬ C' k
  tn : Tn (fun k => B k ∨ C k ∨ k = p ∨ k = q) W wx
  wp : Wp wx p d s1
  wq : Wq wx q m s2 A1 n1 c1 A2 n2 c2
  pn : p < W.heap.size ∧ q < W.heap.size ∧ p ≠ q
  nb : ¬ B p ∧ ¬ B q ∧ ¬ C p ∧ ¬ C q
section
variable {W wx wy : World} {B C P : Nat → Prop} {d m p q n1 c1 n2 c2 : Nat} {a a' b b' : Ad} {r s1 s2 s' : Int} {f : Nat} {args : Array Value} {A1 A2 : Option Addr}
theorem JW.start (h : DD W B d a) (k : RD W C m b) (hd : ∀ k, B k → ¬ C k) (hp : Wp W p d s1) (hq : Wq W q m s2 A1 n1 c1 A2 n2 c2) (hpq : p ≠ q) (hn : ¬ B p ∧ ¬ B q ∧ ¬ C p ∧ ¬ C q) : JW W B C d m p q a s1 b s2 A1 n1 c1 A2 n2 c2 W :=
  ⟨⟨B, C, h, k, fun _ h => .inl h, fun _ h => .inl h, hd⟩, Tn.refl _ _, hp, hq, ⟨World.block_lt_of_cell? _ _ hp.c0, hq.lt, hpq⟩, hn⟩
theorem JW.below (J : JW W B C d m p q a s1 b s2 A1 n1 c1 A2 n2 c2 wx) (hb : Below wx.heap.size wx wy) : JW W B C d m p q a s1 b s2 A1 n1 c1 A2 n2 c2 wy := by
  obtain ⟨B', C', D, R, h1, h2, h3⟩ := J.ex
  exact ⟨⟨B', C', D.below hb, R.below hb, h1, h2, h3⟩, J.tn.then (Tn.ofNew hb), J.wp.below hb, J.wq.below hb, J.pn, J.nb⟩
/-- A call of the program's that turns its log and its disk. -/
theorem JW.prog (J : JW W B C d m p q a s1 b s2 A1 n1 c1 A2 n2 c2 wx) (H : ∀ B', DD wx B' d a → ¬ B' p → (∀ k, B' k → k < wx.heap.size) → Calls Try.prog f args wx fun e w' => e = .returned (.int .i64 r) ∧ Lw wx B' p d s' a' w') :
    Calls Try.prog f args wx fun e w' => e = .returned (.int .i64 r) ∧ JW W B C d m p q a' s' b s2 A1 n1 c1 A2 n2 c2 w' ∧ ∃ P : Nat → Prop, (∀ k, P k → B k ∨ W.heap.size ≤ k ∨ k = p) ∧ Tn P wx w' := by
  obtain ⟨B', C', D, R, h1, h2, h3⟩ := J.ex
  have hs := J.tn.size
  obtain ⟨hp, hq, hpq⟩ := J.pn
  obtain ⟨nb1, nb2, nb3, nb4⟩ := J.nb
  have hbp : ¬ B' p := fun h => (h1 p h).elim nb1 fun h => by omega
  have hbq : ¬ B' q := fun h => (h1 q h).elim nb2 fun h => by omega
  have hcp : ¬ C' p := fun h => (h2 p h).elim nb3 fun h => by omega
  refine (H B' D hbp D.bt).mono ?_
  rintro e w' ⟨rfl, B2, D2, t, hB, W1, hn1⟩
  refine ⟨rfl, ⟨⟨B2, C', D2, R.tn t fun k hc hb => hb.elim (fun h => h3 k h hc) fun h => hcp (h ▸ hc), fun k hk => (hB k hk).elim (h1 k) fun h => .inr (by omega), h2, fun k hk hc => (hB k hk).elim (fun h => h3 k h hc) fun h => ?_⟩, ?_, W1, J.wq.tn t fun h => h.elim hbq fun h => hpq h.symm, J.pn, J.nb⟩, _, fun k hk => ?_, t⟩
  · have := R.bt k hc
    omega
  · exact J.tn.thenQ t fun k hk hb => hb.elim (fun h => (h1 k h).elim .inl fun h => absurd hk (by omega)) fun h => .inr (.inr (.inl h))
  · exact hk.elim (fun h => (h1 k h).elim .inl fun h => .inr (.inl h)) fun h => .inr (.inr h)
/-- A call of the document's. -/
theorem JW.doc (J : JW W B C d m p q a s1 b s2 A1 n1 c1 A2 n2 c2 wx) (H : ∀ C', RD wx C' m b → ¬ C' q → (∀ k, C' k → k < wx.heap.size) → Calls Try.prog f args wx fun e w' => e = .returned (.int .i64 r) ∧ Lq wx C' q m s' b' A1 n1 c1 A2 n2 c2 w') :
    Calls Try.prog f args wx fun e w' => e = .returned (.int .i64 r) ∧ JW W B C d m p q a s1 b' s' A1 n1 c1 A2 n2 c2 w' ∧ ∃ P : Nat → Prop, (∀ k, P k → C k ∨ W.heap.size ≤ k ∨ k = q) ∧ Tn P wx w' := by
  obtain ⟨B', C', D, R, h1, h2, h3⟩ := J.ex
  have hs := J.tn.size
  obtain ⟨hp, hq, hpq⟩ := J.pn
  obtain ⟨nb1, nb2, nb3, nb4⟩ := J.nb
  have hbq : ¬ B' q := fun h => (h1 q h).elim nb2 fun h => by omega
  have hcp : ¬ C' p := fun h => (h2 p h).elim nb3 fun h => by omega
  have hcq : ¬ C' q := fun h => (h2 q h).elim nb4 fun h => by omega
  refine (H C' R hcq R.bt).mono ?_
  rintro e w' ⟨rfl, C2, R2, t, hC, W1, hn1⟩
  refine ⟨rfl, ⟨⟨B', C2, D.tn t fun k hb hc => hc.elim (fun h => h3 k hb h) fun h => hbq (h ▸ hb), R2, h1, fun k hk => (hC k hk).elim (h2 k) fun h => .inr (by omega), fun k hk hc => (hC k hc).elim (fun h => h3 k hk h) fun h => ?_⟩, ?_, J.wp.tn t fun h => h.elim hcp fun h => hpq h, W1, J.pn, J.nb⟩, _, fun k hk => ?_, t⟩
  · have := D.bt k hk
    omega
  · exact J.tn.thenQ t fun k hk hb => hb.elim (fun h => (h2 k h).elim (fun h => .inr (.inl h)) fun h => absurd hk (by omega)) fun h => .inr (.inr (.inr h))
  · exact hk.elim (fun h => (h2 k h).elim .inl fun h => .inr (.inl h)) fun h => .inr (.inr h)
end
end Go.Proofs.Ytkkaehaoahpibaa
