/- The log's Rebase. -/
import Derived.Test.YtkkaehaoahpibaaPk17
namespace Go.Proofs.Ytkkaehaoahpibaa
open Go.RowKit Go.BigFrame

/-- The log and its disk, seen from the world w. -/
structure Gw (w : World) (B : Nat → Prop) (p d : Nat) (seg : Int) (a : Ad) (wx : World) : Prop where
  wl : Wp wx p d seg
  d : DD wx B d a
  b : Below w.heap.size w wx
section
variable {w wx wy : World} {B : Nat → Prop} {p d c K : Nat} {seg r : Int} {a a' : Ad} {A : Option Addr} {p1 : List UInt8}
theorem Gw.below (h : Gw w B p d seg a wx) (hb : Below wx.heap.size wx wy) : Gw w B p d seg a wy := ⟨h.wl.below hb, h.d.below hb, h.b.trans (hb.mono h.b.size)⟩
theorem wapp_nil (A : Option Addr) (n c : Nat) : Calls Try.prog 12 #[.pointer none, .slice A n c] w fun e w' => e = .returned (.int .i64 2) ∧ w' = w := by
  go_enter Try.func12, Try.ntmps12
  go_wp2
  go_ret
  exact ⟨rfl, rfl⟩
theorem wsync_nil : Calls Try.prog 14 #[.pointer none] w fun e w' => e = .returned (.int .i64 2) ∧ w' = w := by
  go_enter Try.func14, Try.ntmps14
  go_wp2
  go_ret
  exact ⟨rfl, rfl⟩
theorem wapp_long (A : Option Addr) (n c : Nat) (hn : 1048576 < n) (hm : n ≤ 9223372036854775807) : Calls Try.prog 12 #[wP p, .slice A n c] w fun e w' => e = .returned (.int .i64 8) ∧ w' = w := by
  go_enter Try.func12, Try.ntmps12
  go_wp2
  go_ret
  exact ⟨rfl, rfl⟩
set_option maxRecDepth 100000 in
set_option maxHeartbeats 6400000 in
theorem wapp_any (hw : Wp w p d seg) (D : DD w B d a) (h2 : seg ≤ 9223372036854775807) (hb : Bs w K A c p1) (hK : K ≤ w.heap.size) (hl : p1.length ≤ 1048576) (hr : appD a seg (sealB 1 p1) = (r, a')) :
    Calls Try.prog 12 #[wP p, .slice A p1.length c] w fun e w' => e = .returned (.int .i64 r) ∧ Dw w B d a' w' := by
  have hcl := hb.le
  obtain ⟨L9, hL9⟩ : ∃ L9, L9 = sealB 1 p1 := ⟨_, rfl⟩
  rw [← hL9] at hr
  have HR := Lib.hid hr
  have HW : Hid (∀ wx, Below w.heap.size w wx → Calls Try.prog 38 #[.slice none 0 0, .int .u8 1, .slice A p1.length c] wx (NewB wx L9)) := Lib.hid fun wx hx => by
    have h := with_any 1 wx.heap.size K none 0 0 [] rfl A c p1 wx (Ob.empty _ _) (Nat.le_refl _) (hb.below (hx.mono hK)) (by have := hx.size; omega) hl (by omega)
    have e : 0 + (9 + p1.length) = L9.length := by rw [hL9, sealB_length]; omega
    rw [e, List.nil_append, ← hL9] at h
    exact h
  have HG0 : Hid (Gw w B p d seg a w) := Lib.hid ⟨hw, D, Below.refl _ _⟩
  have HBT := Lib.hid D.bt
  have hq : (1048576 : Int) < (p1.length : Int) → False := fun h => by omega
  clear hr hL9 hb hw D
  go_enter Try.func12, Try.ntmps12
  go_wp2_with fail
  apply region_VT (Hb w) (Gw w B p d seg a) (fun v w' => v = .int .i64 r ∧ Dw w B d a' w') 10 [.inl (wP p), .inl (wP p), .inl (wP p), .inl (dP d), .inl (wP p), .inl (wP p), .inl (.pointer (some ⟨p, 1, none⟩)), .inl (.int .i64 seg), .inl (.slice A p1.length c), .inr L9, .inl undef] (.inl undef)
  case mono => exact fun p v w0 w9 h hb => Hb.mono h hb
  case hm => kernel_rfl
  case hf => kernel_rfl
  case hl => kernel_rfl
  case hQ => exact (by intro c x y w e h; exact And.intro (e.symm.trans (And.left h)) (And.right h))
  case hF => intro vs; simp only [putAll, Act.put, List.setIfInBounds_toArray, List.set_cons_zero, List.set_cons_succ, Nat.reduceAdd]; rfl
  case h0 => exact HG0.out.below ⟨rfl, rfl, rfl, Nat.le_refl _, fun _ _ => rfl⟩
  case hstep =>
    repeat' (first | exact AllOps.nil | apply AllOps.cons)
    · intro vs wx hG hd K hK
      replace hK : ∀ (uu : Value) (w' : World), Below wx.heap.size wx w' → ((Gw w B p d seg a)) w' → (Hb w) (.inl (wP p)) uu w' → K _ w' := hK
      simp only [Act.put, List.setIfInBounds_toArray, List.set_cons_zero, List.set_cons_succ] at hK ⊢
      have HK := Lib.hid hK
      have HG := Lib.hid hG
      clear hK hd
      clear hG
      go_simp
      exact HK.out _ _ (Below.refl _ _) HG.out rfl
    · intro vs wx hG hd K hK
      have e0 : vs 0 = wP p := hd.get (j := 0) (by simp [depsOf, Region.binds])
      replace hK : ∀ (uu : Value) (w' : World), Below wx.heap.size wx w' → ((Gw w B p d seg a)) w' → (Hb w) (.inl (wP p)) uu w' → K _ w' := hK
      simp only [Act.put, List.setIfInBounds_toArray, List.set_cons_zero, List.set_cons_succ, e0] at hK ⊢
      have HK := Lib.hid hK
      have HG := Lib.hid hG
      clear hK hd e0
      clear hG
      go_simp
      exact HK.out _ _ (Below.refl _ _) HG.out rfl
    · intro vs wx hG hd K hK
      have e1 : vs 1 = wP p := hd.get (j := 1) (by simp [depsOf, Region.binds])
      replace hK : ∀ (uu : Value) (w' : World), Below wx.heap.size wx w' → ((Gw w B p d seg a)) w' → (Hb w) (.inl (wP p)) uu w' → K _ w' := hK
      simp only [Act.put, List.setIfInBounds_toArray, List.set_cons_zero, List.set_cons_succ, e1] at hK ⊢
      have HK := Lib.hid hK
      have HG := Lib.hid hG
      clear hK hd e1
      clear hG
      go_simp
      exact HK.out _ _ (Below.refl _ _) HG.out rfl
    · intro vs wx hG hd K hK
      have e2 : vs 2 = wP p := hd.get (j := 2) (by simp [depsOf, Region.binds])
      replace hK : ∀ (uu : Value) (w' : World), Below wx.heap.size wx w' → ((Gw w B p d seg a)) w' → (Hb w) (.inl (dP d)) uu w' → K _ w' := hK
      simp only [Act.put, List.setIfInBounds_toArray, List.set_cons_zero, List.set_cons_succ, e2] at hK ⊢
      have HK := Lib.hid hK
      have HG := Lib.hid hG
      clear hK hd e2
      have gc0 := HG.out.wl.c0
      have gc1 := HG.out.wl.c1
      clear hG
      go_simp
      exact HK.out _ _ (Below.refl _ _) HG.out rfl
    · intro vs wx hG hd K hK
      replace hK : ∀ (uu : Value) (w' : World), Below wx.heap.size wx w' → ((Gw w B p d seg a)) w' → (Hb w) (.inl (wP p)) uu w' → K _ w' := hK
      simp only [Act.put, List.setIfInBounds_toArray, List.set_cons_zero, List.set_cons_succ] at hK ⊢
      have HK := Lib.hid hK
      have HG := Lib.hid hG
      clear hK hd
      clear hG
      go_simp
      exact HK.out _ _ (Below.refl _ _) HG.out rfl
    · intro vs wx hG hd K hK
      have e4 : vs 4 = wP p := hd.get (j := 4) (by simp [depsOf, Region.binds])
      replace hK : ∀ (uu : Value) (w' : World), Below wx.heap.size wx w' → ((Gw w B p d seg a)) w' → (Hb w) (.inl (wP p)) uu w' → K _ w' := hK
      simp only [Act.put, List.setIfInBounds_toArray, List.set_cons_zero, List.set_cons_succ, e4] at hK ⊢
      have HK := Lib.hid hK
      have HG := Lib.hid hG
      clear hK hd e4
      clear hG
      go_simp
      exact HK.out _ _ (Below.refl _ _) HG.out rfl
    · intro vs wx hG hd K hK
      have e5 : vs 5 = wP p := hd.get (j := 5) (by simp [depsOf, Region.binds])
      replace hK : ∀ (uu : Value) (w' : World), Below wx.heap.size wx w' → ((Gw w B p d seg a)) w' → (Hb w) (.inl (.pointer (some ⟨p, 1, none⟩))) uu w' → K _ w' := hK
      simp only [Act.put, List.setIfInBounds_toArray, List.set_cons_zero, List.set_cons_succ, e5] at hK ⊢
      have HK := Lib.hid hK
      have HG := Lib.hid hG
      clear hK hd e5
      clear hG
      go_simp
      exact HK.out _ _ (Below.refl _ _) HG.out rfl
    · intro vs wx hG hd K hK
      have e6 : vs 6 = .pointer (some ⟨p, 1, none⟩) := hd.get (j := 6) (by simp [depsOf, Region.binds])
      replace hK : ∀ (uu : Value) (w' : World), Below wx.heap.size wx w' → ((Gw w B p d seg a)) w' → (Hb w) (.inl (.int .i64 seg)) uu w' → K _ w' := hK
      simp only [Act.put, List.setIfInBounds_toArray, List.set_cons_zero, List.set_cons_succ, e6] at hK ⊢
      have HK := Lib.hid hK
      have HG := Lib.hid hG
      clear hK hd e6
      have gc0 := HG.out.wl.c0
      have gc1 := HG.out.wl.c1
      clear hG
      go_simp
      exact HK.out _ _ (Below.refl _ _) HG.out rfl
    · intro vs wx hG hd K hK
      replace hK : ∀ (uu : Value) (w' : World), Below wx.heap.size wx w' → ((Gw w B p d seg a)) w' → (Hb w) (.inl (.slice A p1.length c)) uu w' → K _ w' := hK
      simp only [Act.put, List.setIfInBounds_toArray, List.set_cons_zero, List.set_cons_succ] at hK ⊢
      have HK := Lib.hid hK
      have HG := Lib.hid hG
      clear hK hd
      clear hG
      go_simp
      exact HK.out _ _ (Below.refl _ _) HG.out rfl
    · intro vs wx hG hd K hK
      have e8 : vs 8 = .slice A p1.length c := hd.get (j := 8) (by simp [depsOf, Region.binds])
      replace hK : ∀ (uu : Value) (w' : World), Below wx.heap.size wx w' → ((Gw w B p d seg a)) w' → (Hb w) (.inr L9) uu w' → K _ w' := hK
      simp only [Act.put, List.setIfInBounds_toArray, List.set_cons_zero, List.set_cons_succ, e8] at hK ⊢
      have HK := Lib.hid hK
      have HG := Lib.hid hG
      clear hK hd e8
      clear hG
      go_simp
      go_at_call 38
      refine (HW.out _ HG.out.b).mono ?_
      rintro e w9 ⟨A9, c9, rfl, ho, hb⟩
      exact HK.out _ _ hb (HG.out.below hb) ⟨A9, c9, rfl, ho.more HG.out.b.size⟩
    · intro vs wx hG hd K hK
      have e3 : vs 3 = dP d := hd.get (j := 3) (by simp [depsOf, Region.binds])
      have e7 : vs 7 = .int .i64 seg := hd.get (j := 7) (by simp [depsOf, Region.binds])
      obtain ⟨A9, c9, e9, q9⟩ : ∃ Aq cq, vs 9 = .slice Aq L9.length cq ∧ Ob wx w.heap.size (.slice Aq L9.length cq) L9 := hd.get (j := 9) (by simp [depsOf, Region.binds])
      replace hK : ∀ (uu : Value) (w' : World), (fun v w' => v = .int .i64 r ∧ Dw w B d a' w') uu w' → K _ w' := hK
      simp only [Act.put, List.setIfInBounds_toArray, List.set_cons_zero, List.set_cons_succ, e3, e7, e9] at hK ⊢
      have HK := Lib.hid hK
      have HG := Lib.hid hG
      clear hK hd e3 e7 e9
      clear hG
      go_simp
      go_at_call 19
      refine (Dw.of HG.out.b (app_DD (r := r) (a' := a') HG.out.d h2 q9.bs.1 rfl (fun hl ad e hb => by have h5 := own_block q9 hl e rfl; have h6 := HBT.out _ hb; omega) HR.out)).mono ?_
      rintro e w9 ⟨rfl, D9⟩
      exact HK.out _ _ ⟨rfl, D9⟩
    · intro vs wx hE K hK
      simp only [Act.put, List.setIfInBounds_toArray, List.set_cons_zero, List.set_cons_succ] at hK ⊢
      have HK := Lib.hid hK
      clear hK hE
      go_simp
      exact HK.out
  case hend =>
    intro vs wx hE he
    obtain ⟨e1, D9⟩ := hE
    rw [he, e1]
    have HD := Lib.hid D9
    clear he e1 D9
    go_wp2_with fail
    go_ret
    exact ⟨rfl, HD.out⟩
set_option maxRecDepth 100000 in
set_option maxHeartbeats 6400000 in
theorem wsync_any (hw : Wp w p d seg) (D : DD w B d a) (h1 : -9223372036854775808 ≤ seg) (h2 : seg ≤ 9223372036854775807) (hr : opD syncA a seg = (r, a')) :
    Calls Try.prog 14 #[wP p] w fun e w' => e = .returned (.int .i64 r) ∧ Dw w B d a' w' := by
  have HR := Lib.hid hr
  have HG0 : Hid (Gw w B p d seg a w) := Lib.hid ⟨hw, D, Below.refl _ _⟩
  clear hr hw D
  go_enter Try.func14, Try.ntmps14
  go_wp2_with fail
  apply region_VT (Hb w) (Gw w B p d seg a) (fun v w' => v = .int .i64 r ∧ Dw w B d a' w') 8 [.inl (wP p), .inl (wP p), .inl (wP p), .inl (dP d), .inl (wP p), .inl (wP p), .inl (.pointer (some ⟨p, 1, none⟩)), .inl (.int .i64 seg), .inl undef] (.inl undef)
  case mono => exact fun p v w0 w9 h hb => Hb.mono h hb
  case hm => kernel_rfl
  case hf => kernel_rfl
  case hl => kernel_rfl
  case hQ => exact (by intro c x y w e h; exact And.intro (e.symm.trans (And.left h)) (And.right h))
  case hF => intro vs; simp only [putAll, Act.put, List.setIfInBounds_toArray, List.set_cons_zero, List.set_cons_succ, Nat.reduceAdd]; rfl
  case h0 => exact HG0.out.below ⟨rfl, rfl, rfl, Nat.le_refl _, fun _ _ => rfl⟩
  case hstep =>
    repeat' (first | exact AllOps.nil | apply AllOps.cons)
    · intro vs wx hG hd K hK
      replace hK : ∀ (uu : Value) (w' : World), Below wx.heap.size wx w' → ((Gw w B p d seg a)) w' → (Hb w) (.inl (wP p)) uu w' → K _ w' := hK
      simp only [Act.put, List.setIfInBounds_toArray, List.set_cons_zero, List.set_cons_succ] at hK ⊢
      have HK := Lib.hid hK
      have HG := Lib.hid hG
      clear hK hd
      clear hG
      go_simp
      exact HK.out _ _ (Below.refl _ _) HG.out rfl
    · intro vs wx hG hd K hK
      have e0 : vs 0 = wP p := hd.get (j := 0) (by simp [depsOf, Region.binds])
      replace hK : ∀ (uu : Value) (w' : World), Below wx.heap.size wx w' → ((Gw w B p d seg a)) w' → (Hb w) (.inl (wP p)) uu w' → K _ w' := hK
      simp only [Act.put, List.setIfInBounds_toArray, List.set_cons_zero, List.set_cons_succ, e0] at hK ⊢
      have HK := Lib.hid hK
      have HG := Lib.hid hG
      clear hK hd e0
      clear hG
      go_simp
      exact HK.out _ _ (Below.refl _ _) HG.out rfl
    · intro vs wx hG hd K hK
      have e1 : vs 1 = wP p := hd.get (j := 1) (by simp [depsOf, Region.binds])
      replace hK : ∀ (uu : Value) (w' : World), Below wx.heap.size wx w' → ((Gw w B p d seg a)) w' → (Hb w) (.inl (wP p)) uu w' → K _ w' := hK
      simp only [Act.put, List.setIfInBounds_toArray, List.set_cons_zero, List.set_cons_succ, e1] at hK ⊢
      have HK := Lib.hid hK
      have HG := Lib.hid hG
      clear hK hd e1
      clear hG
      go_simp
      exact HK.out _ _ (Below.refl _ _) HG.out rfl
    · intro vs wx hG hd K hK
      have e2 : vs 2 = wP p := hd.get (j := 2) (by simp [depsOf, Region.binds])
      replace hK : ∀ (uu : Value) (w' : World), Below wx.heap.size wx w' → ((Gw w B p d seg a)) w' → (Hb w) (.inl (dP d)) uu w' → K _ w' := hK
      simp only [Act.put, List.setIfInBounds_toArray, List.set_cons_zero, List.set_cons_succ, e2] at hK ⊢
      have HK := Lib.hid hK
      have HG := Lib.hid hG
      clear hK hd e2
      have gc0 := HG.out.wl.c0
      have gc1 := HG.out.wl.c1
      clear hG
      go_simp
      exact HK.out _ _ (Below.refl _ _) HG.out rfl
    · intro vs wx hG hd K hK
      replace hK : ∀ (uu : Value) (w' : World), Below wx.heap.size wx w' → ((Gw w B p d seg a)) w' → (Hb w) (.inl (wP p)) uu w' → K _ w' := hK
      simp only [Act.put, List.setIfInBounds_toArray, List.set_cons_zero, List.set_cons_succ] at hK ⊢
      have HK := Lib.hid hK
      have HG := Lib.hid hG
      clear hK hd
      clear hG
      go_simp
      exact HK.out _ _ (Below.refl _ _) HG.out rfl
    · intro vs wx hG hd K hK
      have e4 : vs 4 = wP p := hd.get (j := 4) (by simp [depsOf, Region.binds])
      replace hK : ∀ (uu : Value) (w' : World), Below wx.heap.size wx w' → ((Gw w B p d seg a)) w' → (Hb w) (.inl (wP p)) uu w' → K _ w' := hK
      simp only [Act.put, List.setIfInBounds_toArray, List.set_cons_zero, List.set_cons_succ, e4] at hK ⊢
      have HK := Lib.hid hK
      have HG := Lib.hid hG
      clear hK hd e4
      clear hG
      go_simp
      exact HK.out _ _ (Below.refl _ _) HG.out rfl
    · intro vs wx hG hd K hK
      have e5 : vs 5 = wP p := hd.get (j := 5) (by simp [depsOf, Region.binds])
      replace hK : ∀ (uu : Value) (w' : World), Below wx.heap.size wx w' → ((Gw w B p d seg a)) w' → (Hb w) (.inl (.pointer (some ⟨p, 1, none⟩))) uu w' → K _ w' := hK
      simp only [Act.put, List.setIfInBounds_toArray, List.set_cons_zero, List.set_cons_succ, e5] at hK ⊢
      have HK := Lib.hid hK
      have HG := Lib.hid hG
      clear hK hd e5
      clear hG
      go_simp
      exact HK.out _ _ (Below.refl _ _) HG.out rfl
    · intro vs wx hG hd K hK
      have e6 : vs 6 = .pointer (some ⟨p, 1, none⟩) := hd.get (j := 6) (by simp [depsOf, Region.binds])
      replace hK : ∀ (uu : Value) (w' : World), Below wx.heap.size wx w' → ((Gw w B p d seg a)) w' → (Hb w) (.inl (.int .i64 seg)) uu w' → K _ w' := hK
      simp only [Act.put, List.setIfInBounds_toArray, List.set_cons_zero, List.set_cons_succ, e6] at hK ⊢
      have HK := Lib.hid hK
      have HG := Lib.hid hG
      clear hK hd e6
      have gc0 := HG.out.wl.c0
      have gc1 := HG.out.wl.c1
      clear hG
      go_simp
      exact HK.out _ _ (Below.refl _ _) HG.out rfl
    · intro vs wx hG hd K hK
      have e3 : vs 3 = dP d := hd.get (j := 3) (by simp [depsOf, Region.binds])
      have e7 : vs 7 = .int .i64 seg := hd.get (j := 7) (by simp [depsOf, Region.binds])
      replace hK : ∀ (uu : Value) (w' : World), (fun v w' => v = .int .i64 r ∧ Dw w B d a' w') uu w' → K _ w' := hK
      simp only [Act.put, List.setIfInBounds_toArray, List.set_cons_zero, List.set_cons_succ, e3, e7] at hK ⊢
      have HK := Lib.hid hK
      have HG := Lib.hid hG
      clear hK hd e3 e7
      clear hG
      go_simp
      go_at_call 21
      refine (Dw.of HG.out.b (sync_DD (r := r) (a' := a') HG.out.d h1 h2 HR.out)).mono ?_
      rintro e w9 ⟨rfl, D9⟩
      exact HK.out _ _ ⟨rfl, D9⟩
    · intro vs wx hE K hK
      simp only [Act.put, List.setIfInBounds_toArray, List.set_cons_zero, List.set_cons_succ] at hK ⊢
      have HK := Lib.hid hK
      clear hK hE
      go_simp
      exact HK.out
  case hend =>
    intro vs wx hE he
    obtain ⟨e1, D9⟩ := hE
    rw [he, e1]
    have HD := Lib.hid D9
    clear he e1 D9
    go_wp2_with fail
    go_ret
    exact ⟨rfl, HD.out⟩
end
end Go.Proofs.Ytkkaehaoahpibaa
namespace Go.Proofs.Ytkkaehaoahpibaa
open Go.RowKit Go.BigFrame

section
variable {w wx wy : World} {B : Nat → Prop} {p d c K : Nat} {seg r r2 nx : Int} {a a1 a2 a' : Ad} {A : Option Addr} {p1 : List UInt8}
theorem wreb_nil (A : Option Addr) (n c : Nat) : Calls Try.prog 16 #[.pointer none, .slice A n c] w fun e w' => e = .returned (.int .i64 2) ∧ w' = w := by
  go_enter Try.func16, Try.ntmps16
  go_wp2
  go_ret
  exact ⟨rfl, rfl⟩
theorem wreb_long (A : Option Addr) (n c : Nat) (hn : 1048576 < n) (hm : n ≤ 9223372036854775807) : Calls Try.prog 16 #[wP p, .slice A n c] w fun e w' => e = .returned (.int .i64 8) ∧ w' = w := by
  go_enter Try.func16, Try.ntmps16
  go_wp2
  go_ret
  exact ⟨rfl, rfl⟩
/-- The log and its disk, behind a call. -/
def Lw (w : World) (B : Nat → Prop) (p d : Nat) (seg : Int) (a : Ad) (w' : World) : Prop := ∃ B', DD w' B' d a ∧ Tn (fun k => B k ∨ k = p) w w' ∧ (∀ k, B' k → B k ∨ w.heap.size ≤ k) ∧ Wp w' p d seg ∧ ¬ B' p
theorem Dw.lw (h : Dw w B d a wx) (hw : Wp w p d seg) (hp : ¬ B p) : Lw w B p d seg a wx := by
  obtain ⟨B', D, t, hB⟩ := h
  have hlt := World.block_lt_of_cell? _ _ hw.c0
  exact ⟨B', D, t.mono fun _ _ h => .inl h, hB, hw.tn t hp, fun h => (hB p h).elim hp fun h9 => by simp only at hlt; omega⟩
def rebA (a : Ad) (seg : Int) (b : List UInt8) : Int × Ad × Int :=
  if (appD a (abv seg) b).1 = 0 then ((keepA (appD a (abv seg) b).2 (abv seg) [seg]).1, (keepA (appD a (abv seg) b).2 (abv seg) [seg]).2, abv seg) else ((appD a (abv seg) b).1, (appD a (abv seg) b).2, seg)
set_option maxRecDepth 100000 in
set_option maxHeartbeats 6400000 in
theorem wreb_any (hw : Wp w p d seg) (hp : ¬ B p) (D : DD w B d a) (h1 : 0 ≤ seg) (h2 : seg ≤ 9223372036854775807) (hb : Bs w K A c p1) (hK : K ≤ w.heap.size) (hl : p1.length ≤ 1048576) {sg' : Int} (hr : rebA a seg (framesB p1 []) = (r2, a', sg')) :
    Calls Try.prog 16 #[wP p, .slice A p1.length c] w fun e w' => e = .returned (.int .i64 r2) ∧ Lw w B p d sg' a' w' := by
  have hcl := hb.le
  have hpl : p < w.heap.size := World.block_lt_of_cell? _ _ hw.c0
  obtain ⟨L9, hL9⟩ : ∃ L9, L9 = framesB p1 [] := ⟨_, rfl⟩
  obtain ⟨nx, hnx⟩ : ∃ nx, nx = abv seg := ⟨_, rfl⟩
  obtain ⟨r, a1, ha⟩ : ∃ r a1, appD a nx L9 = (r, a1) := ⟨_, _, rfl⟩
  have hnr := abv_range h1 h2
  rw [← hnx] at hnr
  unfold rebA at hr
  rw [← hnx, ← hL9, ha] at hr
  simp only at hr
  have HR := Lib.hid hr
  have HA := Lib.hid ha
  have HAB : Hid (∀ W : World, Calls Try.prog 29 #[.int .i64 seg] W fun e w' => e = .returned (.int .i64 nx) ∧ w' = W) := Lib.hid fun W => by
    rw [hnx]
    exact above_seg h1 h2
  have HW : Hid (∀ wx, Below w.heap.size w wx → Calls Try.prog 43 #[.agg #[.slice A p1.length c, .slice none 0 0]] wx (NewB wx L9)) := Lib.hid fun wx hx => by
    have h := frames_any K A c p1 none 0 [] wx (hb.below (hx.mono hK)) ⟨Nat.le_refl _, Nat.zero_le _, fun _ => rfl, fun h => absurd h (by simp)⟩ (by have := hx.size; omega) hl (fun x hx => (by cases hx)) (by rw [framesB_len]; simp [recsB]; omega)
    rw [← hL9] at h
    exact h
  have HG0 : Hid (Gw w B p d seg a w) := Lib.hid ⟨hw, D, Below.refl _ _⟩
  have HBT := Lib.hid D.bt
  have HWP := Lib.hid hw
  have HNP := Lib.hid hp
  have hq : (1048576 : Int) < (p1.length : Int) → False := fun h => by omega
  clear hr ha hL9 hnx hb hw D hp
  go_enter Try.func16, Try.ntmps16
  go_wp2_with fail
  apply region_V (Hb w) (Gw w B p d seg a) [.inl (wP p), .inl (wP p), .inl (.pointer (some ⟨p, 1, none⟩)), .inl (.int .i64 seg), .inl (wP p), .inl (wP p), .inl (.pointer (some ⟨p, 1, none⟩)), .inl (.int .i64 seg), .inl (.int .i64 nx), .inl (.int .i64 seg), .inl (.int .i64 nx)] (.inl undef)
  case mono => exact fun p v w0 w9 h hb => Hb.mono h hb
  case hm => kernel_rfl
  case hf => kernel_rfl
  case hQ => exact (by intro c x y w e h; exact And.intro (e.symm.trans (And.left h)) (And.right h))
  case hF => intro vs; simp only [putAll, Act.put, List.setIfInBounds_toArray, List.set_cons_zero, List.set_cons_succ, Nat.reduceAdd]; rfl
  case h0 => exact HG0.out.below ⟨rfl, rfl, rfl, Nat.le_refl _, fun _ _ => rfl⟩
  case hstep =>
    repeat' (first | exact AllOps.nil | apply AllOps.cons)
    · intro vs wx hG hd K hK
      replace hK : ∀ (uu : Value) (w' : World), Below wx.heap.size wx w' → ((Gw w B p d seg a)) w' → (Hb w) (.inl (wP p)) uu w' → K _ w' := hK
      simp only [Act.put, List.setIfInBounds_toArray, List.set_cons_zero, List.set_cons_succ] at hK ⊢
      have HK := Lib.hid hK
      have HG := Lib.hid hG
      clear hK hd
      clear hG
      go_simp
      exact HK.out _ _ (Below.refl _ _) HG.out rfl
    · intro vs wx hG hd K hK
      have e0 : vs 0 = wP p := hd.get (j := 0) (by simp [depsOf, Region.binds])
      replace hK : ∀ (uu : Value) (w' : World), Below wx.heap.size wx w' → ((Gw w B p d seg a)) w' → (Hb w) (.inl (wP p)) uu w' → K _ w' := hK
      simp only [Act.put, List.setIfInBounds_toArray, List.set_cons_zero, List.set_cons_succ, e0] at hK ⊢
      have HK := Lib.hid hK
      have HG := Lib.hid hG
      clear hK hd e0
      clear hG
      go_simp
      exact HK.out _ _ (Below.refl _ _) HG.out rfl
    · intro vs wx hG hd K hK
      have e1 : vs 1 = wP p := hd.get (j := 1) (by simp [depsOf, Region.binds])
      replace hK : ∀ (uu : Value) (w' : World), Below wx.heap.size wx w' → ((Gw w B p d seg a)) w' → (Hb w) (.inl (.pointer (some ⟨p, 1, none⟩))) uu w' → K _ w' := hK
      simp only [Act.put, List.setIfInBounds_toArray, List.set_cons_zero, List.set_cons_succ, e1] at hK ⊢
      have HK := Lib.hid hK
      have HG := Lib.hid hG
      clear hK hd e1
      clear hG
      go_simp
      exact HK.out _ _ (Below.refl _ _) HG.out rfl
    · intro vs wx hG hd K hK
      have e2 : vs 2 = .pointer (some ⟨p, 1, none⟩) := hd.get (j := 2) (by simp [depsOf, Region.binds])
      replace hK : ∀ (uu : Value) (w' : World), Below wx.heap.size wx w' → ((Gw w B p d seg a)) w' → (Hb w) (.inl (.int .i64 seg)) uu w' → K _ w' := hK
      simp only [Act.put, List.setIfInBounds_toArray, List.set_cons_zero, List.set_cons_succ, e2] at hK ⊢
      have HK := Lib.hid hK
      have HG := Lib.hid hG
      clear hK hd e2
      have gc0 := HG.out.wl.c0
      have gc1 := HG.out.wl.c1
      clear hG
      go_simp
      exact HK.out _ _ (Below.refl _ _) HG.out rfl
    · intro vs wx hG hd K hK
      replace hK : ∀ (uu : Value) (w' : World), Below wx.heap.size wx w' → ((Gw w B p d seg a)) w' → (Hb w) (.inl (wP p)) uu w' → K _ w' := hK
      simp only [Act.put, List.setIfInBounds_toArray, List.set_cons_zero, List.set_cons_succ] at hK ⊢
      have HK := Lib.hid hK
      have HG := Lib.hid hG
      clear hK hd
      clear hG
      go_simp
      exact HK.out _ _ (Below.refl _ _) HG.out rfl
    · intro vs wx hG hd K hK
      have e4 : vs 4 = wP p := hd.get (j := 4) (by simp [depsOf, Region.binds])
      replace hK : ∀ (uu : Value) (w' : World), Below wx.heap.size wx w' → ((Gw w B p d seg a)) w' → (Hb w) (.inl (wP p)) uu w' → K _ w' := hK
      simp only [Act.put, List.setIfInBounds_toArray, List.set_cons_zero, List.set_cons_succ, e4] at hK ⊢
      have HK := Lib.hid hK
      have HG := Lib.hid hG
      clear hK hd e4
      clear hG
      go_simp
      exact HK.out _ _ (Below.refl _ _) HG.out rfl
    · intro vs wx hG hd K hK
      have e5 : vs 5 = wP p := hd.get (j := 5) (by simp [depsOf, Region.binds])
      replace hK : ∀ (uu : Value) (w' : World), Below wx.heap.size wx w' → ((Gw w B p d seg a)) w' → (Hb w) (.inl (.pointer (some ⟨p, 1, none⟩))) uu w' → K _ w' := hK
      simp only [Act.put, List.setIfInBounds_toArray, List.set_cons_zero, List.set_cons_succ, e5] at hK ⊢
      have HK := Lib.hid hK
      have HG := Lib.hid hG
      clear hK hd e5
      clear hG
      go_simp
      exact HK.out _ _ (Below.refl _ _) HG.out rfl
    · intro vs wx hG hd K hK
      have e6 : vs 6 = .pointer (some ⟨p, 1, none⟩) := hd.get (j := 6) (by simp [depsOf, Region.binds])
      replace hK : ∀ (uu : Value) (w' : World), Below wx.heap.size wx w' → ((Gw w B p d seg a)) w' → (Hb w) (.inl (.int .i64 seg)) uu w' → K _ w' := hK
      simp only [Act.put, List.setIfInBounds_toArray, List.set_cons_zero, List.set_cons_succ, e6] at hK ⊢
      have HK := Lib.hid hK
      have HG := Lib.hid hG
      clear hK hd e6
      have gc0 := HG.out.wl.c0
      have gc1 := HG.out.wl.c1
      clear hG
      go_simp
      exact HK.out _ _ (Below.refl _ _) HG.out rfl
    · intro vs wx hG hd K hK
      have e7 : vs 7 = .int .i64 seg := hd.get (j := 7) (by simp [depsOf, Region.binds])
      replace hK : ∀ (uu : Value) (w' : World), Below wx.heap.size wx w' → ((Gw w B p d seg a)) w' → (Hb w) (.inl (.int .i64 nx)) uu w' → K _ w' := hK
      simp only [Act.put, List.setIfInBounds_toArray, List.set_cons_zero, List.set_cons_succ, e7] at hK ⊢
      have HK := Lib.hid hK
      have HG := Lib.hid hG
      clear hK hd e7
      clear hG
      go_simp
      go_at_call 29
      refine (HAB.out wx).mono ?_
      rintro e w1 ⟨rfl, hw⟩; have hb : Below wx.heap.size wx w1 := by rw [hw]; exact Below.refl _ _
      exact HK.out _ _ hb (HG.out.below hb) rfl
    · intro vs wx hG hd K hK
      have e3 : vs 3 = .int .i64 seg := hd.get (j := 3) (by simp [depsOf, Region.binds])
      replace hK : ∀ (uu : Value) (w' : World), Below wx.heap.size wx w' → ((Gw w B p d seg a)) w' → (Hb w) (.inl (.int .i64 seg)) uu w' → K _ w' := hK
      simp only [Act.put, List.setIfInBounds_toArray, List.set_cons_zero, List.set_cons_succ, e3] at hK ⊢
      have HK := Lib.hid hK
      have HG := Lib.hid hG
      clear hK hd e3
      clear hG
      go_simp
      exact HK.out _ _ (Below.refl _ _) HG.out rfl
    · intro vs wx hG hd K hK
      have e8 : vs 8 = .int .i64 nx := hd.get (j := 8) (by simp [depsOf, Region.binds])
      replace hK : ∀ (uu : Value) (w' : World), Below wx.heap.size wx w' → ((Gw w B p d seg a)) w' → (Hb w) (.inl (.int .i64 nx)) uu w' → K _ w' := hK
      simp only [Act.put, List.setIfInBounds_toArray, List.set_cons_zero, List.set_cons_succ, e8] at hK ⊢
      have HK := Lib.hid hK
      have HG := Lib.hid hG
      clear hK hd e8
      clear hG
      go_simp
      exact HK.out _ _ (Below.refl _ _) HG.out rfl
  case hend =>
    intro vs wx hG hv
    have e9 : vs 9 = .int .i64 seg := hv 9 (by decide)
    have e10 : vs 10 = .int .i64 nx := hv 10 (by decide)
    rw [e9, e10]
    have HG5 := Lib.hid hG
    clear hv e9 e10 hG
    go_wp2_with fail
    apply region_VT (Hb w) (Gw w B p d seg a) (fun v w' => v = .int .i64 r ∧ Dw w B d a1 w') 8 [.inl (wP p), .inl (wP p), .inl (wP p), .inl (dP d), .inl (.int .i64 nx), .inl (.slice A p1.length c), .inl (.agg #[.slice A p1.length c, .slice none 0 0]), .inr L9, .inl undef] (.inl undef)
    case mono => exact fun p v w0 w9 h hb => Hb.mono h hb
    case hm => kernel_rfl
    case hf => kernel_rfl
    case hl => kernel_rfl
    case hQ => exact (by intro c x y w e h; exact And.intro (e.symm.trans (And.left h)) (And.right h))
    case hF => intro vs; simp only [putAll, Act.put, List.setIfInBounds_toArray, List.set_cons_zero, List.set_cons_succ, Nat.reduceAdd]; rfl
    case h0 => exact HG5.out.below ⟨rfl, rfl, rfl, Nat.le_refl _, fun _ _ => rfl⟩
    case hstep =>
      repeat' (first | exact AllOps.nil | apply AllOps.cons)
      · intro vs wx hG hd K hK
        replace hK : ∀ (uu : Value) (w' : World), Below wx.heap.size wx w' → ((Gw w B p d seg a)) w' → (Hb w) (.inl (wP p)) uu w' → K _ w' := hK
        simp only [Act.put, List.setIfInBounds_toArray, List.set_cons_zero, List.set_cons_succ] at hK ⊢
        have HK := Lib.hid hK
        have HG := Lib.hid hG
        clear hK hd
        clear hG
        go_simp
        exact HK.out _ _ (Below.refl _ _) HG.out rfl
      · intro vs wx hG hd K hK
        have e0 : vs 0 = wP p := hd.get (j := 0) (by simp [depsOf, Region.binds])
        replace hK : ∀ (uu : Value) (w' : World), Below wx.heap.size wx w' → ((Gw w B p d seg a)) w' → (Hb w) (.inl (wP p)) uu w' → K _ w' := hK
        simp only [Act.put, List.setIfInBounds_toArray, List.set_cons_zero, List.set_cons_succ, e0] at hK ⊢
        have HK := Lib.hid hK
        have HG := Lib.hid hG
        clear hK hd e0
        clear hG
        go_simp
        exact HK.out _ _ (Below.refl _ _) HG.out rfl
      · intro vs wx hG hd K hK
        have e1 : vs 1 = wP p := hd.get (j := 1) (by simp [depsOf, Region.binds])
        replace hK : ∀ (uu : Value) (w' : World), Below wx.heap.size wx w' → ((Gw w B p d seg a)) w' → (Hb w) (.inl (wP p)) uu w' → K _ w' := hK
        simp only [Act.put, List.setIfInBounds_toArray, List.set_cons_zero, List.set_cons_succ, e1] at hK ⊢
        have HK := Lib.hid hK
        have HG := Lib.hid hG
        clear hK hd e1
        clear hG
        go_simp
        exact HK.out _ _ (Below.refl _ _) HG.out rfl
      · intro vs wx hG hd K hK
        have e2 : vs 2 = wP p := hd.get (j := 2) (by simp [depsOf, Region.binds])
        replace hK : ∀ (uu : Value) (w' : World), Below wx.heap.size wx w' → ((Gw w B p d seg a)) w' → (Hb w) (.inl (dP d)) uu w' → K _ w' := hK
        simp only [Act.put, List.setIfInBounds_toArray, List.set_cons_zero, List.set_cons_succ, e2] at hK ⊢
        have HK := Lib.hid hK
        have HG := Lib.hid hG
        clear hK hd e2
        have gc0 := HG.out.wl.c0
        have gc1 := HG.out.wl.c1
        clear hG
        go_simp
        exact HK.out _ _ (Below.refl _ _) HG.out rfl
      · intro vs wx hG hd K hK
        replace hK : ∀ (uu : Value) (w' : World), Below wx.heap.size wx w' → ((Gw w B p d seg a)) w' → (Hb w) (.inl (.int .i64 nx)) uu w' → K _ w' := hK
        simp only [Act.put, List.setIfInBounds_toArray, List.set_cons_zero, List.set_cons_succ] at hK ⊢
        have HK := Lib.hid hK
        have HG := Lib.hid hG
        clear hK hd
        clear hG
        go_simp
        exact HK.out _ _ (Below.refl _ _) HG.out rfl
      · intro vs wx hG hd K hK
        replace hK : ∀ (uu : Value) (w' : World), Below wx.heap.size wx w' → ((Gw w B p d seg a)) w' → (Hb w) (.inl (.slice A p1.length c)) uu w' → K _ w' := hK
        simp only [Act.put, List.setIfInBounds_toArray, List.set_cons_zero, List.set_cons_succ] at hK ⊢
        have HK := Lib.hid hK
        have HG := Lib.hid hG
        clear hK hd
        clear hG
        go_simp
        exact HK.out _ _ (Below.refl _ _) HG.out rfl
      · intro vs wx hG hd K hK
        have e5 : vs 5 = .slice A p1.length c := hd.get (j := 5) (by simp [depsOf, Region.binds])
        replace hK : ∀ (uu : Value) (w' : World), Below wx.heap.size wx w' → ((Gw w B p d seg a)) w' → (Hb w) (.inl (.agg #[.slice A p1.length c, .slice none 0 0])) uu w' → K _ w' := hK
        simp only [Act.put, List.setIfInBounds_toArray, List.set_cons_zero, List.set_cons_succ, e5] at hK ⊢
        have HK := Lib.hid hK
        have HG := Lib.hid hG
        clear hK hd e5
        clear hG
        go_simp
        exact HK.out _ _ (Below.refl _ _) HG.out rfl
      · intro vs wx hG hd K hK
        have e6 : vs 6 = .agg #[.slice A p1.length c, .slice none 0 0] := hd.get (j := 6) (by simp [depsOf, Region.binds])
        replace hK : ∀ (uu : Value) (w' : World), Below wx.heap.size wx w' → ((Gw w B p d seg a)) w' → (Hb w) (.inr L9) uu w' → K _ w' := hK
        simp only [Act.put, List.setIfInBounds_toArray, List.set_cons_zero, List.set_cons_succ, e6] at hK ⊢
        have HK := Lib.hid hK
        have HG := Lib.hid hG
        clear hK hd e6
        clear hG
        go_simp
        go_at_call 43
        refine (HW.out _ HG.out.b).mono ?_
        rintro e w9 ⟨A9, c9, rfl, ho, hb⟩
        exact HK.out _ _ hb (HG.out.below hb) ⟨A9, c9, rfl, ho.more HG.out.b.size⟩
      · intro vs wx hG hd K hK
        have e3 : vs 3 = dP d := hd.get (j := 3) (by simp [depsOf, Region.binds])
        have e4 : vs 4 = .int .i64 nx := hd.get (j := 4) (by simp [depsOf, Region.binds])
        obtain ⟨A7, c7, e7, q7⟩ : ∃ Aq cq, vs 7 = .slice Aq L9.length cq ∧ Ob wx w.heap.size (.slice Aq L9.length cq) L9 := hd.get (j := 7) (by simp [depsOf, Region.binds])
        replace hK : ∀ (uu : Value) (w' : World), (fun v w' => v = .int .i64 r ∧ Dw w B d a1 w') uu w' → K _ w' := hK
        simp only [Act.put, List.setIfInBounds_toArray, List.set_cons_zero, List.set_cons_succ, e3, e4, e7] at hK ⊢
        have HK := Lib.hid hK
        have HG := Lib.hid hG
        clear hK hd e3 e4 e7
        clear hG
        go_simp
        go_at_call 19
        refine (Dw.of HG.out.b (app_DD (r := r) (a' := a1) HG.out.d hnr.2 q7.bs.1 rfl (fun hl ad e hb => by have h5 := own_block q7 hl e rfl; have h6 := HBT.out _ hb; omega) HA.out)).mono ?_
        rintro e w9 ⟨rfl, D9⟩
        exact HK.out _ _ ⟨rfl, D9⟩
      · intro vs wx hE K hK
        simp only [Act.put, List.setIfInBounds_toArray, List.set_cons_zero, List.set_cons_succ] at hK ⊢
        have HK := Lib.hid hK
        clear hK hE
        go_simp
        exact HK.out
    case hend =>
      intro vs wy hE he
      obtain ⟨e1, D9⟩ := hE
      rw [he, e1]
      obtain ⟨B1, D1, t1, hB1, W1, hnp1⟩ := D9.lw HWP.out HNP.out
      have y0 := W1.c0
      have y1 := W1.c1
      have yf := W1.fr
      have hyl : p < wy.heap.size := World.block_lt_of_cell? _ _ y0
      clear he e1 D9
      by_cases hr0 : r = 0
      · subst hr0
        obtain ⟨r3, a3, h3⟩ : ∃ r3 a3, keepA a1 nx [seg] = (r3, a3) := ⟨_, _, rfl⟩
        have HN : Hid (r3 = r2 ∧ a3 = a' ∧ nx = sg') := Lib.hid (by have := HR.out; rw [if_pos rfl, h3] at this; simpa using this)
        have t2 := Tn.setCell wy p 1 (.int .i64 nx)
        have D2 : DD (wy.setCell ⟨p, 1, none⟩ (.int .i64 nx)) B1 d a1 := D1.tn t2 fun k hk e => by subst e; exact hnp1 hk
        have W2 : Wp (wy.setCell ⟨p, 1, none⟩ (.int .i64 nx)) p d nx := ⟨by simpa [go_sem] using y0, by simp [go_sem, y1], fun j => by simp [go_sem, yf]⟩
        have D3 := D2.alloc (.cells #[.int .i64 seg] 3)
        have S3 : Sr encI 1 ((wy.setCell ⟨p, 1, none⟩ (.int .i64 nx)).alloc (.cells #[.int .i64 seg] 3)) (wy.heap.size + 1) (some ⟨wy.heap.size, 0, none⟩) 1 [seg] := ⟨Nat.le_refl _, by unfold maxLen; omega, (fun h => by cases h), fun _ => ⟨_, rfl, Nat.lt_succ_self _, fun i x hi j u hu => by
          cases i with
          | succ i => simp at hi
          | zero =>
            simp at hi
            subst hi
            cases j with
            | succ j => simp [encI] at hu
            | zero =>
              simp [encI] at hu
              subst hu
              simp [go_sem, Addr.add]⟩⟩
        have hks : ¬ B1 wy.heap.size := fun h => Nat.lt_irrefl _ (D1.bt _ h)
        have HC := Lib.hid (keep_any (r := r3) (a' := a3) D3 (by omega) hnr.2 S3 (fun _ ad e hb => by cases e; exact hks hb) (fun o ho => by simp at ho; subst ho; omega) h3)
        have t23 : Tn (fun k => B k ∨ k = p) w ((wy.setCell ⟨p, 1, none⟩ (.int .i64 nx)).alloc (.cells #[.int .i64 seg] 3)) := (t1.then (t2.mono fun _ _ h => .inr h)).then (Tn.ofNew ((Below.refl _ _).alloc (Nat.le_refl _) _))
        have HT := Lib.hid t23
        have HB1 := Lib.hid hB1
        have HW2 := Lib.hid (W2.below ((Below.refl _ _).alloc (Nat.le_refl _) (.cells #[.int .i64 seg] 3)))
        have HNP1 := Lib.hid hnp1
        have HT1 := Lib.hid t1.size
        clear h3 D1 t1 hB1 W1 hnp1 t2 D2 W2 D3 S3 hks t23 HR HG5
        go_wp2_with (go_at_call 44; refine HC.out.mono ?_; rintro e w9 ⟨rfl, B9, D9, t9, hB9⟩; have HD9 := Lib.hid D9; have HT9 := Lib.hid t9; have HB9 := Lib.hid hB9; clear D9 t9 hB9)
        go_ret
        obtain ⟨rfl, rfl, rfl⟩ := HN.out
        have hs3 := HT1.out
        refine ⟨rfl, B9, HD9.out, HT.out.thenQ HT9.out fun k hk hb => (HB1.out k hb).elim .inl fun h => absurd hk (by omega), fun k hk => (HB9.out k hk).elim (HB1.out k) fun h => .inr (by simp at h; omega), HW2.out.tn HT9.out HNP1.out, fun h => (HB9.out _ h).elim HNP1.out fun h => by simp at h; omega⟩
      · have q0 : (r == (0 : Int)) = false := by simpa using hr0
        have HN : Hid (r = r2 ∧ a1 = a' ∧ seg = sg') := Lib.hid (by have := HR.out; rw [if_neg hr0] at this; simpa using this)
        have HL : Hid (Lw w B p d seg a1 wy) := Lib.hid ⟨B1, D1, t1, hB1, W1, hnp1⟩
        clear hr0 HR D1 t1 hB1 W1 hnp1 HG5
        go_wp2_with fail
        go_ret
        obtain ⟨rfl, rfl, rfl⟩ := HN.out
        exact ⟨rfl, HL.out⟩
end
end Go.Proofs.Ytkkaehaoahpibaa
