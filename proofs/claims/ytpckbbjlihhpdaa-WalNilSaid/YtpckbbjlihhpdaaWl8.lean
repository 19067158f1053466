/- The log's Append and Sync. -/
import Derived.Test.YtpckbbjlihhpdaaWl7
import Derived.Test.YtpckbbjlihhpdaaRegVT
namespace Go.Proofs.Ytpckbbjlihhpdaa
open Go.RowKit Go.BigFrame

/-- The log and its disk, seen from the world w. -/
structure Gw (w : World) (B : Nat → Prop) (p d : Nat) (seg : Int) (a : Ad) (wx : World) : Prop where
  wl : Wp wx p d seg
  d : DD wx B d a
  b : Below w.heap.size w wx
section
variable {w wx wy : World} {B : Nat → Prop} {p d c K : Nat} {seg r : Int} {a a' : Ad} {A : Option Addr} {p1 : List UInt8}
theorem Gw.below (h : Gw w B p d seg a wx) (hb : Below wx.heap.size wx wy) : Gw w B p d seg a wy := ⟨h.wl.below hb, h.d.below hb, h.b.trans (hb.mono h.b.size)⟩
theorem wapp_nil (A : Option Addr) (n c : Nat) : Calls Try.prog 16 #[.pointer none, .slice A n c] w fun e w' => e = .returned (.int .i64 2) ∧ w' = w := by
  go_enter Try.func16, Try.ntmps16
  go_wp2
  go_ret
  exact ⟨rfl, rfl⟩
theorem wsync_nil : Calls Try.prog 18 #[.pointer none] w fun e w' => e = .returned (.int .i64 2) ∧ w' = w := by
  go_enter Try.func18, Try.ntmps18
  go_wp2
  go_ret
  exact ⟨rfl, rfl⟩
theorem wapp_long (A : Option Addr) (n c : Nat) (hn : 1048576 < n) (hm : n ≤ 9223372036854775807) : Calls Try.prog 16 #[wP p, .slice A n c] w fun e w' => e = .returned (.int .i64 8) ∧ w' = w := by
  go_enter Try.func16, Try.ntmps16
  go_wp2
  go_ret
  exact ⟨rfl, rfl⟩
set_option maxRecDepth 100000 in
set_option maxHeartbeats 6400000 in
theorem wapp_any (hw : Wp w p d seg) (D : DD w B d a) (h2 : seg ≤ 9223372036854775807) (hb : Bs w K A c p1) (hK : K ≤ w.heap.size) (hl : p1.length ≤ 1048576) (hr : appD a seg (sealB 1 p1) = (r, a')) :
    Calls Try.prog 16 #[wP p, .slice A p1.length c] w fun e w' => e = .returned (.int .i64 r) ∧ Dw w B d a' w' := by
  have hcl := hb.le
  obtain ⟨L9, hL9⟩ : ∃ L9, L9 = sealB 1 p1 := ⟨_, rfl⟩
  rw [← hL9] at hr
  have HR := Lib.hid hr
  have HW : Hid (∀ wx, Below w.heap.size w wx → Calls Try.prog 42 #[.slice none 0 0, .int .u8 1, .slice A p1.length c] wx (NewB wx L9)) := Lib.hid fun wx hx => by
    have h := with_any 1 wx.heap.size K none 0 0 [] rfl A c p1 wx (Ob.empty _ _) (Nat.le_refl _) (hb.below (hx.mono hK)) (by have := hx.size; omega) hl (by omega)
    have e : 0 + (9 + p1.length) = L9.length := by rw [hL9, sealB_length]; omega
    rw [e, List.nil_append, ← hL9] at h
    exact h
  have HG0 : Hid (Gw w B p d seg a w) := Lib.hid ⟨hw, D, Below.refl _ _⟩
  have HBT := Lib.hid D.bt
  have hq : (1048576 : Int) < (p1.length : Int) → False := fun h => by omega
  clear hr hL9 hb hw D
  go_enter Try.func16, Try.ntmps16
  go_wp2_with fail
  apply region_VT (Hb w) (Gw w B p d seg a) (fun v w' => v = .int .i64 r ∧ Dw w B d a' w') 10 [.inl (wP p), .inl (wP p), .inl (wP p), .inl (dP d), .inl (wP p), .inl (wP p), .inl (.pointer (some ⟨p, 1, none⟩)), .inl (.int .i64 seg), .inl (.slice A p1.length c), .inr L9, .inl undef] (.inl undef)
  case mono => exact fun p v w0 w9 h hb => Hb.mono h hb
  case hm => kernel_rfl
  case hf => kernel_rfl
  case hl => kernel_rfl
  case hQ => exact (by intro c x y w e h; exact And.intro (e.symm.trans (And.left h)) (And.right h))
  case hF => intro vs; simp only [putAll, Act.put, List.setIfInBounds_toArray, List.set_cons_zero, List.set_cons_succ, Nat.reduceAdd]; rfl
  case h0 => exact HG0.out.below ⟨rfl, rfl, rfl, Nat.le_refl _, fun _ _ => rfl⟩
  case hstep =>
    repeat' (first | exact AllOps.nil | apply AllOps.cons)
    · intro vs wx hG hd K hK
      replace hK : ∀ (uu : Value) (w' : World), Below wx.heap.size wx w' → ((Gw w B p d seg a)) w' → (Hb w) (.inl (wP p)) uu w' → K _ w' := hK
      simp only [Act.put, List.setIfInBounds_toArray, List.set_cons_zero, List.set_cons_succ] at hK ⊢
      have HK := Lib.hid hK
      have HG := Lib.hid hG
      clear hK hd
      clear hG
      go_simp
      exact HK.out _ _ (Below.refl _ _) HG.out rfl
    · intro vs wx hG hd K hK
      have e0 : vs 0 = wP p := hd.get (j := 0) (by simp [depsOf, Region.binds])
      replace hK : ∀ (uu : Value) (w' : World), Below wx.heap.size wx w' → ((Gw w B p d seg a)) w' → (Hb w) (.inl (wP p)) uu w' → K _ w' := hK
      simp only [Act.put, List.setIfInBounds_toArray, List.set_cons_zero, List.set_cons_succ, e0] at hK ⊢
      have HK := Lib.hid hK
      have HG := Lib.hid hG
      clear hK hd e0
      clear hG
      go_simp
      exact HK.out _ _ (Below.refl _ _) HG.out rfl
    · intro vs wx hG hd K hK
      have e1 : vs 1 = wP p := hd.get (j := 1) (by simp [depsOf, Region.binds])
      replace hK : ∀ (uu : Value) (w' : World), Below wx.heap.size wx w' → ((Gw w B p d seg a)) w' → (Hb w) (.inl (wP p)) uu w' → K _ w' := hK
      simp only [Act.put, List.setIfInBounds_toArray, List.set_cons_zero, List.set_cons_succ, e1] at hK ⊢
      have HK := Lib.hid hK
      have HG := Lib.hid hG
      clear hK hd e1
      clear hG
      go_simp
      exact HK.out _ _ (Below.refl _ _) HG.out rfl
    · intro vs wx hG hd K hK
      have e2 : vs 2 = wP p := hd.get (j := 2) (by simp [depsOf, Region.binds])
      replace hK : ∀ (uu : Value) (w' : World), Below wx.heap.size wx w' → ((Gw w B p d seg a)) w' → (Hb w) (.inl (dP d)) uu w' → K _ w' := hK
      simp only [Act.put, List.setIfInBounds_toArray, List.set_cons_zero, List.set_cons_succ, e2] at hK ⊢
      have HK := Lib.hid hK
      have HG := Lib.hid hG
      clear hK hd e2
      have gc0 := HG.out.wl.c0
      have gc1 := HG.out.wl.c1
      clear hG
      go_simp
      exact HK.out _ _ (Below.refl _ _) HG.out rfl
    · intro vs wx hG hd K hK
      replace hK : ∀ (uu : Value) (w' : World), Below wx.heap.size wx w' → ((Gw w B p d seg a)) w' → (Hb w) (.inl (wP p)) uu w' → K _ w' := hK
      simp only [Act.put, List.setIfInBounds_toArray, List.set_cons_zero, List.set_cons_succ] at hK ⊢
      have HK := Lib.hid hK
      have HG := Lib.hid hG
      clear hK hd
      clear hG
      go_simp
      exact HK.out _ _ (Below.refl _ _) HG.out rfl
    · intro vs wx hG hd K hK
      have e4 : vs 4 = wP p := hd.get (j := 4) (by simp [depsOf, Region.binds])
      replace hK : ∀ (uu : Value) (w' : World), Below wx.heap.size wx w' → ((Gw w B p d seg a)) w' → (Hb w) (.inl (wP p)) uu w' → K _ w' := hK
      simp only [Act.put, List.setIfInBounds_toArray, List.set_cons_zero, List.set_cons_succ, e4] at hK ⊢
      have HK := Lib.hid hK
      have HG := Lib.hid hG
      clear hK hd e4
      clear hG
      go_simp
      exact HK.out _ _ (Below.refl _ _) HG.out rfl
    · intro vs wx hG hd K hK
      have e5 : vs 5 = wP p := hd.get (j := 5) (by simp [depsOf, Region.binds])
      replace hK : ∀ (uu : Value) (w' : World), Below wx.heap.size wx w' → ((Gw w B p d seg a)) w' → (Hb w) (.inl (.pointer (some ⟨p, 1, none⟩))) uu w' → K _ w' := hK
      simp only [Act.put, List.setIfInBounds_toArray, List.set_cons_zero, List.set_cons_succ, e5] at hK ⊢
      have HK := Lib.hid hK
      have HG := Lib.hid hG
      clear hK hd e5
      clear hG
      go_simp
      exact HK.out _ _ (Below.refl _ _) HG.out rfl
    · intro vs wx hG hd K hK
      have e6 : vs 6 = .pointer (some ⟨p, 1, none⟩) := hd.get (j := 6) (by simp [depsOf, Region.binds])
      replace hK : ∀ (uu : Value) (w' : World), Below wx.heap.size wx w' → ((Gw w B p d seg a)) w' → (Hb w) (.inl (.int .i64 seg)) uu w' → K _ w' := hK
      simp only [Act.put, List.setIfInBounds_toArray, List.set_cons_zero, List.set_cons_succ, e6] at hK ⊢
      have HK := Lib.hid hK
      have HG := Lib.hid hG
      clear hK hd e6
      have gc0 := HG.out.wl.c0
      have gc1 := HG.out.wl.c1
      clear hG
      go_simp
      exact HK.out _ _ (Below.refl _ _) HG.out rfl
    · intro vs wx hG hd K hK
      replace hK : ∀ (uu : Value) (w' : World), Below wx.heap.size wx w' → ((Gw w B p d seg a)) w' → (Hb w) (.inl (.slice A p1.length c)) uu w' → K _ w' := hK
      simp only [Act.put, List.setIfInBounds_toArray, List.set_cons_zero, List.set_cons_succ] at hK ⊢
      have HK := Lib.hid hK
      have HG := Lib.hid hG
      clear hK hd
      clear hG
      go_simp
      exact HK.out _ _ (Below.refl _ _) HG.out rfl
    · intro vs wx hG hd K hK
      have e8 : vs 8 = .slice A p1.length c := hd.get (j := 8) (by simp [depsOf, Region.binds])
      replace hK : ∀ (uu : Value) (w' : World), Below wx.heap.size wx w' → ((Gw w B p d seg a)) w' → (Hb w) (.inr L9) uu w' → K _ w' := hK
      simp only [Act.put, List.setIfInBounds_toArray, List.set_cons_zero, List.set_cons_succ, e8] at hK ⊢
      have HK := Lib.hid hK
      have HG := Lib.hid hG
      clear hK hd e8
      clear hG
      go_simp
      go_at_call 42
      refine (HW.out _ HG.out.b).mono ?_
      rintro e w9 ⟨A9, c9, rfl, ho, hb⟩
      exact HK.out _ _ hb (HG.out.below hb) ⟨A9, c9, rfl, ho.more HG.out.b.size⟩
    · intro vs wx hG hd K hK
      have e3 : vs 3 = dP d := hd.get (j := 3) (by simp [depsOf, Region.binds])
      have e7 : vs 7 = .int .i64 seg := hd.get (j := 7) (by simp [depsOf, Region.binds])
      obtain ⟨A9, c9, e9, q9⟩ : ∃ Aq cq, vs 9 = .slice Aq L9.length cq ∧ Ob wx w.heap.size (.slice Aq L9.length cq) L9 := hd.get (j := 9) (by simp [depsOf, Region.binds])
      replace hK : ∀ (uu : Value) (w' : World), (fun v w' => v = .int .i64 r ∧ Dw w B d a' w') uu w' → K _ w' := hK
      simp only [Act.put, List.setIfInBounds_toArray, List.set_cons_zero, List.set_cons_succ, e3, e7, e9] at hK ⊢
      have HK := Lib.hid hK
      have HG := Lib.hid hG
      clear hK hd e3 e7 e9
      clear hG
      go_simp
      go_at_call 22
      refine (Dw.of HG.out.b (app_DD (r := r) (a' := a') HG.out.d h2 q9.bs.1 rfl (fun hl ad e hb => by have h5 := own_block q9 hl e rfl; have h6 := HBT.out _ hb; omega) HR.out)).mono ?_
      rintro e w9 ⟨rfl, D9⟩
      exact HK.out _ _ ⟨rfl, D9⟩
    · intro vs wx hE K hK
      simp only [Act.put, List.setIfInBounds_toArray, List.set_cons_zero, List.set_cons_succ] at hK ⊢
      have HK := Lib.hid hK
      clear hK hE
      go_simp
      exact HK.out
  case hend =>
    intro vs wx hE he
    obtain ⟨e1, D9⟩ := hE
    rw [he, e1]
    have HD := Lib.hid D9
    clear he e1 D9
    go_wp2_with fail
    go_ret
    exact ⟨rfl, HD.out⟩
set_option maxRecDepth 100000 in
set_option maxHeartbeats 6400000 in
theorem wsync_any (hw : Wp w p d seg) (D : DD w B d a) (h1 : -9223372036854775808 ≤ seg) (h2 : seg ≤ 9223372036854775807) (hr : opD syncA a seg = (r, a')) :
    Calls Try.prog 18 #[wP p] w fun e w' => e = .returned (.int .i64 r) ∧ Dw w B d a' w' := by
  have HR := Lib.hid hr
  have HG0 : Hid (Gw w B p d seg a w) := Lib.hid ⟨hw, D, Below.refl _ _⟩
  clear hr hw D
  go_enter Try.func18, Try.ntmps18
  go_wp2_with fail
  apply region_VT (Hb w) (Gw w B p d seg a) (fun v w' => v = .int .i64 r ∧ Dw w B d a' w') 8 [.inl (wP p), .inl (wP p), .inl (wP p), .inl (dP d), .inl (wP p), .inl (wP p), .inl (.pointer (some ⟨p, 1, none⟩)), .inl (.int .i64 seg), .inl undef] (.inl undef)
  case mono => exact fun p v w0 w9 h hb => Hb.mono h hb
  case hm => kernel_rfl
  case hf => kernel_rfl
  case hl => kernel_rfl
  case hQ => exact (by intro c x y w e h; exact And.intro (e.symm.trans (And.left h)) (And.right h))
  case hF => intro vs; simp only [putAll, Act.put, List.setIfInBounds_toArray, List.set_cons_zero, List.set_cons_succ, Nat.reduceAdd]; rfl
  case h0 => exact HG0.out.below ⟨rfl, rfl, rfl, Nat.le_refl _, fun _ _ => rfl⟩
  case hstep =>
    repeat' (first | exact AllOps.nil | apply AllOps.cons)
    · intro vs wx hG hd K hK
      replace hK : ∀ (uu : Value) (w' : World), Below wx.heap.size wx w' → ((Gw w B p d seg a)) w' → (Hb w) (.inl (wP p)) uu w' → K _ w' := hK
      simp only [Act.put, List.setIfInBounds_toArray, List.set_cons_zero, List.set_cons_succ] at hK ⊢
      have HK := Lib.hid hK
      have HG := Lib.hid hG
      clear hK hd
      clear hG
      go_simp
      exact HK.out _ _ (Below.refl _ _) HG.out rfl
    · intro vs wx hG hd K hK
      have e0 : vs 0 = wP p := hd.get (j := 0) (by simp [depsOf, Region.binds])
      replace hK : ∀ (uu : Value) (w' : World), Below wx.heap.size wx w' → ((Gw w B p d seg a)) w' → (Hb w) (.inl (wP p)) uu w' → K _ w' := hK
      simp only [Act.put, List.setIfInBounds_toArray, List.set_cons_zero, List.set_cons_succ, e0] at hK ⊢
      have HK := Lib.hid hK
      have HG := Lib.hid hG
      clear hK hd e0
      clear hG
      go_simp
      exact HK.out _ _ (Below.refl _ _) HG.out rfl
    · intro vs wx hG hd K hK
      have e1 : vs 1 = wP p := hd.get (j := 1) (by simp [depsOf, Region.binds])
      replace hK : ∀ (uu : Value) (w' : World), Below wx.heap.size wx w' → ((Gw w B p d seg a)) w' → (Hb w) (.inl (wP p)) uu w' → K _ w' := hK
      simp only [Act.put, List.setIfInBounds_toArray, List.set_cons_zero, List.set_cons_succ, e1] at hK ⊢
      have HK := Lib.hid hK
      have HG := Lib.hid hG
      clear hK hd e1
      clear hG
      go_simp
      exact HK.out _ _ (Below.refl _ _) HG.out rfl
    · intro vs wx hG hd K hK
      have e2 : vs 2 = wP p := hd.get (j := 2) (by simp [depsOf, Region.binds])
      replace hK : ∀ (uu : Value) (w' : World), Below wx.heap.size wx w' → ((Gw w B p d seg a)) w' → (Hb w) (.inl (dP d)) uu w' → K _ w' := hK
      simp only [Act.put, List.setIfInBounds_toArray, List.set_cons_zero, List.set_cons_succ, e2] at hK ⊢
      have HK := Lib.hid hK
      have HG := Lib.hid hG
      clear hK hd e2
      have gc0 := HG.out.wl.c0
      have gc1 := HG.out.wl.c1
      clear hG
      go_simp
      exact HK.out _ _ (Below.refl _ _) HG.out rfl
    · intro vs wx hG hd K hK
      replace hK : ∀ (uu : Value) (w' : World), Below wx.heap.size wx w' → ((Gw w B p d seg a)) w' → (Hb w) (.inl (wP p)) uu w' → K _ w' := hK
      simp only [Act.put, List.setIfInBounds_toArray, List.set_cons_zero, List.set_cons_succ] at hK ⊢
      have HK := Lib.hid hK
      have HG := Lib.hid hG
      clear hK hd
      clear hG
      go_simp
      exact HK.out _ _ (Below.refl _ _) HG.out rfl
    · intro vs wx hG hd K hK
      have e4 : vs 4 = wP p := hd.get (j := 4) (by simp [depsOf, Region.binds])
      replace hK : ∀ (uu : Value) (w' : World), Below wx.heap.size wx w' → ((Gw w B p d seg a)) w' → (Hb w) (.inl (wP p)) uu w' → K _ w' := hK
      simp only [Act.put, List.setIfInBounds_toArray, List.set_cons_zero, List.set_cons_succ, e4] at hK ⊢
      have HK := Lib.hid hK
      have HG := Lib.hid hG
      clear hK hd e4
      clear hG
      go_simp
      exact HK.out _ _ (Below.refl _ _) HG.out rfl
    · intro vs wx hG hd K hK
      have e5 : vs 5 = wP p := hd.get (j := 5) (by simp [depsOf, Region.binds])
      replace hK : ∀ (uu : Value) (w' : World), Below wx.heap.size wx w' → ((Gw w B p d seg a)) w' → (Hb w) (.inl (.pointer (some ⟨p, 1, none⟩))) uu w' → K _ w' := hK
      simp only [Act.put, List.setIfInBounds_toArray, List.set_cons_zero, List.set_cons_succ, e5] at hK ⊢
      have HK := Lib.hid hK
      have HG := Lib.hid hG
      clear hK hd e5
      clear hG
      go_simp
      exact HK.out _ _ (Below.refl _ _) HG.out rfl
    · intro vs wx hG hd K hK
      have e6 : vs 6 = .pointer (some ⟨p, 1, none⟩) := hd.get (j := 6) (by simp [depsOf, Region.binds])
      replace hK : ∀ (uu : Value) (w' : World), Below wx.heap.size wx w' → ((Gw w B p d seg a)) w' → (Hb w) (.inl (.int .i64 seg)) uu w' → K _ w' := hK
      simp only [Act.put, List.setIfInBounds_toArray, List.set_cons_zero, List.set_cons_succ, e6] at hK ⊢
      have HK := Lib.hid hK
      have HG := Lib.hid hG
      clear hK hd e6
      have gc0 := HG.out.wl.c0
      have gc1 := HG.out.wl.c1
      clear hG
      go_simp
      exact HK.out _ _ (Below.refl _ _) HG.out rfl
    · intro vs wx hG hd K hK
      have e3 : vs 3 = dP d := hd.get (j := 3) (by simp [depsOf, Region.binds])
      have e7 : vs 7 = .int .i64 seg := hd.get (j := 7) (by simp [depsOf, Region.binds])
      replace hK : ∀ (uu : Value) (w' : World), (fun v w' => v = .int .i64 r ∧ Dw w B d a' w') uu w' → K _ w' := hK
      simp only [Act.put, List.setIfInBounds_toArray, List.set_cons_zero, List.set_cons_succ, e3, e7] at hK ⊢
      have HK := Lib.hid hK
      have HG := Lib.hid hG
      clear hK hd e3 e7
      clear hG
      go_simp
      go_at_call 23
      refine (Dw.of HG.out.b (sync_DD (r := r) (a' := a') HG.out.d h1 h2 HR.out)).mono ?_
      rintro e w9 ⟨rfl, D9⟩
      exact HK.out _ _ ⟨rfl, D9⟩
    · intro vs wx hE K hK
      simp only [Act.put, List.setIfInBounds_toArray, List.set_cons_zero, List.set_cons_succ] at hK ⊢
      have HK := Lib.hid hK
      clear hK hE
      go_simp
      exact HK.out
  case hend =>
    intro vs wx hE he
    obtain ⟨e1, D9⟩ := hE
    rw [he, e1]
    have HD := Lib.hid D9
    clear he e1 D9
    go_wp2_with fail
    go_ret
    exact ⟨rfl, HD.out⟩
end
end Go.Proofs.Ytpckbbjlihhpdaa
