/- The law's To. -/
import Derived.Test.YtpnhdocimjkakaaPn11
import Derived.Test.YtpnhdocimjkakaaPn27
import Derived.Test.YtpnhdocimjkakaaPn6
import Derived.Test.YtpnhdocimjkakaaPn18
namespace Go.Proofs.Ytpnhdocimjkakaa
open Go.RowKit Go.BigFrame

theorem putV_len (e p : Int) (ms : List Int) : (putV e p ms).length ≤ 27 + 9 * ms.length := by
  have h1 := kN_le (zz e)
  have h2 := kN_le (zz p)
  have h3 := kN_le ms.length
  have h4 := numsB_len ms
  unfold putV
  rw [List.length_append, List.length_append, List.length_append, numB_length, numB_length, numB_length]
  omega
theorem step_app0 {ops : Array Oper} {o : Oper} {a : Act} {w : World} {Kk : Act → World → Prop} {Q : Exit → Act → World → Prop} {E : Prop} {tm : Array Value} (hgd : o.guard = none) (s x : Operand)
    (ho : o.op = .call { callee := .builtin .append, args := #[s, x], argTypes := #[29, 29] })
    (K g : Nat) (hs : a.eval s = .slice (some ⟨g, 0, none⟩) 0 0) (hown : So encI 1 w K 3 (.slice (some ⟨g, 0, none⟩) 0 0) []) (A : Option Addr) (cap : Nat) (m : List Int) (hx : a.eval x = .slice A m.length cap) (K' : Nat) (hsrc : Sr encI 1 w K' A cap m)
    (hm : m.length ≤ 1048576) (hbase : K ≤ w.heap.size)
    (h : ∀ A' cap' w', So encI 1 w' K 3 (.slice A' m.length cap') m → Below w.heap.size w w' → Kk (a.put o.dst (.slice A' m.length cap')) w') :
    if Region.wanted o (yielded ops tm) = true then Oper.wp Try.prog o a w Kk Q else E := by
  have hw : Region.wanted o (yielded ops tm) = true := by simp [Region.wanted, hgd]
  rw [if_pos hw]
  obtain ⟨A', cap', w', hr, h2, h3⟩ := run_app0 w o.type hown hsrc hm hbase
  unfold Oper.wp execOp
  simp only [ho, resolve, invoke, builtin, Sem.run_bind, Sem.run_pure, Result.andThen_ok, List.map_toArray, List.map_cons, List.map_nil, hs, hx, hr]
  exact h A' cap' w' h2 h3
inductive Vt where
  | v (u : Value)
  | z
  | s
  | t
def TV (ms : List Int) (e p : Int) (K : Nat) : Vt → Value → World → Prop
  | .v x, u, _ => u = x
  | .z, u, w => ∃ g, u = .slice (some ⟨g, 0, none⟩) 0 0 ∧ So encI 1 w K 3 (.slice (some ⟨g, 0, none⟩) 0 0) []
  | .s, u, w => ∃ A c, u = .slice A ms.length c ∧ So encI 1 w K 3 (.slice A ms.length c) ms
  | .t, u, w => ∃ A c, u = .agg #[.int .i64 e, .int .i64 p, .slice A ms.length c] ∧ So encI 1 w K 3 (.slice A ms.length c) ms
theorem TV.mono {ms : List Int} {e p : Int} {K : Nat} {x : Vt} {u : Value} {w w' : World} (h : TV ms e p K x u w) (hb : Below w.heap.size w w') : TV ms e p K x u w' := by
  cases x with
  | v y => exact h
  | z => obtain ⟨g, e, r⟩ := h; exact ⟨g, e, r.below hb⟩
  | s => obtain ⟨A, c, e, r⟩ := h; exact ⟨A, c, e, r.below hb⟩
  | t => obtain ⟨A, c, e, r⟩ := h; exact ⟨A, c, e, r.below hb⟩
def ToE (w : World) (e p : Int) (ms : List Int) (w' : World) : Prop :=
  ∃ A c, w'.cell? ⟨w.heap.size + 1, 0, none⟩ = some (.int .i64 e) ∧ w'.cell? ⟨w.heap.size + 1, 1, none⟩ = some (.int .i64 p) ∧ w'.cell? ⟨w.heap.size + 1, 2, none⟩ = some (.slice A ms.length c) ∧ So encI 1 w' w.heap.size 3 (.slice A ms.length c) ms ∧ Below w.heap.size w w'
def ToP (w : World) (e p : Int) (ms : List Int) (en : Ending) (w' : World) : Prop := ∃ A c, en = .returned (.agg #[.int .i64 e, .int .i64 p, .slice A ms.length c]) ∧ So encI 1 w' w.heap.size 3 (.slice A ms.length c) ms ∧ Below w.heap.size w w'
set_option maxRecDepth 100000 in
set_option maxHeartbeats 3200000 in
theorem lto_any (e p : Int) (K0 : Nat) (A : Option Addr) (cap : Nat) (ms : List Int) (w : World) (hs : Sr encI 1 w K0 A cap ms) (hK : K0 ≤ w.heap.size) (hl : ms.length ≤ 1048576) :
    Calls Try.prog 38 #[.agg #[.int .i64 e, .int .i64 p, .slice A ms.length cap]] w (ToP w e p ms) := by
  have HS : Hid (∀ W, Below w.heap.size w W → Sr encI 1 W K0 A cap ms) := Lib.hid fun W h => hs.below (h.mono hK)
  clear hs
  have HB0 : Hid (Below w.heap.size w ((w.alloc (.cells #[.int .i64 e, .int .i64 p, .slice A ms.length cap] 31)).alloc (.cells #[.int .i64 0, .int .i64 0, .slice none 0 0] 43))) := Lib.hid (by go_grown)
  obtain ⟨W0, hW0⟩ : ∃ W0, W0 = (w.alloc (.cells #[.int .i64 e, .int .i64 p, .slice A ms.length cap] 31)).alloc (.cells #[.int .i64 0, .int .i64 0, .slice none 0 0] 43) := ⟨_, rfl⟩
  have x0 : W0.cell? ⟨w.heap.size, 0, none⟩ = some (.int .i64 e) := by rw [hW0]; simp [go_sem]
  have x1 : W0.cell? ⟨w.heap.size, 1, none⟩ = some (.int .i64 p) := by rw [hW0]; simp [go_sem]
  have x2 : W0.cell? ⟨w.heap.size, 2, none⟩ = some (.slice A ms.length cap) := by rw [hW0]; simp [go_sem]
  have z0 : W0.cell? ⟨w.heap.size + 1, 0, none⟩ = some (.int .i64 0) := by rw [hW0]; simp [go_sem]
  have z1 : W0.cell? ⟨w.heap.size + 1, 1, none⟩ = some (.int .i64 0) := by rw [hW0]; simp [go_sem]
  have z2 : W0.cell? ⟨w.heap.size + 1, 2, none⟩ = some (.slice none 0 0) := by rw [hW0]; simp [go_sem]
  have zf : ∀ j, W0.frozen? ⟨w.heap.size + 1, j, none⟩ = false := fun j => by rw [hW0]; simp [go_sem]
  have hz0 : W0.heap.size = w.heap.size + 2 := by rw [hW0]; simp
  have hza : w.heap.size < W0.heap.size := by omega
  have hz2 : w.heap.size + 1 < W0.heap.size := by omega
  rw [← hW0] at HB0
  have HW := Lib.hid hW0
  have HZ0 := Lib.hid hz0
  clear hW0 hz0
  go_enter Try.func38, Try.ntmps38
  go_upto_region 1 with fail
  rw [← HW.out]
  clear HW
  apply region_VS (TV ms e p W0.heap.size) (Below W0.heap.size W0) (fun w' => ToE w e p ms w') 9 [.v (.pointer (some ⟨w.heap.size, 0, none⟩)), .v (.int .i64 e), .v (.pointer (some ⟨w.heap.size, 1, none⟩)), .v (.int .i64 p), .z, .v (.pointer (some ⟨w.heap.size, 2, none⟩)), .v (.slice A ms.length cap), .s, .t, .v undef] (.v undef)
  case mono => exact fun p v w0 w1 h hb => TV.mono h hb
  case hl => kernel_rfl
  case hm => kernel_rfl
  case hf => kernel_rfl
  case hQ => exact (by intro c x y w e h; exact And.intro (e.symm.trans (And.left h)) (And.right h))
  case hF => intro vs; simp only [putAll, Act.put, List.setIfInBounds_toArray, List.set_cons_zero, List.set_cons_succ, Nat.reduceAdd]; rfl
  case h0 => exact ⟨rfl, rfl, rfl, Nat.le_refl _, fun _ _ => rfl⟩
  case hstep =>
    repeat' (first | exact AllOps.nil | apply AllOps.cons)
    · intro vs wx hG hd K hK
      replace hK : ∀ (uu : Value) (w' : World), Below wx.heap.size wx w' → ((Below W0.heap.size W0)) w' → (TV ms e p W0.heap.size) (.v (.pointer (some ⟨w.heap.size, 0, none⟩))) uu w' → K _ w' := hK
      simp only [Act.put, List.setIfInBounds_toArray, List.set_cons_zero, List.set_cons_succ] at hK ⊢
      have HK := Lib.hid hK
      have HG := Lib.hid hG
      clear hK hd
      clear hG
      go_simp
      exact HK.out _ _ (Below.refl _ _) HG.out rfl
    · intro vs wx hG hd K hK
      have e0 : vs 0 = .pointer (some ⟨w.heap.size, 0, none⟩) := hd.get (j := 0) (by simp [depsOf, Region.binds])
      replace hK : ∀ (uu : Value) (w' : World), Below wx.heap.size wx w' → ((Below W0.heap.size W0)) w' → (TV ms e p W0.heap.size) (.v (.int .i64 e)) uu w' → K _ w' := hK
      simp only [Act.put, List.setIfInBounds_toArray, List.set_cons_zero, List.set_cons_succ, e0] at hK ⊢
      have HK := Lib.hid hK
      have HG := Lib.hid hG
      clear hK hd e0
      have q0 := HG.out.cell (p := ⟨w.heap.size, 0, none⟩) hza
      rw [x0] at q0
      have q1 := HG.out.cell (p := ⟨w.heap.size, 1, none⟩) hza
      rw [x1] at q1
      have q2 := HG.out.cell (p := ⟨w.heap.size, 2, none⟩) hza
      rw [x2] at q2
      clear hG
      go_simp
      exact HK.out _ _ (Below.refl _ _) HG.out rfl
    · intro vs wx hG hd K hK
      replace hK : ∀ (uu : Value) (w' : World), Below wx.heap.size wx w' → ((Below W0.heap.size W0)) w' → (TV ms e p W0.heap.size) (.v (.pointer (some ⟨w.heap.size, 1, none⟩))) uu w' → K _ w' := hK
      simp only [Act.put, List.setIfInBounds_toArray, List.set_cons_zero, List.set_cons_succ] at hK ⊢
      have HK := Lib.hid hK
      have HG := Lib.hid hG
      clear hK hd
      clear hG
      go_simp
      exact HK.out _ _ (Below.refl _ _) HG.out rfl
    · intro vs wx hG hd K hK
      have e2 : vs 2 = .pointer (some ⟨w.heap.size, 1, none⟩) := hd.get (j := 2) (by simp [depsOf, Region.binds])
      replace hK : ∀ (uu : Value) (w' : World), Below wx.heap.size wx w' → ((Below W0.heap.size W0)) w' → (TV ms e p W0.heap.size) (.v (.int .i64 p)) uu w' → K _ w' := hK
      simp only [Act.put, List.setIfInBounds_toArray, List.set_cons_zero, List.set_cons_succ, e2] at hK ⊢
      have HK := Lib.hid hK
      have HG := Lib.hid hG
      clear hK hd e2
      have q0 := HG.out.cell (p := ⟨w.heap.size, 0, none⟩) hza
      rw [x0] at q0
      have q1 := HG.out.cell (p := ⟨w.heap.size, 1, none⟩) hza
      rw [x1] at q1
      have q2 := HG.out.cell (p := ⟨w.heap.size, 2, none⟩) hza
      rw [x2] at q2
      clear hG
      go_simp
      exact HK.out _ _ (Below.refl _ _) HG.out rfl
    · intro vs wx hG hd K hK
      replace hK : ∀ (uu : Value) (w' : World), Below wx.heap.size wx w' → ((Below W0.heap.size W0)) w' → (TV ms e p W0.heap.size) (.z) uu w' → K _ w' := hK
      simp only [Act.put, List.setIfInBounds_toArray, List.set_cons_zero, List.set_cons_succ] at hK ⊢
      have HK := Lib.hid hK
      have HG := Lib.hid hG
      clear hK hd
      clear hG
      have so := lit_so (α := Int) (enc := encI) (k := 1) wx W0.heap.size 3 wx.heap.size rfl HG.out.size #[] 0 [] encI_len rfl rfl (by decide)
      go_simp
      exact HK.out _ _ ((Below.refl _ _).alloc (Nat.le_refl _) _) (HG.out.alloc HG.out.size _) ⟨_, rfl, so⟩
    · intro vs wx hG hd K hK
      replace hK : ∀ (uu : Value) (w' : World), Below wx.heap.size wx w' → ((Below W0.heap.size W0)) w' → (TV ms e p W0.heap.size) (.v (.pointer (some ⟨w.heap.size, 2, none⟩))) uu w' → K _ w' := hK
      simp only [Act.put, List.setIfInBounds_toArray, List.set_cons_zero, List.set_cons_succ] at hK ⊢
      have HK := Lib.hid hK
      have HG := Lib.hid hG
      clear hK hd
      clear hG
      go_simp
      exact HK.out _ _ (Below.refl _ _) HG.out rfl
    · intro vs wx hG hd K hK
      have e5 : vs 5 = .pointer (some ⟨w.heap.size, 2, none⟩) := hd.get (j := 5) (by simp [depsOf, Region.binds])
      replace hK : ∀ (uu : Value) (w' : World), Below wx.heap.size wx w' → ((Below W0.heap.size W0)) w' → (TV ms e p W0.heap.size) (.v (.slice A ms.length cap)) uu w' → K _ w' := hK
      simp only [Act.put, List.setIfInBounds_toArray, List.set_cons_zero, List.set_cons_succ, e5] at hK ⊢
      have HK := Lib.hid hK
      have HG := Lib.hid hG
      clear hK hd e5
      have q0 := HG.out.cell (p := ⟨w.heap.size, 0, none⟩) hza
      rw [x0] at q0
      have q1 := HG.out.cell (p := ⟨w.heap.size, 1, none⟩) hza
      rw [x1] at q1
      have q2 := HG.out.cell (p := ⟨w.heap.size, 2, none⟩) hza
      rw [x2] at q2
      clear hG
      go_simp
      exact HK.out _ _ (Below.refl _ _) HG.out rfl
    · intro vs wx hG hd K hK
      obtain ⟨g4, e4, r4⟩ : ∃ g, vs 4 = .slice (some ⟨g, 0, none⟩) 0 0 ∧ So encI 1 wx W0.heap.size 3 (.slice (some ⟨g, 0, none⟩) 0 0) [] := hd.get (j := 4) (by simp [depsOf, Region.binds])
      have e6 : vs 6 = .slice A ms.length cap := hd.get (j := 6) (by simp [depsOf, Region.binds])
      replace hK : ∀ (uu : Value) (w' : World), Below wx.heap.size wx w' → ((Below W0.heap.size W0)) w' → (TV ms e p W0.heap.size) (.s) uu w' → K _ w' := hK
      simp only [Act.put, List.setIfInBounds_toArray, List.set_cons_zero, List.set_cons_succ, e4, e6] at hK ⊢
      have HK := Lib.hid hK
      have HG := Lib.hid hG
      clear hK hd e4 e6
      clear hG
      apply step_app0 (K := W0.heap.size) (g := g4) (A := A) (cap := cap) (m := ms) (K' := K0) (s := .tmp 7) (x := .tmp 9)
      case hgd => rfl
      case ho => rfl
      case hs => rfl
      case hx => rfl
      case hown => exact r4
      case hsrc => exact HS.out _ (HB0.out.trans (HG.out.mono HB0.out.size))
      case hm => exact hl
      case hbase => exact HG.out.size
      intro A9 c9 w9 so9 hb
      simp only [Act.put, List.setIfInBounds_toArray, List.set_cons_zero, List.set_cons_succ]
      exact HK.out _ _ hb (HG.out.trans (hb.mono HG.out.size)) ⟨A9, c9, rfl, so9⟩
    · intro vs wx hG hd K hK
      have e1 : vs 1 = .int .i64 e := hd.get (j := 1) (by simp [depsOf, Region.binds])
      have e3 : vs 3 = .int .i64 p := hd.get (j := 3) (by simp [depsOf, Region.binds])
      obtain ⟨A7, c7, e7, r7⟩ : ∃ A' c', vs 7 = .slice A' ms.length c' ∧ So encI 1 wx W0.heap.size 3 (.slice A' ms.length c') ms := hd.get (j := 7) (by simp [depsOf, Region.binds])
      replace hK : ∀ (uu : Value) (w' : World), Below wx.heap.size wx w' → ((Below W0.heap.size W0)) w' → (TV ms e p W0.heap.size) (.t) uu w' → K _ w' := hK
      simp only [Act.put, List.setIfInBounds_toArray, List.set_cons_zero, List.set_cons_succ, e1, e3, e7] at hK ⊢
      have HK := Lib.hid hK
      have HG := Lib.hid hG
      clear hK hd e1 e3 e7
      clear hG
      go_simp
      exact HK.out _ _ (Below.refl _ _) HG.out ⟨_, _, rfl, r7⟩
    · intro vs wx hG hd K hK
      obtain ⟨A8, c8, e8, r8⟩ : ∃ A' c', vs 8 = .agg #[.int .i64 e, .int .i64 p, .slice A' ms.length c'] ∧ So encI 1 wx W0.heap.size 3 (.slice A' ms.length c') ms := hd.get (j := 8) (by simp [depsOf, Region.binds])
      replace hK : ∀ (uu : Value) (w' : World), (fun w' => ToE w e p ms w') w' → K _ w' := hK
      simp only [Act.put, e8] at hK ⊢
      have HK := Lib.hid hK
      have HG := Lib.hid hG
      clear hK hd e8
      have y0 := HG.out.cell (p := ⟨w.heap.size + 1, 0, none⟩) hz2
      rw [z0] at y0
      have y1 := HG.out.cell (p := ⟨w.heap.size + 1, 1, none⟩) hz2
      rw [z1] at y1
      have y2 := HG.out.cell (p := ⟨w.heap.size + 1, 2, none⟩) hz2
      rw [z2] at y2
      have yf : ∀ j, wx.frozen? ⟨w.heap.size + 1, j, none⟩ = false := fun j => (HG.out.frozen (p := ⟨w.heap.size + 1, j, none⟩) hz2).trans (zf j)
      have hne : ∀ k, (Value.slice A8 ms.length c8).ownBlock = some k → ¬ k = w.heap.size + 1 := fun k ek h => by have := (r8.lt k ek).1; have := HZ0.out; omega
      have HR := Lib.hid r8
      have HN := Lib.hid hne
      have HYF := Lib.hid yf
      clear r8 hG hne
      go_simp
      refine HK.out undef _ ⟨A8, c8, ?_, ?_, ?_, ?_, ?_⟩
      · simp [go_sem, y0]
      · simp [go_sem, y1]
      · simp [go_sem, y2]
      · exact (((HR.out.tn (Tn.setCell _ (w.heap.size + 1) 0 _) HN.out).tn (Tn.setCell _ (w.heap.size + 1) 1 _) HN.out).tn (Tn.setCell _ (w.heap.size + 1) 2 _) HN.out).more (by have := HZ0.out; omega)
      · exact (((HB0.out.trans (HG.out.mono HB0.out.size)).setCell (Nat.le_succ _) _).setCell (Nat.le_succ _) _).setCell (Nat.le_succ _) _
  case hend =>
    intro vs W hE
    obtain ⟨A8, c8, z0, z1, z2, so, hb⟩ := hE
    have HSO := Lib.hid so
    have HBW := Lib.hid hb
    clear so hb
    go_wp2_with fail
    exact bodyPost_ret (v := .agg #[.int .i64 e, .int .i64 p, .slice A8 ms.length c8]) (by simp [results, Try.results38, go_sem, z0, z1, z2]) rfl ⟨A8, c8, rfl, HSO.out, HBW.out⟩
theorem lfrom_any (e p : Int) (A : Option Addr) (n cap : Nat) (w : World) :
    Calls Try.prog 48 #[.agg #[.int .i64 e, .int .i64 p, .slice A n cap]] w fun r w' => r = .returned (.agg #[.int .i64 e, .int .i64 p, .slice A n cap]) ∧ Below w.heap.size w w' := by
  go_enter Try.func48, Try.ntmps48
  go_wp2_with fail
  exact bodyPost_ret (v := .agg #[.int .i64 e, .int .i64 p, .slice A n cap]) (by simp [results, Try.results48, go_sem]) rfl ⟨rfl, by go_grown⟩
end Go.Proofs.Ytpnhdocimjkakaa
