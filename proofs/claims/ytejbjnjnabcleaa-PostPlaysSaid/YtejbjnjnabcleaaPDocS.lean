/- The document's Send. -/
import Derived.Test.YtejbjnjnabcleaaPDoc
import Derived.Deep.CutBlock
namespace Go.Proofs.Ytejbjnjnabcleaa
open Go.RowKit Go.Conc

/-- append of bytes, at a step of a region that draws. -/
theorem step_app {ops : Array Oper} {o : Oper} {a : Act} {w : World} {Kk : Act → World → Prop} {Q : Exit → Act → World → Prop} {E : Prop} (hgd : o.guard = none) (s x : Operand)
    (ho : o.op = .call { callee := .builtin .append, args := #[s, x], argTypes := #[31, 31] })
    (K : Nat) (v : Value) (l : List UInt8) (hs : a.eval s = v) (hown : Ob w K v l) (A : Option Addr) (M cap : Nat) (m : List UInt8) (hx : a.eval x = .slice A M cap) (hM : m.length = M) (K' : Nat) (hsrc : Bs w K' A cap m)
    (N : Nat) (hN : l.length + m.length = N) (hsz : l.length + m.length ≤ 140737488355328) (hbase : K ≤ w.heap.size)
    (h : ∀ A' cap' w', Ob w' K (.slice A' N cap') (l ++ m) → w.grownBy w' v.ownBlock → OwnOr w v (.slice A' N cap') → Kk (a.put o.dst (.slice A' N cap')) w') : if Region.wanted o (yielded ops a.tmps) = true then Oper.wp Try.prog o a w Kk Q else E := by
  subst hN hM
  have hw : Region.wanted o (yielded ops a.tmps) = true := by simp [Region.wanted, hgd]
  rw [if_pos hw]
  obtain ⟨A', cap', w', hr, h2, h3, h4⟩ := run_app w o.type hown hsrc hsz hbase
  unfold Oper.wp execOp
  simp only [ho, resolve, invoke, builtin, Sem.run_bind, Sem.run_pure, Result.andThen_ok, List.map_toArray, List.map_cons, List.map_nil, hs, hx, hr]
  exact h A' cap' w' h2 h3 (h4.imp id fun e => ⟨_, e, Nat.le_refl _⟩)

abbrev docV (room : Int) (A : Option Addr) (n c : Nat) : Value := .agg #[.int .i64 room, .slice A n c]
set_option maxRecDepth 100000 in
set_option maxHeartbeats 1600000 in
theorem dsend_limit (room f t : Int) (A bA : Option Addr) (n c bn bc : Nat) (hb : 1048576 < bn) (w : World) :
    Calls Try.prog 7 #[docV room A n c, .agg #[.int .i64 f, .int .i64 t, .slice bA bn bc]] w fun e w' => e = .returned (.tuple #[.int .i64 8, docV room A n c]) ∧ Below w.heap.size w w' := by
  have hb' : (1048576 : Int) < (bn : Int) := by omega
  go_enter Try.func7, Try.ntmps7
  go_wp2_with fail
  go_region_law (fail)
  all_goals
    go_wp2
    refine bodyPost_ret (v := .tuple #[.int .i64 8, docV room A n c]) (by simp [results, Try.results7, go_sem]) rfl ⟨rfl, by go_grown⟩
set_option maxRecDepth 100000 in
set_option maxHeartbeats 1600000 in
theorem dsend_full (room f t : Int) (A bA : Option Addr) (n c bn bc : Nat) (hb : bn ≤ 1048576) (hr : room ≤ n) (w : World) :
    Calls Try.prog 7 #[docV room A n c, .agg #[.int .i64 f, .int .i64 t, .slice bA bn bc]] w fun e w' => e = .returned (.tuple #[.int .i64 4, docV room A n c]) ∧ Below w.heap.size w w' := by
  have hb' : ¬ (1048576 : Int) < (bn : Int) := by omega
  go_enter Try.func7, Try.ntmps7
  go_wp2_with fail
  go_region_law (fail)
  all_goals
    go_wp2
    refine bodyPost_ret (v := .tuple #[.int .i64 4, docV room A n c]) (by simp [results, Try.results7, go_sem]) rfl ⟨rfl, by go_grown⟩

/-- The boxes of Send at H, H + 1, H + 2. -/
structure Bx (H : Nat) (wr : World) (room : Int) (v : Value) (f t : Int) (bv : Value) : Prop where
  a0 : wr.cell? ⟨H, 0, none⟩ = some (.int .i64 room)
  a1 : wr.cell? ⟨H, 1, none⟩ = some v
  af : wr.frozen? ⟨H, 1, none⟩ = false
  m0 : wr.cell? ⟨H + 1, 0, none⟩ = some (.int .i64 f)
  m1 : wr.cell? ⟨H + 1, 1, none⟩ = some (.int .i64 t)
  m2 : wr.cell? ⟨H + 1, 2, none⟩ = some bv
  r0 : wr.cell? ⟨H + 1 + 1, 0, none⟩ = some (.int .i64 0)
  r1 : wr.cell? ⟨H + 1 + 1, 1, none⟩ = some (.slice none 0 0)
  rf : ∀ o, wr.frozen? ⟨H + 1 + 1, o, none⟩ = false
theorem Bx.tn {P : Nat → Prop} {H : Nat} {wr w' : World} {room f t : Int} {v bv : Value} (h : Bx H wr room v f t bv) (T : Tn P wr w') (h0 : ¬ P H) (h1 : ¬ P (H + 1)) (h2 : ¬ P (H + 1 + 1)) : Bx H w' room v f t bv :=
  ⟨T.cell h.a0 h0, T.cell h.a1 h0, (T.frozen (p := ⟨H, 1, none⟩) (World.block_lt_of_cell? wr _ h.a1) h0).trans h.af, T.cell h.m0 h1, T.cell h.m1 h1, T.cell h.m2 h1, T.cell h.r0 h2, T.cell h.r1 h2, fun o => (T.frozen (p := ⟨H + 1 + 1, o, none⟩) (by have := World.block_lt_of_cell? wr _ h.r0; exact this) h2).trans (h.rf o)⟩
def DSent (w : World) (room f t : Int) (l : List Mg) (b : List UInt8) (e : Ending) (w' : World) : Prop :=
  ∃ A c A2 c2, e = .returned (.tuple #[.int .i64 0, docV room A (l.length + 1) c]) ∧ So encM 3 w' w.heap.size 33 (.slice A (l.length + 1) c) (l ++ [⟨f, t, A2, b.length, c2⟩]) ∧ Ob w' w.heap.size (.slice A2 b.length c2) b ∧ Below w.heap.size w w'
/-- What stands ahead of Send's return. -/
def DMid (w wx : World) (room f t : Int) (l : List Mg) (b : List UInt8) : Prop :=
  ∃ A c A2 c2, wx.cell? ⟨w.heap.size, 0, none⟩ = some (.int .i64 room) ∧ wx.cell? ⟨w.heap.size, 1, none⟩ = some (.slice A (l.length + 1) c) ∧ wx.cell? ⟨w.heap.size + 1 + 1, 0, none⟩ = some (.int .i64 0) ∧ wx.cell? ⟨w.heap.size + 1 + 1, 1, none⟩ = some (.slice none 0 0) ∧ (∀ o, wx.frozen? ⟨w.heap.size + 1 + 1, o, none⟩ = false) ∧
    So encM 3 wx (w.heap.size + 3) 33 (.slice A (l.length + 1) c) (l ++ [⟨f, t, A2, b.length, c2⟩]) ∧ Ob wx (w.heap.size + 3) (.slice A2 b.length c2) b ∧ Below w.heap.size w wx ∧ w.heap.size + 3 ≤ wx.heap.size
theorem dmid {w w3 : World} {room f t : Int} {l : List Mg} {b : List UInt8} {v bv : Value} {A3 A2 : Option Addr} {c3 c2 : Nat} (X : Bx w.heap.size w3 room v f t bv) (S : So encM 3 w3 (w.heap.size + 3) 33 (.slice A3 (l.length + 1) c3) (l ++ [⟨f, t, A2, b.length, c2⟩])) (O : Ob w3 (w.heap.size + 3) (.slice A2 b.length c2) b) (B : Below w.heap.size w w3) (z : w.heap.size + 3 ≤ w3.heap.size) :
    DMid w (w3.setCell ⟨w.heap.size, 1, none⟩ (.slice A3 (l.length + 1) c3)) room f t l b := by
  have T := Tn.setCell w3 w.heap.size 1 (.slice A3 (l.length + 1) c3)
  refine ⟨A3, c3, A2, c2, (World.cell?_setCell_other _ _ _ _ (by simp)).trans X.a0, World.cell?_setCell_same' _ _ _ (by rw [X.a1]; rfl), (World.cell?_setCell_other _ _ _ _ (by simp)).trans X.r0, (World.cell?_setCell_other _ _ _ _ (by simp)).trans X.r1, fun o => by rw [World.frozen?_setCell]; exact X.rf o, T.so S (fun g hg e => by have := (S.lt g hg).1; omega), T.ob O (fun k hk e => by have := (O.lt k hk).1; omega), B.trans (T.below (by omega) (fun k _ e => by omega)), by have := T.size; omega⟩
set_option maxRecDepth 100000 in
set_option maxHeartbeats 12800000 in
theorem dsend_ok (room f t : Int) (A bA : Option Addr) (c bc : Nat) (l : List Mg) (b : List UInt8) (w : World) (h : Sr encM 3 w w.heap.size A c l) (hb : Bs w w.heap.size bA bc b) (hsz : b.length ≤ 1048576) (hr : (l.length : Int) < room) (hroom : room ≤ 4096) :
    Calls Try.prog 7 #[docV room A l.length c, .agg #[.int .i64 f, .int .i64 t, .slice bA b.length bc]] w (DSent w room f t l b) := by
  have HM := Lib.hid h
  have HBB := Lib.hid hb
  have hle := h.le
  have hmx := h.max
  unfold maxLen at hmx
  have hb' : ¬ (1048576 : Int) < (b.length : Int) := by omega
  clear h hb
  go_enter Try.func7, Try.ntmps7
  go_wp2_with fail
  go_loopw [6, 7] (fun u s wr => ∃ (k cu : Nat) (Au : Option Addr), k ≤ l.length ∧ s = .int .i64 (k : Int) ∧ u = .slice Au k cu ∧ So encM 3 wr (w.heap.size + 3) 33 (.slice Au k cu) (l.take k) ∧ Bx w.heap.size wr room (.slice A l.length c) f t (.slice bA b.length bc) ∧ Below w.heap.size w wr ∧ w.heap.size + 3 ≤ wr.heap.size) (fun _ s _ => l.length - (intOf s).toNat)
  case atStart => exact ⟨0, 0, none, by omega, rfl, rfl, So.empty _ _ _ _ _, by constructor <;> (try intro o) <;> simp [go_sem], by go_grown, by simp⟩
  case round =>
    obtain ⟨k, cu, Au, hk, rfl, rfl, so, X, hB, hz⟩ := hrel
    have HSO := Lib.hid so
    have HB := Lib.hid hB
    have HX := Lib.hid X
    have hown := fun g e => (so.lt g e).1
    have HOWN := Lib.hid hown
    have own0 : ¬ some w.heap.size = (Value.slice Au k cu).ownBlock := fun e => by have := HOWN.out _ e.symm; omega
    have own1 : ¬ some (w.heap.size + 1) = (Value.slice Au k cu).ownBlock := fun e => by have := HOWN.out _ e.symm; omega
    have own2 : ¬ some (w.heap.size + 1 + 1) = (Value.slice Au k cu).ownBlock := fun e => by have := HOWN.out _ e.symm; omega
    have HO := Lib.hid (And.intro own0 (And.intro own1 own2))
    have hz1 : w.heap.size < wr.heap.size := by omega
    have htl : (l.take k).length = k := by simp; omega
    have HTL := Lib.hid htl
    obtain ⟨a0, a1, af, m0, m1, m2, r0, r1, rf⟩ := X
    by_cases hlt : k < l.length
    · obtain ⟨ad, hA, hadb, h0, hj⟩ := (HM.out.below hB).get2 hlt
      subst hA
      have htk : l.take (k + 1) = l.take k ++ [l[k]] := by rw [List.take_add_one, List.getElem?_eq_getElem hlt]; rfl
      generalize l[k] = x at *
      obtain ⟨xf, xt, xA, xn, xc⟩ := x
      have h0 := h0 _ rfl
      have h1 := hj 1 _ (by decide) rfl
      have h2 := hj 2 _ (by decide) rfl
      have HTK := Lib.hid htk
      clear so hB hown own0 own1 own2 htk hj htl
      go_wp2_with (at_builtin; go_loud (refine wpList_pushE Try.underlying28 info_rmsg rfl (by decide) wr rfl (.tmp 27) (.tmp 33) rfl (w.heap.size + 3) (.slice Au k cu) (l.take k) rfl HSO.out ⟨xf, xt, xA, xn, xc⟩ _ rfl rfl (encM_one _) _ wr.heap.size rfl rfl (k + 1) (by rw [HTL.out]) (by unfold maxLen; omega) (by omega) (by omega) ?_; intro A2 cap2 w2 so2 hgrow2 hat2; have t2 := Lib.hid (Tn.ofGrown hgrow2); have z2 := hgrow2.size; have B2 := Lib.hid (grown_belowE HB.out hgrow2 (by omega) (fun g e => by have := HOWN.out g e; omega))))
      go_roundw
      case rel => exact ⟨k + 1, cap2, A2, by omega, rfl, rfl, by rw [HTK.out]; exact so2, HX.out.tn t2.out HO.out.1 HO.out.2.1 HO.out.2.2, B2.out, by omega⟩
      case measure => simp [intOf]; omega
    · have hkl : k = l.length := by omega
      subst hkl
      rw [List.take_length] at so
      have HSL := Lib.hid so
      clear so hB hown own0 own1 own2 htl HTL HSO
      have m0a := fun o => keptA (o := o) m0
      have m1a := fun o => keptA (o := o) m1
      have m2a := fun o => keptA (o := o) m2
      go_upto_region 10 with fail
      go_cut [6] (fun v wx => v = .slice Au l.length cu ∧ DMid w wx room f t l b)
      case first =>
        go_wp2_with fail
        go_region_law
          (first
            | (refine step_app rfl (.tmp 40) (.tmp 42) rfl wr.heap.size (.slice (some ⟨wr.heap.size, 0, none⟩) 0 0) [] rfl (show Ob (wr.alloc (.cells #[] 5)).drew wr.heap.size (.slice (some ⟨wr.heap.size, 0, none⟩) 0 0) [] from lit_ob wr wr.heap.size wr.heap.size rfl (Nat.le_refl _) #[] 0 [] rfl rfl (by decide)) bA b.length bc b rfl rfl w.heap.size (show Bs (wr.alloc (.cells #[] 5)).drew w.heap.size bA bc b from ((HBB.out.below HB.out).alloc (by omega) _).drew) b.length (by simp) (by simp; omega) (by show wr.heap.size ≤ (wr.alloc _).heap.size; simp) ?_; intro A2 c2 w2 ho2 hg2 hor2; have t2 : Tn (fun k => k = wr.heap.size) wr w2 := ((Tn.alloc wr (.cells #[] 5)).then (Tn.drew _)).thenQ (Tn.ofGrown hg2) (fun k _ e => by injection e); have X2 := Lib.hid (HX.out.tn t2 (by omega) (by omega) (by omega)); have HT2 := Lib.hid t2; have HOB2 := Lib.hid ho2; have c0 := X2.out.a0; have c1 := X2.out.a1; have cf := X2.out.af; have d0 := X2.out.m0; have d1 := X2.out.m1; have d2 := X2.out.m2; have z2 := t2.size)
            | (refine step_pushE Try.underlying28 info_rmsg rfl (by decide) rfl (.tmp 35) (.tmp 45) rfl (w.heap.size + 3) (.slice Au l.length cu) l rfl (show So encM 3 (w2.alloc _) _ _ _ l from (HT2.out.so HSL.out (fun g hg e => by have := (HSL.out.lt g hg).2; omega)).alloc _) ⟨f, t, A2, b.length, c2⟩ #[.int .i64 f, .int .i64 t, .slice A2 b.length c2] rfl rfl (encM_one _) 33 (0, 0) w2.heap.size (heap_alloc_new w2 _) rfl (l.length + 1) rfl (by unfold maxLen; omega) (by omega) (by show w.heap.size + 3 ≤ (w2.alloc _).heap.size; simp; omega) ?_; intro A3 c3 w3 so3 g3 o3; have t3 : Tn (fun k => some k = (Value.slice Au l.length cu).ownBlock) w2 w3 := (Tn.alloc w2 _).thenQ (Tn.ofGrown g3) (fun k _ e => e); have X3 := Lib.hid (X2.out.tn t3 HO.out.1 HO.out.2.1 HO.out.2.2); have HT3 := Lib.hid t3; have HS3 := Lib.hid so3; have p0 := X3.out.a0; have p1 := X3.out.a1; have pf := X3.out.af; have s0 := X3.out.r0; have s1 := X3.out.r1; have sf := X3.out.rf; have z3 := t3.size; have HO3 := Lib.hid ((t3.ob HOB2.out (fun k hk e => by have := (HOB2.out.lt k hk).1; have := (HSL.out.lt k e.symm).2; omega)).more (K' := w.heap.size + 3) hz); have HB3 := Lib.hid (HB.out.trans (((HT2.out.mono (Q := fun k => w.heap.size ≤ k) (fun k _ e => by omega)).thenQ t3 (fun k _ e => by have := (HSL.out.lt k e.symm).1; omega)).below (by omega) (fun _ _ h => h)))))
        all_goals
          go_wp2_with fail
          go_meet
          exact ⟨rfl, dmid X3.out HS3.out HO3.out HB3.out (by omega)⟩
          all_goals
            trace_state
            skip
      case rest =>
        obtain ⟨rfl, A3, c3, A2, c2, e0, e1, g0, g1, gf, S, O, B, z⟩ := hcut
        have HS := Lib.hid S
        have HO9 := Lib.hid O
        have HB9 := Lib.hid B
        have ownS : (Value.slice A3 (l.length + 1) c3).ownBlock ≠ some (w.heap.size + 1 + 1) := fun e => by have := (S.lt _ e).1; omega
        have ownO : (Value.slice A2 b.length c2).ownBlock ≠ some (w.heap.size + 1 + 1) := fun e => by have := (O.lt _ e).1; omega
        clear S O B
        go_wp2_with fail
        go_region_law (fail)
        all_goals
          go_wp2
          have F0 : ((wc.setCell ⟨w.heap.size + 1 + 1, 0, none⟩ (.int .i64 room)).setCell ⟨w.heap.size + 1 + 1, 1, none⟩ (.slice A3 (l.length + 1) c3)).drew.cell? ⟨w.heap.size + 1 + 1, 0, none⟩ = some (.int .i64 room) := keptD ((World.cell?_setCell_other _ _ _ _ (by simp)).trans (World.cell?_setCell_same' _ _ _ (by rw [g0]; rfl)))
          have F1 : ((wc.setCell ⟨w.heap.size + 1 + 1, 0, none⟩ (.int .i64 room)).setCell ⟨w.heap.size + 1 + 1, 1, none⟩ (.slice A3 (l.length + 1) c3)).drew.cell? ⟨w.heap.size + 1 + 1, 1, none⟩ = some (.slice A3 (l.length + 1) c3) := keptD (World.cell?_setCell_same' _ _ _ (by rw [(World.cell?_setCell_other _ _ _ _ (by simp)).trans g1]; rfl))
          have T : Tn (· = w.heap.size + 1 + 1) wc ((wc.setCell ⟨w.heap.size + 1 + 1, 0, none⟩ (.int .i64 room)).setCell ⟨w.heap.size + 1 + 1, 1, none⟩ (.slice A3 (l.length + 1) c3)).drew := ((Tn.setCell wc (w.heap.size + 1 + 1) 0 _).then (Tn.setCell _ (w.heap.size + 1 + 1) 1 _)).then (Tn.drew _)
          generalize World.drew _ = WF at F0 F1 T ⊢
          refine bodyPost_ret (v := .tuple #[.int .i64 0, docV room A3 (l.length + 1) c3]) ?_ rfl ⟨A3, c3, A2, c2, rfl, (T.so HS.out (fun g hg e => ownS (by rw [hg, e]))).more (by omega), (T.ob HO9.out (fun k hk e => ownO (by rw [hk, e]))).more (by omega), HB9.out.trans (T.below (by omega) (fun k _ e => by omega))⟩
          simp [results, Try.results7, go_sem, F0, F1]
end Go.Proofs.Ytejbjnjnabcleaa
