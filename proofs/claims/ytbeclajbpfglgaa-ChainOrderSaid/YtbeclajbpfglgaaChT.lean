/- The law's to, from. -/
import Derived.Test.YtbeclajbpfglgaaChA
import Derived.Test.YtbeclajbpfglgaaPhase
namespace Go.Proofs.Ytbeclajbpfglgaa
open Go.RowKit Go.BigFrame
/-- A version in a box. -/
def Vb (w : World) (b : Nat) (v : Ve) : Prop := w.cell? ⟨b, 0, none⟩ = some (.int .i64 v.w) ∧ w.cell? ⟨b, 1, none⟩ = some (.int .u32 v.t) ∧ w.cell? ⟨b, 2, none⟩ = some (.int .u32 v.m) ∧ w.cell? ⟨b, 3, none⟩ = some (.int .i64 v.k) ∧ w.cell? ⟨b, 4, none⟩ = some (.int .i64 v.n) ∧ w.cell? ⟨b, 5, none⟩ = some (.string v.x)
def Fr6 (w : World) (b : Nat) : Prop := ∀ j, w.frozen? ⟨b, j, none⟩ = false
def setV (w : World) (s : Nat) (v : Ve) : World := (((((w.setCell ⟨s, 0, none⟩ (.int .i64 v.w)).setCell ⟨s, 1, none⟩ (.int .u32 v.t)).setCell ⟨s, 2, none⟩ (.int .u32 v.m)).setCell ⟨s, 3, none⟩ (.int .i64 v.k)).setCell ⟨s, 4, none⟩ (.int .i64 v.n)).setCell ⟨s, 5, none⟩ (.string v.x)
theorem Vb.below {w w' : World} {b : Nat} {v : Ve} (h : Vb w b v) (hb : Below w.heap.size w w') : Vb w' b v := ⟨kept hb h.1, kept hb h.2.1, kept hb h.2.2.1, kept hb h.2.2.2.1, kept hb h.2.2.2.2.1, kept hb h.2.2.2.2.2⟩
theorem Vb.lt {w : World} {b : Nat} {v : Ve} (h : Vb w b v) : b < w.heap.size := World.block_lt_of_cell? w _ h.1
theorem Fr6.below {w w' : World} {b : Nat} (h : Fr6 w b) (hl : b < w.heap.size) (hb : Below w.heap.size w w') : Fr6 w' b := fun j => (hb.frozen (p := ⟨b, j, none⟩) hl).trans (h j)
theorem Vb.put {w : World} {s : Nat} {u v : Ve} (h : Vb w s u) : Vb (setV w s v) s v := by
  obtain ⟨h0, h1, h2, h3, h4, h5⟩ := h
  refine ⟨?_, ?_, ?_, ?_, ?_, ?_⟩
  · exact cellO (by simp) (cellO (by simp) (cellO (by simp) (cellO (by simp) (cellO (by simp) (cellS (isOf h0))))))
  · exact cellO (by simp) (cellO (by simp) (cellO (by simp) (cellO (by simp) (cellS (isS (isOf h1))))))
  · exact cellO (by simp) (cellO (by simp) (cellO (by simp) (cellS (isS (isS (isOf h2))))))
  · exact cellO (by simp) (cellO (by simp) (cellS (isS (isS (isS (isOf h3))))))
  · exact cellO (by simp) (cellS (isS (isS (isS (isS (isOf h4))))))
  · exact cellS (isS (isS (isS (isS (isS (isOf h5))))))
theorem setV_below {B : Nat} {a w : World} {s : Nat} {v : Ve} (h : Below B a w) (hs : B ≤ s) : Below B a (setV w s v) :=
  (((((h.setCell (p := ⟨s, 0, none⟩) hs _).setCell (p := ⟨s, 1, none⟩) hs _).setCell (p := ⟨s, 2, none⟩) hs _).setCell (p := ⟨s, 3, none⟩) hs _).setCell (p := ⟨s, 4, none⟩) hs _).setCell (p := ⟨s, 5, none⟩) hs _
set_option maxRecDepth 100000 in
set_option maxHeartbeats 3200000 in
theorem tov_any (v : Ve) (w : World) : Calls Try.prog 10 #[agV v] w fun e w' => e = .returned (agV v) ∧ Below w.heap.size w w' := by
  go_enter Try.func10, Try.ntmps10
  obtain ⟨W, hW⟩ : ∃ W, W = (w.alloc (.cells #[.int .i64 v.w, .int .u32 v.t, .int .u32 v.m, .int .i64 v.k, .int .i64 v.n, .string v.x] 26)).alloc (.cells #[.int .i64 0, .int .u32 0, .int .u32 0, .int .i64 0, .int .i64 0, .string ⟨#[]⟩] 31) := ⟨_, rfl⟩
  have hS0 : Vb W w.heap.size v ∧ Vb W (w.heap.size + 1) nilV ∧ Fr6 W (w.heap.size + 1) ∧ Below w.heap.size w W := by
    rw [hW]
    exact ⟨⟨by simp, by simp, by simp, by simp, by simp, by simp⟩, ⟨by simp [nilV], by simp [nilV], by simp [nilV], by simp [nilV], by simp [nilV], by simp [nilV]⟩, fun j => by simp [go_sem], ((Below.refl _ _).alloc (Nat.le_refl _) _).alloc (by simp) _⟩
  have HS0 := Lib.hid hS0
  clear hS0
  go_wp2_with fail
  rw [← hW]
  clear hW
  apply region_phase (fun p w' => match p with | 0 => Vb w' w.heap.size v ∧ Vb w' (w.heap.size + 1) nilV ∧ Fr6 w' (w.heap.size + 1) ∧ Below w.heap.size w w' | _ => Vb w' (w.heap.size + 1) v ∧ Below w.heap.size w w') [10] [none, some 0, some 0, none, some 0, none, some 0, none, some 0, none, some 0] [.pointer (some ⟨w.heap.size, 0, none⟩), .agg #[.int .i64 v.w, .int .u32 v.t, .int .u32 v.m], .agg #[.int .i64 v.w, .int .u32 v.t, .int .u32 v.m], .pointer (some ⟨w.heap.size, 3, none⟩), .int .i64 v.k, .pointer (some ⟨w.heap.size, 4, none⟩), .int .i64 v.n, .pointer (some ⟨w.heap.size, 5, none⟩), .string v.x, agV v, undef]
  case hm => kernel_rfl
  case hf => kernel_rfl
  case hp => kernel_rfl
  case hQ => exact (by intro c x y w e h; exact And.intro (e.symm.trans (And.left h)) (And.right h))
  case hF => simp only [putAll, Act.put, List.setIfInBounds_toArray, List.set_cons_zero, List.set_cons_succ, Nat.reduceAdd, List.getD_cons_zero, List.getD_cons_succ]; rfl
  case h0 => exact ⟨HS0.out.1, HS0.out.2.1, HS0.out.2.2.1, HS0.out.2.2.2.drew⟩
  case hstep =>
    repeat' (first | exact AllOps.nil | apply AllOps.cons)
    · intro wx hS K hK
      replace hK : ∀ (u : Value) (w' : World), u = .pointer (some ⟨w.heap.size, 0, none⟩) → w' = wx → K _ w' := hK
      simp only [Act.put, List.setIfInBounds_toArray, List.set_cons_zero, List.set_cons_succ] at hK ⊢
      have HK := Lib.hid hK
      clear hK hS
      go_simp
      exact HK.out _ _ rfl rfl
    · intro wx hS K hK
      replace hK : ∀ (u : Value) (w' : World), u = .agg #[.int .i64 v.w, .int .u32 v.t, .int .u32 v.m] → (Vb w' w.heap.size v ∧ Vb w' (w.heap.size + 1) nilV ∧ Fr6 w' (w.heap.size + 1) ∧ Below w.heap.size w w') → K _ w' := hK
      replace hS : Vb wx w.heap.size v ∧ Vb wx (w.heap.size + 1) nilV ∧ Fr6 wx (w.heap.size + 1) ∧ Below w.heap.size w wx := hS
      simp only [Act.put, List.setIfInBounds_toArray, List.set_cons_zero, List.set_cons_succ] at hK ⊢
      have HK := Lib.hid hK
      have HS := Lib.hid hS
      clear hK
      obtain ⟨⟨a0, a1, a2, a3, a4, a5⟩, _, _, _⟩ := hS
      go_simp
      exact HK.out _ _ rfl HS.out
    · intro wx hS K hK
      replace hK : ∀ (u : Value) (w' : World), u = .agg #[.int .i64 v.w, .int .u32 v.t, .int .u32 v.m] → (Vb w' w.heap.size v ∧ Vb w' (w.heap.size + 1) nilV ∧ Fr6 w' (w.heap.size + 1) ∧ Below w.heap.size w w') → K _ w' := hK
      replace hS : Vb wx w.heap.size v ∧ Vb wx (w.heap.size + 1) nilV ∧ Fr6 wx (w.heap.size + 1) ∧ Below w.heap.size w wx := hS
      simp only [Act.put, List.setIfInBounds_toArray, List.set_cons_zero, List.set_cons_succ] at hK ⊢
      have HK := Lib.hid hK
      have HS := Lib.hid hS
      clear hK
      go_simp
      go_at_call 14
      refine (to_any v.w v.t v.m _).mono ?_
      rintro e w1 ⟨rfl, hb⟩
      refine HK.out _ _ rfl ?_
      obtain ⟨h0, h1, h2, h3⟩ := HS.out
      exact ⟨h0.below hb, h1.below hb, h2.below h1.lt hb, h3.trans (hb.mono h3.size)⟩
    · intro wx hS K hK
      replace hK : ∀ (u : Value) (w' : World), u = .pointer (some ⟨w.heap.size, 3, none⟩) → w' = wx → K _ w' := hK
      simp only [Act.put, List.setIfInBounds_toArray, List.set_cons_zero, List.set_cons_succ] at hK ⊢
      have HK := Lib.hid hK
      clear hK hS
      go_simp
      exact HK.out _ _ rfl rfl
    · intro wx hS K hK
      replace hK : ∀ (u : Value) (w' : World), u = .int .i64 v.k → (Vb w' w.heap.size v ∧ Vb w' (w.heap.size + 1) nilV ∧ Fr6 w' (w.heap.size + 1) ∧ Below w.heap.size w w') → K _ w' := hK
      replace hS : Vb wx w.heap.size v ∧ Vb wx (w.heap.size + 1) nilV ∧ Fr6 wx (w.heap.size + 1) ∧ Below w.heap.size w wx := hS
      simp only [Act.put, List.setIfInBounds_toArray, List.set_cons_zero, List.set_cons_succ] at hK ⊢
      have HK := Lib.hid hK
      have HS := Lib.hid hS
      clear hK
      obtain ⟨⟨a0, a1, a2, a3, a4, a5⟩, _, _, _⟩ := hS
      go_simp
      exact HK.out _ _ rfl HS.out
    · intro wx hS K hK
      replace hK : ∀ (u : Value) (w' : World), u = .pointer (some ⟨w.heap.size, 4, none⟩) → w' = wx → K _ w' := hK
      simp only [Act.put, List.setIfInBounds_toArray, List.set_cons_zero, List.set_cons_succ] at hK ⊢
      have HK := Lib.hid hK
      clear hK hS
      go_simp
      exact HK.out _ _ rfl rfl
    · intro wx hS K hK
      replace hK : ∀ (u : Value) (w' : World), u = .int .i64 v.n → (Vb w' w.heap.size v ∧ Vb w' (w.heap.size + 1) nilV ∧ Fr6 w' (w.heap.size + 1) ∧ Below w.heap.size w w') → K _ w' := hK
      replace hS : Vb wx w.heap.size v ∧ Vb wx (w.heap.size + 1) nilV ∧ Fr6 wx (w.heap.size + 1) ∧ Below w.heap.size w wx := hS
      simp only [Act.put, List.setIfInBounds_toArray, List.set_cons_zero, List.set_cons_succ] at hK ⊢
      have HK := Lib.hid hK
      have HS := Lib.hid hS
      clear hK
      obtain ⟨⟨a0, a1, a2, a3, a4, a5⟩, _, _, _⟩ := hS
      go_simp
      exact HK.out _ _ rfl HS.out
    · intro wx hS K hK
      replace hK : ∀ (u : Value) (w' : World), u = .pointer (some ⟨w.heap.size, 5, none⟩) → w' = wx → K _ w' := hK
      simp only [Act.put, List.setIfInBounds_toArray, List.set_cons_zero, List.set_cons_succ] at hK ⊢
      have HK := Lib.hid hK
      clear hK hS
      go_simp
      exact HK.out _ _ rfl rfl
    · intro wx hS K hK
      replace hK : ∀ (u : Value) (w' : World), u = .string v.x → (Vb w' w.heap.size v ∧ Vb w' (w.heap.size + 1) nilV ∧ Fr6 w' (w.heap.size + 1) ∧ Below w.heap.size w w') → K _ w' := hK
      replace hS : Vb wx w.heap.size v ∧ Vb wx (w.heap.size + 1) nilV ∧ Fr6 wx (w.heap.size + 1) ∧ Below w.heap.size w wx := hS
      simp only [Act.put, List.setIfInBounds_toArray, List.set_cons_zero, List.set_cons_succ] at hK ⊢
      have HK := Lib.hid hK
      have HS := Lib.hid hS
      clear hK
      obtain ⟨⟨a0, a1, a2, a3, a4, a5⟩, _, _, _⟩ := hS
      go_simp
      exact HK.out _ _ rfl HS.out
    · intro wx hS K hK
      replace hK : ∀ (u : Value) (w' : World), u = agV v → w' = wx → K _ w' := hK
      simp only [Act.put, List.setIfInBounds_toArray, List.set_cons_zero, List.set_cons_succ] at hK ⊢
      have HK := Lib.hid hK
      clear hK hS
      go_simp
      exact HK.out _ _ rfl rfl
    · intro wx hS K hK
      replace hK : ∀ (u : Value) (w' : World), u = undef → (Vb w' (w.heap.size + 1) v ∧ Below w.heap.size w w') → K _ w' := hK
      replace hS : Vb wx w.heap.size v ∧ Vb wx (w.heap.size + 1) nilV ∧ Fr6 wx (w.heap.size + 1) ∧ Below w.heap.size w wx := hS
      simp only [Act.put] at hK ⊢
      have HK := Lib.hid hK
      have HS := Lib.hid hS
      clear hK
      obtain ⟨_, ⟨d0, d1, d2, d3, d4, d5⟩, fd, _⟩ := hS
      have f0 := fd 0
      have f1 := fd 1
      have f2 := fd 2
      have f3 := fd 3
      have f4 := fd 4
      have f5 := fd 5
      go_simp
      refine HK.out _ (setV wx (w.heap.size + 1) v) rfl ?_
      obtain ⟨h0, h1, h2, h3⟩ := HS.out
      exact ⟨h1.put, setV_below h3 (by omega)⟩
  case hend =>
    intro wy hS
    replace hS : Vb wy (w.heap.size + 1) v ∧ Below w.heap.size w wy := hS
    obtain ⟨⟨d0, d1, d2, d3, d4, d5⟩, hB⟩ := hS
    go_wp2
    exact bodyPost_ret (v := agV v) (by simp [results, Try.results10, go_sem, d0, d1, d2, d3, d4, d5]) rfl ⟨rfl, hB⟩
set_option maxRecDepth 100000 in
set_option maxHeartbeats 3200000 in
theorem fromv_any (v : Ve) (w : World) : Calls Try.prog 16 #[agV v] w fun e w' => e = .returned (agV v) ∧ Below w.heap.size w w' := by
  go_enter Try.func16, Try.ntmps16
  obtain ⟨W, hW⟩ : ∃ W, W = (w.alloc (.cells #[.int .i64 v.w, .int .u32 v.t, .int .u32 v.m, .int .i64 v.k, .int .i64 v.n, .string v.x] 31)).alloc (.cells #[.int .i64 0, .int .u32 0, .int .u32 0, .int .i64 0, .int .i64 0, .string ⟨#[]⟩] 26) := ⟨_, rfl⟩
  have hS0 : Vb W w.heap.size v ∧ Vb W (w.heap.size + 1) nilV ∧ Fr6 W (w.heap.size + 1) ∧ Below w.heap.size w W := by
    rw [hW]
    exact ⟨⟨by simp, by simp, by simp, by simp, by simp, by simp⟩, ⟨by simp [nilV], by simp [nilV], by simp [nilV], by simp [nilV], by simp [nilV], by simp [nilV]⟩, fun j => by simp [go_sem], ((Below.refl _ _).alloc (Nat.le_refl _) _).alloc (by simp) _⟩
  have HS0 := Lib.hid hS0
  clear hS0
  go_wp2_with fail
  rw [← hW]
  clear hW
  apply region_phase (fun p w' => match p with | 0 => Vb w' w.heap.size v ∧ Vb w' (w.heap.size + 1) nilV ∧ Fr6 w' (w.heap.size + 1) ∧ Below w.heap.size w w' | _ => Vb w' (w.heap.size + 1) v ∧ Below w.heap.size w w') [10] [none, some 0, some 0, none, some 0, none, some 0, none, some 0, none, some 0] [.pointer (some ⟨w.heap.size, 0, none⟩), .agg #[.int .i64 v.w, .int .u32 v.t, .int .u32 v.m], .agg #[.int .i64 v.w, .int .u32 v.t, .int .u32 v.m], .pointer (some ⟨w.heap.size, 3, none⟩), .int .i64 v.k, .pointer (some ⟨w.heap.size, 4, none⟩), .int .i64 v.n, .pointer (some ⟨w.heap.size, 5, none⟩), .string v.x, agV v, undef]
  case hm => kernel_rfl
  case hf => kernel_rfl
  case hp => kernel_rfl
  case hQ => exact (by intro c x y w e h; exact And.intro (e.symm.trans (And.left h)) (And.right h))
  case hF => simp only [putAll, Act.put, List.setIfInBounds_toArray, List.set_cons_zero, List.set_cons_succ, Nat.reduceAdd, List.getD_cons_zero, List.getD_cons_succ]; rfl
  case h0 => exact ⟨HS0.out.1, HS0.out.2.1, HS0.out.2.2.1, HS0.out.2.2.2.drew⟩
  case hstep =>
    repeat' (first | exact AllOps.nil | apply AllOps.cons)
    · intro wx hS K hK
      replace hK : ∀ (u : Value) (w' : World), u = .pointer (some ⟨w.heap.size, 0, none⟩) → w' = wx → K _ w' := hK
      simp only [Act.put, List.setIfInBounds_toArray, List.set_cons_zero, List.set_cons_succ] at hK ⊢
      have HK := Lib.hid hK
      clear hK hS
      go_simp
      exact HK.out _ _ rfl rfl
    · intro wx hS K hK
      replace hK : ∀ (u : Value) (w' : World), u = .agg #[.int .i64 v.w, .int .u32 v.t, .int .u32 v.m] → (Vb w' w.heap.size v ∧ Vb w' (w.heap.size + 1) nilV ∧ Fr6 w' (w.heap.size + 1) ∧ Below w.heap.size w w') → K _ w' := hK
      replace hS : Vb wx w.heap.size v ∧ Vb wx (w.heap.size + 1) nilV ∧ Fr6 wx (w.heap.size + 1) ∧ Below w.heap.size w wx := hS
      simp only [Act.put, List.setIfInBounds_toArray, List.set_cons_zero, List.set_cons_succ] at hK ⊢
      have HK := Lib.hid hK
      have HS := Lib.hid hS
      clear hK
      obtain ⟨⟨a0, a1, a2, a3, a4, a5⟩, _, _, _⟩ := hS
      go_simp
      exact HK.out _ _ rfl HS.out
    · intro wx hS K hK
      replace hK : ∀ (u : Value) (w' : World), u = .agg #[.int .i64 v.w, .int .u32 v.t, .int .u32 v.m] → (Vb w' w.heap.size v ∧ Vb w' (w.heap.size + 1) nilV ∧ Fr6 w' (w.heap.size + 1) ∧ Below w.heap.size w w') → K _ w' := hK
      replace hS : Vb wx w.heap.size v ∧ Vb wx (w.heap.size + 1) nilV ∧ Fr6 wx (w.heap.size + 1) ∧ Below w.heap.size w wx := hS
      simp only [Act.put, List.setIfInBounds_toArray, List.set_cons_zero, List.set_cons_succ] at hK ⊢
      have HK := Lib.hid hK
      have HS := Lib.hid hS
      clear hK
      go_simp
      go_at_call 30
      refine (from_any v.w v.t v.m _).mono ?_
      rintro e w1 ⟨rfl, hb⟩
      refine HK.out _ _ rfl ?_
      obtain ⟨h0, h1, h2, h3⟩ := HS.out
      exact ⟨h0.below hb, h1.below hb, h2.below h1.lt hb, h3.trans (hb.mono h3.size)⟩
    · intro wx hS K hK
      replace hK : ∀ (u : Value) (w' : World), u = .pointer (some ⟨w.heap.size, 3, none⟩) → w' = wx → K _ w' := hK
      simp only [Act.put, List.setIfInBounds_toArray, List.set_cons_zero, List.set_cons_succ] at hK ⊢
      have HK := Lib.hid hK
      clear hK hS
      go_simp
      exact HK.out _ _ rfl rfl
    · intro wx hS K hK
      replace hK : ∀ (u : Value) (w' : World), u = .int .i64 v.k → (Vb w' w.heap.size v ∧ Vb w' (w.heap.size + 1) nilV ∧ Fr6 w' (w.heap.size + 1) ∧ Below w.heap.size w w') → K _ w' := hK
      replace hS : Vb wx w.heap.size v ∧ Vb wx (w.heap.size + 1) nilV ∧ Fr6 wx (w.heap.size + 1) ∧ Below w.heap.size w wx := hS
      simp only [Act.put, List.setIfInBounds_toArray, List.set_cons_zero, List.set_cons_succ] at hK ⊢
      have HK := Lib.hid hK
      have HS := Lib.hid hS
      clear hK
      obtain ⟨⟨a0, a1, a2, a3, a4, a5⟩, _, _, _⟩ := hS
      go_simp
      exact HK.out _ _ rfl HS.out
    · intro wx hS K hK
      replace hK : ∀ (u : Value) (w' : World), u = .pointer (some ⟨w.heap.size, 4, none⟩) → w' = wx → K _ w' := hK
      simp only [Act.put, List.setIfInBounds_toArray, List.set_cons_zero, List.set_cons_succ] at hK ⊢
      have HK := Lib.hid hK
      clear hK hS
      go_simp
      exact HK.out _ _ rfl rfl
    · intro wx hS K hK
      replace hK : ∀ (u : Value) (w' : World), u = .int .i64 v.n → (Vb w' w.heap.size v ∧ Vb w' (w.heap.size + 1) nilV ∧ Fr6 w' (w.heap.size + 1) ∧ Below w.heap.size w w') → K _ w' := hK
      replace hS : Vb wx w.heap.size v ∧ Vb wx (w.heap.size + 1) nilV ∧ Fr6 wx (w.heap.size + 1) ∧ Below w.heap.size w wx := hS
      simp only [Act.put, List.setIfInBounds_toArray, List.set_cons_zero, List.set_cons_succ] at hK ⊢
      have HK := Lib.hid hK
      have HS := Lib.hid hS
      clear hK
      obtain ⟨⟨a0, a1, a2, a3, a4, a5⟩, _, _, _⟩ := hS
      go_simp
      exact HK.out _ _ rfl HS.out
    · intro wx hS K hK
      replace hK : ∀ (u : Value) (w' : World), u = .pointer (some ⟨w.heap.size, 5, none⟩) → w' = wx → K _ w' := hK
      simp only [Act.put, List.setIfInBounds_toArray, List.set_cons_zero, List.set_cons_succ] at hK ⊢
      have HK := Lib.hid hK
      clear hK hS
      go_simp
      exact HK.out _ _ rfl rfl
    · intro wx hS K hK
      replace hK : ∀ (u : Value) (w' : World), u = .string v.x → (Vb w' w.heap.size v ∧ Vb w' (w.heap.size + 1) nilV ∧ Fr6 w' (w.heap.size + 1) ∧ Below w.heap.size w w') → K _ w' := hK
      replace hS : Vb wx w.heap.size v ∧ Vb wx (w.heap.size + 1) nilV ∧ Fr6 wx (w.heap.size + 1) ∧ Below w.heap.size w wx := hS
      simp only [Act.put, List.setIfInBounds_toArray, List.set_cons_zero, List.set_cons_succ] at hK ⊢
      have HK := Lib.hid hK
      have HS := Lib.hid hS
      clear hK
      obtain ⟨⟨a0, a1, a2, a3, a4, a5⟩, _, _, _⟩ := hS
      go_simp
      exact HK.out _ _ rfl HS.out
    · intro wx hS K hK
      replace hK : ∀ (u : Value) (w' : World), u = agV v → w' = wx → K _ w' := hK
      simp only [Act.put, List.setIfInBounds_toArray, List.set_cons_zero, List.set_cons_succ] at hK ⊢
      have HK := Lib.hid hK
      clear hK hS
      go_simp
      exact HK.out _ _ rfl rfl
    · intro wx hS K hK
      replace hK : ∀ (u : Value) (w' : World), u = undef → (Vb w' (w.heap.size + 1) v ∧ Below w.heap.size w w') → K _ w' := hK
      replace hS : Vb wx w.heap.size v ∧ Vb wx (w.heap.size + 1) nilV ∧ Fr6 wx (w.heap.size + 1) ∧ Below w.heap.size w wx := hS
      simp only [Act.put] at hK ⊢
      have HK := Lib.hid hK
      have HS := Lib.hid hS
      clear hK
      obtain ⟨_, ⟨d0, d1, d2, d3, d4, d5⟩, fd, _⟩ := hS
      have f0 := fd 0
      have f1 := fd 1
      have f2 := fd 2
      have f3 := fd 3
      have f4 := fd 4
      have f5 := fd 5
      go_simp
      refine HK.out _ (setV wx (w.heap.size + 1) v) rfl ?_
      obtain ⟨h0, h1, h2, h3⟩ := HS.out
      exact ⟨h1.put, setV_below h3 (by omega)⟩
  case hend =>
    intro wy hS
    replace hS : Vb wy (w.heap.size + 1) v ∧ Below w.heap.size w wy := hS
    obtain ⟨⟨d0, d1, d2, d3, d4, d5⟩, hB⟩ := hS
    go_wp2
    exact bodyPost_ret (v := agV v) (by simp [results, Try.results16, go_sem, d0, d1, d2, d3, d4, d5]) rfl ⟨rfl, hB⟩
end Go.Proofs.Ytbeclajbpfglgaa
