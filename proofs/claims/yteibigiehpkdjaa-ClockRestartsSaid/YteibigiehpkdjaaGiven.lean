/- The contract of the closure of ClockRestarts: one step of a clock. -/
import Derived.Test.YteibigiehpkdjaaSteps
import Derived.Test.YteibigiehpkdjaaPhase
namespace Go.Proofs.Yteibigiehpkdjaa
open Go.RowKit


set_option maxHeartbeats 1500000 in
theorem given_any (b : Nat) (off up mk lw lt kd ph iw it im : Int) (l0 : 0 ≤ lt) (l1 : lt ≤ 4294967295) (u1 : up ≤ 4611686018427387904) (it0 : 0 ≤ it) (it1 : it ≤ 4294967295) (im0 : 0 ≤ im) (im1 : im ≤ 4294967295) (w : World) (hk : Clk w b off up mk lw lt) :
    Calls Try.prog 33 #[.pointer (some ⟨b, 0, none⟩), .agg #[.int .i64 kd, .int .i64 ph, .int .i64 iw, .int .u32 it, .int .u32 im]] w fun e w' => ∃ X Y Z E up' lw' lt' : Int, e = .returned (.tuple #[.agg #[.int .i64 X, .int .u32 Y, .int .u32 Z], .int .i64 E]) ∧ Step up lw lt mk X Y Z E up' lw' lt' ∧ Only b w w' ∧ Clk w' b off up' mk lw' lt' := by
  have hbw := hk.lt
  have hob : w.heap.size ≠ b := by omega
  have hsb : w.heap.size + 1 ≠ b := by omega
  have HC := Lib.hid hk
  clear hk
  by_cases k0 : kd = 0
  · subst k0
    obtain ⟨X, Y, Z, E, lw', lt', hs, hN⟩ := now_step b off up mk lw lt ph l0 l1 u1
    have HN := Lib.hid hN
    have HS := Lib.hid hs
    clear hN hs
    go_enter Try.func33, Try.ntmps33
    go_wp2_with fail
    refine (HN.out _ (HC.out.below (((Below.refl w.heap.size w).alloc (Nat.le_refl _) _).alloc (by simp) _))).mono ?_
    rintro e w3 ⟨rfl, ho, hc3⟩
    have f0 : w3.frozen? ⟨w.heap.size + 1, 0, none⟩ = false := ho.frz hsb (by simp) (by simp)
    have f1 : w3.frozen? ⟨w.heap.size + 1, 1, none⟩ = false := ho.frz hsb (by simp) (by simp)
    have f2 : w3.frozen? ⟨w.heap.size + 1, 2, none⟩ = false := ho.frz hsb (by simp) (by simp)
    have m0 : w3.cell? ⟨w.heap.size + 1, 0, none⟩ = some (.int .i64 0) := ho.cell hsb (by simp)
    have m1 : w3.cell? ⟨w.heap.size + 1, 1, none⟩ = some (.int .u32 0) := ho.cell hsb (by simp)
    have m2 : w3.cell? ⟨w.heap.size + 1, 2, none⟩ = some (.int .u32 0) := ho.cell hsb (by simp)
    have oB : Only b w w3 := (((Only.refl b w).alloc _).alloc _).trans ho
    have HC3 := Lib.hid hc3
    have HO := Lib.hid oB
    clear ho hc3 oB
    go_wp2
    generalize hW : (World.setCell _ _ _ : World) = W'
    have hWs : W' = set3 w3 (w.heap.size + 1) (.int .i64 X) (.int .u32 Y) (.int .u32 Z) := hW.symm
    have r0 : W'.cell? ⟨w.heap.size + 1, 0, none⟩ = some (.int .i64 X) := hWs ▸ set3_at0 m0
    have r1 : W'.cell? ⟨w.heap.size + 1, 1, none⟩ = some (.int .u32 Y) := hWs ▸ set3_at1 m1
    have r2 : W'.cell? ⟨w.heap.size + 1, 2, none⟩ = some (.int .u32 Z) := hWs ▸ set3_at2 m2
    have r3 := HC3.out.set3 (x := .int .i64 X) (y := .int .u32 Y) (z := .int .u32 Z) hsb
    have r4 : Only b w W' := hWs ▸ ((HO.out.setCell (.inr (Nat.le_succ _)) _).setCell (.inr (Nat.le_succ _)) _).setCell (.inr (Nat.le_succ _)) _
    rw [← hWs] at r3
    clear hW hWs
    exact bodyPost_ret (v := .tuple #[.agg #[.int .i64 X, .int .u32 Y, .int .u32 Z], .int .i64 E]) (by simp [results, Try.results33, go_sem, r0, r1, r2]) rfl ⟨X, Y, Z, E, up, lw', lt', rfl, HS.out, r4, r3⟩
  · have k0' : (kd == 0) = false := by simpa using k0
    clear k0
    by_cases k1 : kd = 1
    · subst k1
      obtain ⟨X, Y, Z, E, lw', lt', hs, hN⟩ := update_step b off up mk lw lt ph iw it im l0 l1 u1 it0 it1 im0 im1
      have HU := Lib.hid hN
      have HS := Lib.hid hs
      clear hN hs
      go_enter Try.func33, Try.ntmps33
      go_wp2_with fail
      apply region_phase (fun p w' => match p with | 0 => w'.cell? ⟨w.heap.size, 0, none⟩ = some (.int .i64 1) ∧ w'.cell? ⟨w.heap.size, 1, none⟩ = some (.int .i64 ph) ∧ w'.cell? ⟨w.heap.size, 2, none⟩ = some (.int .i64 iw) ∧ w'.cell? ⟨w.heap.size, 3, none⟩ = some (.int .u32 it) ∧ w'.cell? ⟨w.heap.size, 4, none⟩ = some (.int .u32 im) ∧ w'.cell? ⟨w.heap.size + 1, 0, none⟩ = some (.int .i64 0) ∧ w'.cell? ⟨w.heap.size + 1, 1, none⟩ = some (.int .u32 0) ∧ w'.cell? ⟨w.heap.size + 1, 2, none⟩ = some (.int .u32 0) ∧ Clk w' b off up mk lw lt ∧ (∀ j, w'.frozen? ⟨w.heap.size + 1, j, none⟩ = false) ∧ Only b w w' | 1 => w'.cell? ⟨w.heap.size, 0, none⟩ = some (.int .i64 1) ∧ w'.cell? ⟨w.heap.size, 1, none⟩ = some (.int .i64 ph) ∧ w'.cell? ⟨w.heap.size, 2, none⟩ = some (.int .i64 iw) ∧ w'.cell? ⟨w.heap.size, 3, none⟩ = some (.int .u32 it) ∧ w'.cell? ⟨w.heap.size, 4, none⟩ = some (.int .u32 im) ∧ w'.cell? ⟨w.heap.size + 1, 0, none⟩ = some (.int .i64 0) ∧ w'.cell? ⟨w.heap.size + 1, 1, none⟩ = some (.int .u32 0) ∧ w'.cell? ⟨w.heap.size + 1, 2, none⟩ = some (.int .u32 0) ∧ Clk w' b off up mk lw' lt' ∧ (∀ j, w'.frozen? ⟨w.heap.size + 1, j, none⟩ = false) ∧ Only b w w' | _ => w'.cell? ⟨w.heap.size, 0, none⟩ = some (.int .i64 1) ∧ w'.cell? ⟨w.heap.size, 1, none⟩ = some (.int .i64 ph) ∧ w'.cell? ⟨w.heap.size, 2, none⟩ = some (.int .i64 iw) ∧ w'.cell? ⟨w.heap.size, 3, none⟩ = some (.int .u32 it) ∧ w'.cell? ⟨w.heap.size, 4, none⟩ = some (.int .u32 im) ∧ w'.cell? ⟨w.heap.size + 1, 0, none⟩ = some (.int .i64 X) ∧ w'.cell? ⟨w.heap.size + 1, 1, none⟩ = some (.int .u32 Y) ∧ w'.cell? ⟨w.heap.size + 1, 2, none⟩ = some (.int .u32 Z) ∧ Clk w' b off up mk lw' lt' ∧ (∀ j, w'.frozen? ⟨w.heap.size + 1, j, none⟩ = false) ∧ Only b w w') [6, 9] [none, none, some 0, none, some 0, some 0, some 0, none, none, some 1, none] [.pointer (some ⟨b, 0, none⟩), .pointer (some ⟨w.heap.size, 1, none⟩), .int .i64 ph, .pointer (some ⟨w.heap.size, 2, none⟩), .agg #[.int .i64 iw, .int .u32 it, .int .u32 im], .agg #[.int .i64 iw, .int .u32 it, .int .u32 im], .tuple #[.agg #[.int .i64 X, .int .u32 Y, .int .u32 Z], .int .i64 E], .agg #[.int .i64 X, .int .u32 Y, .int .u32 Z], .int .i64 E, undef, .int .i64 E]
      case hm => kernel_rfl
      case hf => kernel_rfl
      case hp => kernel_rfl
      case hQ => exact (by intro c x y w e h; exact And.intro (e.symm.trans (And.left h)) (And.right h))
      case hF => simp only [putAll, Act.put, List.setIfInBounds_toArray, List.set_cons_zero, List.set_cons_succ, Nat.reduceAdd, List.getD_cons_zero, List.getD_cons_succ]; rfl
      case h0 =>
        exact ⟨(by simp [go_sem]), (by simp [go_sem]), (by simp [go_sem]), (by simp [go_sem]), (by simp [go_sem]), (by simp [go_sem]), (by simp [go_sem]), (by simp [go_sem]), HC.out.below ((((Below.refl w.heap.size w).alloc (Nat.le_refl _) _).alloc (by simp) _).drew), (fun j => by simp [go_sem]), (((Only.refl b w).alloc _).alloc _).drew⟩
      case hstep =>
        clear HC
        repeat' (first | exact AllOps.nil | apply AllOps.cons)
        · intro wx hS K hK
          replace hK : ∀ (v : Value) (w' : World), v = .pointer (some ⟨b, 0, none⟩) → w' = wx → K _ w' := hK
          simp only [Act.put, List.setIfInBounds_toArray, List.set_cons_zero, List.set_cons_succ, Nat.reduceAdd, List.getD_cons_zero, List.getD_cons_succ] at hK ⊢
          have HK := Lib.hid hK
          clear hK hS
          go_simp
          exact HK.out _ _ rfl rfl
        · intro wx hS K hK
          replace hK : ∀ (v : Value) (w' : World), v = .pointer (some ⟨w.heap.size, 1, none⟩) → w' = wx → K _ w' := hK
          simp only [Act.put, List.setIfInBounds_toArray, List.set_cons_zero, List.set_cons_succ, Nat.reduceAdd, List.getD_cons_zero, List.getD_cons_succ] at hK ⊢
          have HK := Lib.hid hK
          clear hK hS
          go_simp
          exact HK.out _ _ rfl rfl
        · intro wx hS K hK
          replace hK : ∀ (v : Value) (w' : World), v = .int .i64 ph → (w'.cell? ⟨w.heap.size, 0, none⟩ = some (.int .i64 1) ∧ w'.cell? ⟨w.heap.size, 1, none⟩ = some (.int .i64 ph) ∧ w'.cell? ⟨w.heap.size, 2, none⟩ = some (.int .i64 iw) ∧ w'.cell? ⟨w.heap.size, 3, none⟩ = some (.int .u32 it) ∧ w'.cell? ⟨w.heap.size, 4, none⟩ = some (.int .u32 im) ∧ w'.cell? ⟨w.heap.size + 1, 0, none⟩ = some (.int .i64 0) ∧ w'.cell? ⟨w.heap.size + 1, 1, none⟩ = some (.int .u32 0) ∧ w'.cell? ⟨w.heap.size + 1, 2, none⟩ = some (.int .u32 0) ∧ Clk w' b off up mk lw lt ∧ (∀ j, w'.frozen? ⟨w.heap.size + 1, j, none⟩ = false) ∧ Only b w w') → K _ w' := hK
          replace hS : wx.cell? ⟨w.heap.size, 0, none⟩ = some (.int .i64 1) ∧ wx.cell? ⟨w.heap.size, 1, none⟩ = some (.int .i64 ph) ∧ wx.cell? ⟨w.heap.size, 2, none⟩ = some (.int .i64 iw) ∧ wx.cell? ⟨w.heap.size, 3, none⟩ = some (.int .u32 it) ∧ wx.cell? ⟨w.heap.size, 4, none⟩ = some (.int .u32 im) ∧ wx.cell? ⟨w.heap.size + 1, 0, none⟩ = some (.int .i64 0) ∧ wx.cell? ⟨w.heap.size + 1, 1, none⟩ = some (.int .u32 0) ∧ wx.cell? ⟨w.heap.size + 1, 2, none⟩ = some (.int .u32 0) ∧ Clk wx b off up mk lw lt ∧ (∀ j, wx.frozen? ⟨w.heap.size + 1, j, none⟩ = false) ∧ Only b w wx := hS
          simp only [Act.put, List.setIfInBounds_toArray, List.set_cons_zero, List.set_cons_succ, Nat.reduceAdd, List.getD_cons_zero, List.getD_cons_succ] at hK ⊢
          have HK := Lib.hid hK
          have HS := Lib.hid hS
          clear hK
          obtain ⟨a0, a1, a2, a3, a4, m0, m1, m2, hC, mf, hB⟩ := hS
          go_simp
          exact HK.out _ _ rfl HS.out
        · intro wx hS K hK
          replace hK : ∀ (v : Value) (w' : World), v = .pointer (some ⟨w.heap.size, 2, none⟩) → w' = wx → K _ w' := hK
          simp only [Act.put, List.setIfInBounds_toArray, List.set_cons_zero, List.set_cons_succ, Nat.reduceAdd, List.getD_cons_zero, List.getD_cons_succ] at hK ⊢
          have HK := Lib.hid hK
          clear hK hS
          go_simp
          exact HK.out _ _ rfl rfl
        · intro wx hS K hK
          replace hK : ∀ (v : Value) (w' : World), v = .agg #[.int .i64 iw, .int .u32 it, .int .u32 im] → (w'.cell? ⟨w.heap.size, 0, none⟩ = some (.int .i64 1) ∧ w'.cell? ⟨w.heap.size, 1, none⟩ = some (.int .i64 ph) ∧ w'.cell? ⟨w.heap.size, 2, none⟩ = some (.int .i64 iw) ∧ w'.cell? ⟨w.heap.size, 3, none⟩ = some (.int .u32 it) ∧ w'.cell? ⟨w.heap.size, 4, none⟩ = some (.int .u32 im) ∧ w'.cell? ⟨w.heap.size + 1, 0, none⟩ = some (.int .i64 0) ∧ w'.cell? ⟨w.heap.size + 1, 1, none⟩ = some (.int .u32 0) ∧ w'.cell? ⟨w.heap.size + 1, 2, none⟩ = some (.int .u32 0) ∧ Clk w' b off up mk lw lt ∧ (∀ j, w'.frozen? ⟨w.heap.size + 1, j, none⟩ = false) ∧ Only b w w') → K _ w' := hK
          replace hS : wx.cell? ⟨w.heap.size, 0, none⟩ = some (.int .i64 1) ∧ wx.cell? ⟨w.heap.size, 1, none⟩ = some (.int .i64 ph) ∧ wx.cell? ⟨w.heap.size, 2, none⟩ = some (.int .i64 iw) ∧ wx.cell? ⟨w.heap.size, 3, none⟩ = some (.int .u32 it) ∧ wx.cell? ⟨w.heap.size, 4, none⟩ = some (.int .u32 im) ∧ wx.cell? ⟨w.heap.size + 1, 0, none⟩ = some (.int .i64 0) ∧ wx.cell? ⟨w.heap.size + 1, 1, none⟩ = some (.int .u32 0) ∧ wx.cell? ⟨w.heap.size + 1, 2, none⟩ = some (.int .u32 0) ∧ Clk wx b off up mk lw lt ∧ (∀ j, wx.frozen? ⟨w.heap.size + 1, j, none⟩ = false) ∧ Only b w wx := hS
          simp only [Act.put, List.setIfInBounds_toArray, List.set_cons_zero, List.set_cons_succ, Nat.reduceAdd, List.getD_cons_zero, List.getD_cons_succ] at hK ⊢
          have HK := Lib.hid hK
          have HS := Lib.hid hS
          clear hK
          obtain ⟨a0, a1, a2, a3, a4, m0, m1, m2, hC, mf, hB⟩ := hS
          go_simp
          exact HK.out _ _ rfl HS.out
        · intro wx hS K hK
          replace hK : ∀ (v : Value) (w' : World), v = .agg #[.int .i64 iw, .int .u32 it, .int .u32 im] → (w'.cell? ⟨w.heap.size, 0, none⟩ = some (.int .i64 1) ∧ w'.cell? ⟨w.heap.size, 1, none⟩ = some (.int .i64 ph) ∧ w'.cell? ⟨w.heap.size, 2, none⟩ = some (.int .i64 iw) ∧ w'.cell? ⟨w.heap.size, 3, none⟩ = some (.int .u32 it) ∧ w'.cell? ⟨w.heap.size, 4, none⟩ = some (.int .u32 im) ∧ w'.cell? ⟨w.heap.size + 1, 0, none⟩ = some (.int .i64 0) ∧ w'.cell? ⟨w.heap.size + 1, 1, none⟩ = some (.int .u32 0) ∧ w'.cell? ⟨w.heap.size + 1, 2, none⟩ = some (.int .u32 0) ∧ Clk w' b off up mk lw lt ∧ (∀ j, w'.frozen? ⟨w.heap.size + 1, j, none⟩ = false) ∧ Only b w w') → K _ w' := hK
          replace hS : wx.cell? ⟨w.heap.size, 0, none⟩ = some (.int .i64 1) ∧ wx.cell? ⟨w.heap.size, 1, none⟩ = some (.int .i64 ph) ∧ wx.cell? ⟨w.heap.size, 2, none⟩ = some (.int .i64 iw) ∧ wx.cell? ⟨w.heap.size, 3, none⟩ = some (.int .u32 it) ∧ wx.cell? ⟨w.heap.size, 4, none⟩ = some (.int .u32 im) ∧ wx.cell? ⟨w.heap.size + 1, 0, none⟩ = some (.int .i64 0) ∧ wx.cell? ⟨w.heap.size + 1, 1, none⟩ = some (.int .u32 0) ∧ wx.cell? ⟨w.heap.size + 1, 2, none⟩ = some (.int .u32 0) ∧ Clk wx b off up mk lw lt ∧ (∀ j, wx.frozen? ⟨w.heap.size + 1, j, none⟩ = false) ∧ Only b w wx := hS
          simp only [Act.put, List.setIfInBounds_toArray, List.set_cons_zero, List.set_cons_succ, Nat.reduceAdd, List.getD_cons_zero, List.getD_cons_succ] at hK ⊢
          have HK := Lib.hid hK
          have HS := Lib.hid hS
          clear hK
          obtain ⟨a0, a1, a2, a3, a4, m0, m1, m2, hC, mf, hB⟩ := hS
          clear HS
          go_simp
          go_at_call 12
          refine (to_any _ _ _ _).mono ?_
          rintro e w1 ⟨rfl, hb⟩
          refine HK.out _ _ rfl ?_
          exact ⟨kept hb a0, kept hb a1, kept hb a2, kept hb a3, kept hb a4, kept hb m0, kept hb m1, kept hb m2, hC.below hb, frz_below hb m0 mf, hB.trans (Only.of_below hb)⟩
        · intro wx hS K hK
          replace hK : ∀ (v : Value) (w' : World), v = .tuple #[.agg #[.int .i64 X, .int .u32 Y, .int .u32 Z], .int .i64 E] → (w'.cell? ⟨w.heap.size, 0, none⟩ = some (.int .i64 1) ∧ w'.cell? ⟨w.heap.size, 1, none⟩ = some (.int .i64 ph) ∧ w'.cell? ⟨w.heap.size, 2, none⟩ = some (.int .i64 iw) ∧ w'.cell? ⟨w.heap.size, 3, none⟩ = some (.int .u32 it) ∧ w'.cell? ⟨w.heap.size, 4, none⟩ = some (.int .u32 im) ∧ w'.cell? ⟨w.heap.size + 1, 0, none⟩ = some (.int .i64 0) ∧ w'.cell? ⟨w.heap.size + 1, 1, none⟩ = some (.int .u32 0) ∧ w'.cell? ⟨w.heap.size + 1, 2, none⟩ = some (.int .u32 0) ∧ Clk w' b off up mk lw' lt' ∧ (∀ j, w'.frozen? ⟨w.heap.size + 1, j, none⟩ = false) ∧ Only b w w') → K _ w' := hK
          replace hS : wx.cell? ⟨w.heap.size, 0, none⟩ = some (.int .i64 1) ∧ wx.cell? ⟨w.heap.size, 1, none⟩ = some (.int .i64 ph) ∧ wx.cell? ⟨w.heap.size, 2, none⟩ = some (.int .i64 iw) ∧ wx.cell? ⟨w.heap.size, 3, none⟩ = some (.int .u32 it) ∧ wx.cell? ⟨w.heap.size, 4, none⟩ = some (.int .u32 im) ∧ wx.cell? ⟨w.heap.size + 1, 0, none⟩ = some (.int .i64 0) ∧ wx.cell? ⟨w.heap.size + 1, 1, none⟩ = some (.int .u32 0) ∧ wx.cell? ⟨w.heap.size + 1, 2, none⟩ = some (.int .u32 0) ∧ Clk wx b off up mk lw lt ∧ (∀ j, wx.frozen? ⟨w.heap.size + 1, j, none⟩ = false) ∧ Only b w wx := hS
          simp only [Act.put, List.setIfInBounds_toArray, List.set_cons_zero, List.set_cons_succ, Nat.reduceAdd, List.getD_cons_zero, List.getD_cons_succ] at hK ⊢
          have HK := Lib.hid hK
          have HS := Lib.hid hS
          clear hK
          obtain ⟨a0, a1, a2, a3, a4, m0, m1, m2, hC, mf, hB⟩ := hS
          clear HS
          have HC := Lib.hid hC
          clear hC
          go_simp
          go_at_call 27
          refine (HU.out _ HC.out).mono ?_
          rintro e w1 ⟨rfl, ho, hc⟩
          refine HK.out _ _ rfl ?_
          have y1 : w.heap.size + 1 < wx.heap.size := World.block_lt_of_cell? wx _ m0
          exact ⟨ho.cell hob a0, ho.cell hob a1, ho.cell hob a2, ho.cell hob a3, ho.cell hob a4, ho.cell hsb m0, ho.cell hsb m1, ho.cell hsb m2, hc, (fun j => ho.frz hsb y1 (mf j)), hB.trans ho⟩
        · intro wx hS K hK
          replace hK : ∀ (v : Value) (w' : World), v = .agg #[.int .i64 X, .int .u32 Y, .int .u32 Z] → w' = wx → K _ w' := hK
          simp only [Act.put, List.setIfInBounds_toArray, List.set_cons_zero, List.set_cons_succ, Nat.reduceAdd, List.getD_cons_zero, List.getD_cons_succ] at hK ⊢
          have HK := Lib.hid hK
          clear hK hS
          go_simp
          exact HK.out _ _ rfl rfl
        · intro wx hS K hK
          replace hK : ∀ (v : Value) (w' : World), v = .int .i64 E → w' = wx → K _ w' := hK
          simp only [Act.put, List.setIfInBounds_toArray, List.set_cons_zero, List.set_cons_succ, Nat.reduceAdd, List.getD_cons_zero, List.getD_cons_succ] at hK ⊢
          have HK := Lib.hid hK
          clear hK hS
          go_simp
          exact HK.out _ _ rfl rfl
        · intro wx hS K hK
          replace hK : ∀ (v : Value) (w' : World), v = undef → (w'.cell? ⟨w.heap.size, 0, none⟩ = some (.int .i64 1) ∧ w'.cell? ⟨w.heap.size, 1, none⟩ = some (.int .i64 ph) ∧ w'.cell? ⟨w.heap.size, 2, none⟩ = some (.int .i64 iw) ∧ w'.cell? ⟨w.heap.size, 3, none⟩ = some (.int .u32 it) ∧ w'.cell? ⟨w.heap.size, 4, none⟩ = some (.int .u32 im) ∧ w'.cell? ⟨w.heap.size + 1, 0, none⟩ = some (.int .i64 X) ∧ w'.cell? ⟨w.heap.size + 1, 1, none⟩ = some (.int .u32 Y) ∧ w'.cell? ⟨w.heap.size + 1, 2, none⟩ = some (.int .u32 Z) ∧ Clk w' b off up mk lw' lt' ∧ (∀ j, w'.frozen? ⟨w.heap.size + 1, j, none⟩ = false) ∧ Only b w w') → K _ w' := hK
          replace hS : wx.cell? ⟨w.heap.size, 0, none⟩ = some (.int .i64 1) ∧ wx.cell? ⟨w.heap.size, 1, none⟩ = some (.int .i64 ph) ∧ wx.cell? ⟨w.heap.size, 2, none⟩ = some (.int .i64 iw) ∧ wx.cell? ⟨w.heap.size, 3, none⟩ = some (.int .u32 it) ∧ wx.cell? ⟨w.heap.size, 4, none⟩ = some (.int .u32 im) ∧ wx.cell? ⟨w.heap.size + 1, 0, none⟩ = some (.int .i64 0) ∧ wx.cell? ⟨w.heap.size + 1, 1, none⟩ = some (.int .u32 0) ∧ wx.cell? ⟨w.heap.size + 1, 2, none⟩ = some (.int .u32 0) ∧ Clk wx b off up mk lw' lt' ∧ (∀ j, wx.frozen? ⟨w.heap.size + 1, j, none⟩ = false) ∧ Only b w wx := hS
          simp only [Act.put, List.setIfInBounds_toArray, List.set_cons_zero, List.set_cons_succ, Nat.reduceAdd, List.getD_cons_zero, List.getD_cons_succ] at hK ⊢
          have HK := Lib.hid hK
          have HS := Lib.hid hS
          clear hK
          obtain ⟨a0, a1, a2, a3, a4, m0, m1, m2, hC, mf, hB⟩ := hS
          clear HS
          have f0 := mf 0
          have f1 := mf 1
          have f2 := mf 2
          have HM := Lib.hid mf
          have HC := Lib.hid hC
          have HB2 := Lib.hid hB
          clear mf hC hB
          go_simp
          refine HK.out _ (set3 wx (w.heap.size + 1) (.int .i64 X) (.int .u32 Y) (.int .u32 Z)) rfl ?_
          have hne : w.heap.size + 1 ≠ w.heap.size := Nat.succ_ne_self _
          exact ⟨set3_cell hne a0, set3_cell hne a1, set3_cell hne a2, set3_cell hne a3, set3_cell hne a4, set3_at0 m0, set3_at1 m1, set3_at2 m2, HC.out.set3 hsb, (fun j => set3_frozen (HM.out j)), ((HB2.out.setCell (.inr (Nat.le_succ _)) _).setCell (.inr (Nat.le_succ _)) _).setCell (.inr (Nat.le_succ _)) _⟩
        · intro wx hS K hK
          replace hK : ∀ (v : Value) (w' : World), v = .int .i64 E → w' = wx → K _ w' := hK
          simp only [Act.put, List.setIfInBounds_toArray, List.set_cons_zero, List.set_cons_succ, Nat.reduceAdd, List.getD_cons_zero, List.getD_cons_succ] at hK ⊢
          have HK := Lib.hid hK
          clear hK hS
          go_simp
          exact HK.out _ _ rfl rfl
      case hend =>
        intro wy hS
        clear HC
        replace hS : wy.cell? ⟨w.heap.size, 0, none⟩ = some (.int .i64 1) ∧ wy.cell? ⟨w.heap.size, 1, none⟩ = some (.int .i64 ph) ∧ wy.cell? ⟨w.heap.size, 2, none⟩ = some (.int .i64 iw) ∧ wy.cell? ⟨w.heap.size, 3, none⟩ = some (.int .u32 it) ∧ wy.cell? ⟨w.heap.size, 4, none⟩ = some (.int .u32 im) ∧ wy.cell? ⟨w.heap.size + 1, 0, none⟩ = some (.int .i64 X) ∧ wy.cell? ⟨w.heap.size + 1, 1, none⟩ = some (.int .u32 Y) ∧ wy.cell? ⟨w.heap.size + 1, 2, none⟩ = some (.int .u32 Z) ∧ Clk wy b off up mk lw' lt' ∧ (∀ j, wy.frozen? ⟨w.heap.size + 1, j, none⟩ = false) ∧ Only b w wy := hS
        obtain ⟨a0, a1, a2, a3, a4, m0, m1, m2, hC, mf, hB⟩ := hS
        have HC := Lib.hid hC
        have HB := Lib.hid hB
        clear hC hB mf
        go_wp2
        exact bodyPost_ret (v := .tuple #[.agg #[.int .i64 X, .int .u32 Y, .int .u32 Z], .int .i64 E]) (by simp [results, Try.results33, go_sem, m0, m1, m2]) rfl ⟨X, Y, Z, E, up, lw', lt', rfl, HS.out, HB.out, HC.out⟩
    · have k1' : (kd == 1) = false := by simpa using k1
      clear k1
      obtain ⟨E, up', ⟨e0, e1⟩, hN⟩ := raise_step b off up mk lw lt ph u1
      have HN := Lib.hid hN
      clear hN
      go_enter Try.func33, Try.ntmps33
      go_wp2_with fail
      refine (HN.out _ (HC.out.below (((Below.refl w.heap.size w).alloc (Nat.le_refl _) _).alloc (by simp) _))).mono ?_
      rintro e w3 ⟨rfl, ho, hc3⟩
      have f0 : w3.frozen? ⟨w.heap.size + 1, 0, none⟩ = false := ho.frz hsb (by simp) (by simp)
      have f1 : w3.frozen? ⟨w.heap.size + 1, 1, none⟩ = false := ho.frz hsb (by simp) (by simp)
      have f2 : w3.frozen? ⟨w.heap.size + 1, 2, none⟩ = false := ho.frz hsb (by simp) (by simp)
      have m0 : w3.cell? ⟨w.heap.size + 1, 0, none⟩ = some (.int .i64 0) := ho.cell hsb (by simp)
      have m1 : w3.cell? ⟨w.heap.size + 1, 1, none⟩ = some (.int .u32 0) := ho.cell hsb (by simp)
      have m2 : w3.cell? ⟨w.heap.size + 1, 2, none⟩ = some (.int .u32 0) := ho.cell hsb (by simp)
      have oB : Only b w w3 := (((Only.refl b w).alloc _).alloc _).trans ho
      have HC3 := Lib.hid hc3
      have HO := Lib.hid oB
      clear ho hc3 oB
      go_wp2
      generalize hW : (World.setCell _ _ _ : World) = W'
      have hWs : W' = set3 w3 (w.heap.size + 1) (.int .i64 0) (.int .u32 0) (.int .u32 0) := hW.symm
      have r0 : W'.cell? ⟨w.heap.size + 1, 0, none⟩ = some (.int .i64 0) := hWs ▸ set3_at0 m0
      have r1 : W'.cell? ⟨w.heap.size + 1, 1, none⟩ = some (.int .u32 0) := hWs ▸ set3_at1 m1
      have r2 : W'.cell? ⟨w.heap.size + 1, 2, none⟩ = some (.int .u32 0) := hWs ▸ set3_at2 m2
      have r3 := HC3.out.set3 (x := .int .i64 0) (y := .int .u32 0) (z := .int .u32 0) hsb
      have r4 : Only b w W' := hWs ▸ ((HO.out.setCell (.inr (Nat.le_succ _)) _).setCell (.inr (Nat.le_succ _)) _).setCell (.inr (Nat.le_succ _)) _
      rw [← hWs] at r3
      clear hW hWs
      exact bodyPost_ret (v := .tuple #[.agg #[.int .i64 0, .int .u32 0, .int .u32 0], .int .i64 6]) (by simp [results, Try.results33, go_sem, r0, r1, r2]) rfl ⟨0, 0, 0, 6, up', lw, lt, rfl, ⟨⟨l0, l1⟩, e0, e1, .inr ⟨by decide, rfl, rfl, rfl, rfl, rfl⟩⟩, r4, r3⟩


end Go.Proofs.Yteibigiehpkdjaa
