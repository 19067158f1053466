/- The contracts of the clock: give, Now, Raise. -/
import Derived.Test.YteibigiehpkdjaaClkG
namespace Go.Proofs.Yteibigiehpkdjaa
open Go.RowKit


theorem Only.frz {b : Nat} {w w' : World} (h : Only b w w') {p : Addr} (hp : p.block ≠ b) (hl : p.block < w.heap.size) (hf : w.frozen? p = false) : w'.frozen? p = false :=
  (World.frozen?_of_block (w := w) (h.block p.block hl hp)).trans hf

theorem give_any (b : Nat) (off up mk lw0 lt0 ph lw lt m : Int) (hb0 : 0 ≤ lt) (hb1 : lt ≤ 4294967295) (w : World) (hk : Clk w b off up mk lw0 lt0) :
    Calls Try.prog 37 #[.pointer (some ⟨b, 0, none⟩), .int .i64 ph, .agg #[.int .i64 lw, .int .u32 lt, .int .u32 m]] w fun e w' => e = .returned (.tuple #[.agg #[.int .i64 (gvA up ph lw lt), .int .u32 (gvB up ph lw lt), .int .u32 (gvM up mk ph lw lt)], .int .i64 (gvE up ph lw lt)]) ∧ Only b w w' ∧ Clk w' b off up mk (gvW up ph lw lt lw0) (gvT up ph lw lt lt0) := by
  by_cases h : cdE ph lw lt = 0
  · by_cases hu : up < cdA ph lw lt
    · refine (give_upper b off up mk lw0 lt0 ph lw lt m hb0 hb1 w hk h hu).mono fun e w' ⟨he, hb⟩ => ?_
      have e1 : gvE up ph lw lt = 22 := by simp [gvE, h, hu]
      refine ⟨by rw [he]; simp [gvA, gvB, gvM, e1], Only.of_below hb, ?_⟩
      have := hk.below hb
      simpa [gvW, gvT, e1] using this
    · refine (give_yes b off up mk lw0 lt0 ph lw lt m hb0 hb1 w hk h (by omega)).mono fun e w' ⟨he, ho, hc⟩ => ?_
      have e1 : gvE up ph lw lt = 0 := by simp [gvE, h, hu]
      exact ⟨by rw [he]; simp [gvA, gvB, gvM, e1], ho, by simpa [gvW, gvT, e1] using hc⟩
  · refine (give_bad ph lw lt m hb0 hb1 b w h).mono fun e w' ⟨he, hb⟩ => ?_
    have e1 : gvE up ph lw lt = cdE ph lw lt := by simp [gvE, h]
    refine ⟨by rw [he]; simp [gvA, gvB, gvM, e1, h], Only.of_below hb, ?_⟩
    have := hk.below hb
    simpa [gvW, gvT, e1, h] using this

set_option maxHeartbeats 1500000 in
theorem now_any (b : Nat) (off up mk lw lt ph : Int) (hb0 : 0 ≤ lt) (hb1 : lt ≤ 4294967295) (w : World) (hk : Clk w b off up mk lw lt) (hr : rightB ph = true) :
    Calls Try.prog 25 #[.pointer (some ⟨b, 0, none⟩), .int .i64 ph] w fun e w' => e = .returned (.tuple #[.agg #[.int .i64 (gvA up ph lw lt), .int .u32 (gvB up ph lw lt), .int .u32 (gvM up mk ph lw lt)], .int .i64 (gvE up ph lw lt)]) ∧ Only b w w' ∧ Clk w' b off up mk (gvW up ph lw lt lw) (gvT up ph lw lt lt) := by
  have hbw := hk.lt
  have k3 := hk.c3
  have k4 := hk.c4
  have k5 := hk.c5
  have HK := Lib.hid hk
  clear hk
  go_enter Try.func25, Try.ntmps25
  go_wp2_with fail
  refine (isReading_any _ _).mono ?_
  rintro e w1 ⟨rfl, rfl⟩
  go_wp2_with fail
  refine (give_any b off up mk lw lt ph lw lt 0 hb0 hb1 _ (HK.out.below ((Below.refl _ _).alloc (Nat.le_refl _) _))).mono ?_
  rintro e w2 ⟨rfl, ho, hc⟩
  have n0 : w.heap.size ≠ b := by omega
  have q0 : w2.cell? ⟨w.heap.size, 0, none⟩ = some (.int .i64 0) := ho.cell n0 (by simp)
  have q1 : w2.cell? ⟨w.heap.size, 1, none⟩ = some (.int .u32 0) := ho.cell n0 (by simp)
  have q2 : w2.cell? ⟨w.heap.size, 2, none⟩ = some (.int .u32 0) := ho.cell n0 (by simp)
  have f0 : w2.frozen? ⟨w.heap.size, 0, none⟩ = false := ho.frz n0 (by simp) (by simp)
  have f1 : w2.frozen? ⟨w.heap.size, 1, none⟩ = false := ho.frz n0 (by simp) (by simp)
  have f2 : w2.frozen? ⟨w.heap.size, 2, none⟩ = false := ho.frz n0 (by simp) (by simp)
  have oB : Only b w w2 := ((Only.refl b w).alloc _).trans ho
  have HC := Lib.hid hc
  clear ho hc k3 k4 k5
  go_wp2
  generalize hW : (World.setCell _ _ _ : World) = W'
  have c0 := HC.out.c0
  have c1 := HC.out.c1
  have c2 := HC.out.c2
  have c3 := HC.out.c3
  have c4 := HC.out.c4
  have c5 := HC.out.c5
  have r0 : W'.cell? ⟨w.heap.size, 0, none⟩ = some (.int .i64 (gvA up ph lw lt)) := by rw [← hW]; (repeat' (first | (with_reducible assumption) | (with_reducible apply cellS) | ((with_reducible refine cellO ?_ ?_); focus (first | (intro hh; simp at hh; done) | (intro hh; simp at hh; omega))) | (with_reducible apply cellN) | (with_reducible apply keptA) | (with_reducible apply isS) | (with_reducible apply isN) | (with_reducible apply isA) | (with_reducible apply isOf; with_reducible assumption)))
  have r1 : W'.cell? ⟨w.heap.size, 1, none⟩ = some (.int .u32 (gvB up ph lw lt)) := by rw [← hW]; (repeat' (first | (with_reducible assumption) | (with_reducible apply cellS) | ((with_reducible refine cellO ?_ ?_); focus (first | (intro hh; simp at hh; done) | (intro hh; simp at hh; omega))) | (with_reducible apply cellN) | (with_reducible apply keptA) | (with_reducible apply isS) | (with_reducible apply isN) | (with_reducible apply isA) | (with_reducible apply isOf; with_reducible assumption)))
  have r2 : W'.cell? ⟨w.heap.size, 2, none⟩ = some (.int .u32 (gvM up mk ph lw lt)) := by rw [← hW]; (repeat' (first | (with_reducible assumption) | (with_reducible apply cellS) | ((with_reducible refine cellO ?_ ?_); focus (first | (intro hh; simp at hh; done) | (intro hh; simp at hh; omega))) | (with_reducible apply cellN) | (with_reducible apply keptA) | (with_reducible apply isS) | (with_reducible apply isN) | (with_reducible apply isA) | (with_reducible apply isOf; with_reducible assumption)))
  have d0 : W'.cell? ⟨b, 0, none⟩ = some (.int .i64 off) := by rw [← hW]; (repeat' (first | (with_reducible assumption) | (with_reducible apply cellS) | ((with_reducible refine cellO ?_ ?_); focus (first | (intro hh; simp at hh; done) | (intro hh; simp at hh; omega))) | (with_reducible apply cellN) | (with_reducible apply keptA) | (with_reducible apply isS) | (with_reducible apply isN) | (with_reducible apply isA) | (with_reducible apply isOf; with_reducible assumption)))
  have d1 : W'.cell? ⟨b, 1, none⟩ = some (.int .i64 up) := by rw [← hW]; (repeat' (first | (with_reducible assumption) | (with_reducible apply cellS) | ((with_reducible refine cellO ?_ ?_); focus (first | (intro hh; simp at hh; done) | (intro hh; simp at hh; omega))) | (with_reducible apply cellN) | (with_reducible apply keptA) | (with_reducible apply isS) | (with_reducible apply isN) | (with_reducible apply isA) | (with_reducible apply isOf; with_reducible assumption)))
  have d2 : W'.cell? ⟨b, 2, none⟩ = some (.int .u32 mk) := by rw [← hW]; (repeat' (first | (with_reducible assumption) | (with_reducible apply cellS) | ((with_reducible refine cellO ?_ ?_); focus (first | (intro hh; simp at hh; done) | (intro hh; simp at hh; omega))) | (with_reducible apply cellN) | (with_reducible apply keptA) | (with_reducible apply isS) | (with_reducible apply isN) | (with_reducible apply isA) | (with_reducible apply isOf; with_reducible assumption)))
  have d3 : W'.cell? ⟨b, 3, none⟩ = some (.int .i64 (gvW up ph lw lt lw)) := by rw [← hW]; (repeat' (first | (with_reducible assumption) | (with_reducible apply cellS) | ((with_reducible refine cellO ?_ ?_); focus (first | (intro hh; simp at hh; done) | (intro hh; simp at hh; omega))) | (with_reducible apply cellN) | (with_reducible apply keptA) | (with_reducible apply isS) | (with_reducible apply isN) | (with_reducible apply isA) | (with_reducible apply isOf; with_reducible assumption)))
  have d4 : W'.cell? ⟨b, 4, none⟩ = some (.int .u32 (gvT up ph lw lt lt)) := by rw [← hW]; (repeat' (first | (with_reducible assumption) | (with_reducible apply cellS) | ((with_reducible refine cellO ?_ ?_); focus (first | (intro hh; simp at hh; done) | (intro hh; simp at hh; omega))) | (with_reducible apply cellN) | (with_reducible apply keptA) | (with_reducible apply isS) | (with_reducible apply isN) | (with_reducible apply isA) | (with_reducible apply isOf; with_reducible assumption)))
  have d5 : W'.cell? ⟨b, 5, none⟩ = some (.int .u32 0) := by rw [← hW]; (repeat' (first | (with_reducible assumption) | (with_reducible apply cellS) | ((with_reducible refine cellO ?_ ?_); focus (first | (intro hh; simp at hh; done) | (intro hh; simp at hh; omega))) | (with_reducible apply cellN) | (with_reducible apply keptA) | (with_reducible apply isS) | (with_reducible apply isN) | (with_reducible apply isA) | (with_reducible apply isOf; with_reducible assumption)))
  have d6 : ∀ i, W'.frozen? ⟨b, i, none⟩ = false := fun i => by rw [← hW]; (repeat' (first | (with_reducible exact HC.out.f _) | (with_reducible apply frS)))
  have d7 : Only b w W' := by
    rw [← hW]
    repeat' (first | (with_reducible assumption) | (with_reducible refine Only.setCell ?_ ?_ _) | (right; exact Nat.le_refl _))
  clear hW
  refine bodyPost_ret (v := .tuple #[.agg #[.int .i64 (gvA up ph lw lt), .int .u32 (gvB up ph lw lt), .int .u32 (gvM up mk ph lw lt)], .int .i64 (gvE up ph lw lt)]) (by simp [results, Try.results25, go_sem, r0, r1, r2]) rfl ⟨rfl, d7, ⟨d0, d1, d2, d3, d4, d5, d6⟩⟩

end Go.Proofs.Yteibigiehpkdjaa
