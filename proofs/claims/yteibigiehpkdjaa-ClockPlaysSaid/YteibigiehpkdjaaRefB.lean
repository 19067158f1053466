/- The document's clock: give, Now, Most. -/
import Derived.Test.YteibigiehpkdjaaRef
import Derived.Test.YteibigiehpkdjaaAt
import Derived.Test.YteibigiehpkdjaaUpdC
namespace Go.Proofs.Yteibigiehpkdjaa
open Go.RowKit


theorem rgive_any (off up mk lw lt ph tw tt tm : Int) (ht0 : 0 ≤ tt) (ht1 : tt ≤ 4294967295) (hw0 : 0 ≤ tw) (hw1 : tw ≤ 4611686018427387904) (w : World) :
    Calls Try.prog 38 #[.agg #[.int .i64 lw, .int .u32 lt, .int .u32 0, .int .i64 off, .int .i64 up, .int .u32 mk], .int .i64 ph, .agg #[.int .i64 tw, .int .u32 tt, .int .u32 tm]] w fun e w' => e = .returned (.tuple #[.agg #[.int .i64 (gvA up ph tw tt), .int .u32 (gvB up ph tw tt), .int .u32 (gvM up mk ph tw tt)], .int .i64 (gvE up ph tw tt), .agg #[.int .i64 (gvW up ph tw tt lw), .int .u32 (gvT up ph tw tt lt), .int .u32 0, .int .i64 off, .int .i64 up, .int .u32 mk]]) ∧ Below w.heap.size w w' := by
  by_cases h : tw < ph
  · by_cases hu : up < ph
    · refine (rlow_no off up mk lw lt ph tw tt tm w h hu).mono fun e w' ⟨he, hb⟩ => ⟨?_, hb⟩
      rw [he]; simp [gvE, gvA, gvB, gvM, gvW, gvT, cdE, cdA, cdB, h, hu]
    · refine (rlow_yes off up mk lw lt ph tw tt tm w h (by omega)).mono fun e w' ⟨he, hb⟩ => ⟨?_, hb⟩
      rw [he]; simp [gvE, gvA, gvB, gvM, gvW, gvT, cdE, cdA, cdB, h, hu]
  · by_cases hE : nxE tw tt = 0
    · by_cases hu : up < nxA tw tt
      · refine (rnx_no off up mk lw lt ph tw tt tm ht0 ht1 w (by omega) hE hu).mono fun e w' ⟨he, hb⟩ => ⟨?_, hb⟩
        rw [he]; simp [gvE, gvA, gvB, gvM, gvW, gvT, cdE, cdA, cdB, h, hE, hu]
      · refine (rnx_yes off up mk lw lt ph tw tt tm ht0 ht1 w (by omega) hE (by omega)).mono fun e w' ⟨he, hb⟩ => ⟨?_, hb⟩
        rw [he]; simp [gvE, gvA, gvB, gvM, gvW, gvT, cdE, cdA, cdB, h, hE, hu]
    · have h20 : nxE tw tt = 20 := by
        have := hE
        unfold nxE at this ⊢
        (repeat' split at this) <;> simp_all <;> omega
      refine (rnx_bad off up mk lw lt ph tw tt tm ht0 ht1 w (by omega) hE).mono fun e w' ⟨he, hb⟩ => ⟨?_, hb⟩
      rw [he]; simp [gvE, gvA, gvB, gvM, gvW, gvT, cdE, cdA, cdB, h, h20]

set_option maxHeartbeats 1000000 in
theorem rnow_bad (off up mk lw lt ph : Int) (w : World) (hr : rightB ph = false) :
    Calls Try.prog 26 #[.agg #[.int .i64 lw, .int .u32 lt, .int .u32 0, .int .i64 off, .int .i64 up, .int .u32 mk], .int .i64 ph] w fun e w' => e = .returned (.tuple #[.agg #[.int .i64 0, .int .u32 0, .int .u32 0], .int .i64 1, .agg #[.int .i64 lw, .int .u32 lt, .int .u32 0, .int .i64 off, .int .i64 up, .int .u32 mk]]) ∧ Below w.heap.size w w' := by
  have h' : ph < 0 ∨ 4611686018427387904 < ph := by simp [rightB] at hr; omega
  clear hr
  rcases h' with h | h
  · go_enter Try.func26, Try.ntmps26
    go_wp2
    go_region
    all_goals go_wp2
    all_goals exact bodyPost_ret (v := .tuple #[.agg #[.int .i64 0, .int .u32 0, .int .u32 0], .int .i64 1, .agg #[.int .i64 lw, .int .u32 lt, .int .u32 0, .int .i64 off, .int .i64 up, .int .u32 mk]]) (by simp [results, Try.results26, go_sem]) rfl ⟨rfl, by go_grown⟩
  · have h0 : 0 ≤ ph := by omega
    go_enter Try.func26, Try.ntmps26
    go_wp2
    go_region
    all_goals go_wp2
    all_goals exact bodyPost_ret (v := .tuple #[.agg #[.int .i64 0, .int .u32 0, .int .u32 0], .int .i64 1, .agg #[.int .i64 lw, .int .u32 lt, .int .u32 0, .int .i64 off, .int .i64 up, .int .u32 mk]]) (by simp [results, Try.results26, go_sem]) rfl ⟨rfl, by go_grown⟩

set_option maxHeartbeats 2000000 in
theorem rnow_any (off up mk lw lt ph : Int) (ht0 : 0 ≤ lt) (ht1 : lt ≤ 4294967295) (hw0 : 0 ≤ lw) (hw1 : lw ≤ 4611686018427387904) (w : World) (hr : rightB ph = true) :
    Calls Try.prog 26 #[.agg #[.int .i64 lw, .int .u32 lt, .int .u32 0, .int .i64 off, .int .i64 up, .int .u32 mk], .int .i64 ph] w fun e w' => e = .returned (.tuple #[.agg #[.int .i64 (gvA up ph lw lt), .int .u32 (gvB up ph lw lt), .int .u32 (gvM up mk ph lw lt)], .int .i64 (gvE up ph lw lt), .agg #[.int .i64 (gvW up ph lw lt lw), .int .u32 (gvT up ph lw lt lt), .int .u32 0, .int .i64 off, .int .i64 up, .int .u32 mk]]) ∧ Below w.heap.size w w' := by
  have h' : 0 ≤ ph ∧ ph ≤ 4611686018427387904 := by simpa [rightB] using hr
  obtain ⟨h0, h1⟩ := h'
  clear hr
  go_enter Try.func26, Try.ntmps26
  go_wp2_with fail
  refine (rgive_any off up mk lw lt ph lw lt 0 ht0 ht1 hw0 hw1 _).mono ?_
  rintro e w1 ⟨rfl, lb1⟩
  have lz1 := lb1.size
  (try simp at lz1)
  have lB1 : Below w.heap.size w w1 := via lb1 (by go_grown) (by go_size)
  have m1_0 : w1.cell? ⟨w.heap.size, 0, none⟩ = some (.int .i64 lw) := kept lb1 (by repeat' (first | (with_reducible assumption) | (simp; done) | (simp [go_sem]; done) | with_reducible apply keptD | with_reducible apply keptA))
  have m1_1 : w1.cell? ⟨w.heap.size, 1, none⟩ = some (.int .u32 lt) := kept lb1 (by repeat' (first | (with_reducible assumption) | (simp; done) | (simp [go_sem]; done) | with_reducible apply keptD | with_reducible apply keptA))
  have m1_2 : w1.cell? ⟨w.heap.size, 2, none⟩ = some (.int .u32 0) := kept lb1 (by repeat' (first | (with_reducible assumption) | (simp; done) | (simp [go_sem]; done) | with_reducible apply keptD | with_reducible apply keptA))
  have m1_3 : w1.cell? ⟨w.heap.size, 3, none⟩ = some (.int .i64 off) := kept lb1 (by repeat' (first | (with_reducible assumption) | (simp; done) | (simp [go_sem]; done) | with_reducible apply keptD | with_reducible apply keptA))
  have m1_4 : w1.cell? ⟨w.heap.size, 4, none⟩ = some (.int .i64 up) := kept lb1 (by repeat' (first | (with_reducible assumption) | (simp; done) | (simp [go_sem]; done) | with_reducible apply keptD | with_reducible apply keptA))
  have m1_5 : w1.cell? ⟨w.heap.size, 5, none⟩ = some (.int .u32 mk) := kept lb1 (by repeat' (first | (with_reducible assumption) | (simp; done) | (simp [go_sem]; done) | with_reducible apply keptD | with_reducible apply keptA))
  have m1_6 : w1.cell? ⟨w.heap.size + 1, 0, none⟩ = some (.int .i64 0) := kept lb1 (by repeat' (first | (with_reducible assumption) | (simp; done) | (simp [go_sem]; done) | with_reducible apply keptD | with_reducible apply keptA))
  have m1_7 : w1.cell? ⟨w.heap.size + 1, 1, none⟩ = some (.int .u32 0) := kept lb1 (by repeat' (first | (with_reducible assumption) | (simp; done) | (simp [go_sem]; done) | with_reducible apply keptD | with_reducible apply keptA))
  have m1_8 : w1.cell? ⟨w.heap.size + 1, 2, none⟩ = some (.int .u32 0) := kept lb1 (by repeat' (first | (with_reducible assumption) | (simp; done) | (simp [go_sem]; done) | with_reducible apply keptD | with_reducible apply keptA))
  have m1_9 : w1.cell? ⟨w.heap.size + 1 + 1, 0, none⟩ = some (.int .i64 0) := kept lb1 (by repeat' (first | (with_reducible assumption) | (simp; done) | (simp [go_sem]; done) | with_reducible apply keptD | with_reducible apply keptA))
  have m1_10 : w1.cell? ⟨w.heap.size + 1 + 1, 1, none⟩ = some (.int .u32 0) := kept lb1 (by repeat' (first | (with_reducible assumption) | (simp; done) | (simp [go_sem]; done) | with_reducible apply keptD | with_reducible apply keptA))
  have m1_11 : w1.cell? ⟨w.heap.size + 1 + 1, 2, none⟩ = some (.int .u32 0) := kept lb1 (by repeat' (first | (with_reducible assumption) | (simp; done) | (simp [go_sem]; done) | with_reducible apply keptD | with_reducible apply keptA))
  have m1_12 : w1.cell? ⟨w.heap.size + 1 + 1, 3, none⟩ = some (.int .i64 0) := kept lb1 (by repeat' (first | (with_reducible assumption) | (simp; done) | (simp [go_sem]; done) | with_reducible apply keptD | with_reducible apply keptA))
  have m1_13 : w1.cell? ⟨w.heap.size + 1 + 1, 4, none⟩ = some (.int .i64 0) := kept lb1 (by repeat' (first | (with_reducible assumption) | (simp; done) | (simp [go_sem]; done) | with_reducible apply keptD | with_reducible apply keptA))
  have m1_14 : w1.cell? ⟨w.heap.size + 1 + 1, 5, none⟩ = some (.int .u32 0) := kept lb1 (by repeat' (first | (with_reducible assumption) | (simp; done) | (simp [go_sem]; done) | with_reducible apply keptD | with_reducible apply keptA))
  have s1_0 : w.heap.size < w1.heap.size := by omega
  have s1_1 : w.heap.size + 1 < w1.heap.size := by omega
  have s1_2 : w.heap.size + 1 + 1 < w1.heap.size := by omega
  have z1_0 : w1.frozen? ⟨w.heap.size + 1, 0, none⟩ = false := keptF lb1 (by first | (simp; done) | (simp; omega)) (by first | (simp; done) | (simp [go_sem]; done))
  have z1_1 : w1.frozen? ⟨w.heap.size + 1, 1, none⟩ = false := keptF lb1 (by first | (simp; done) | (simp; omega)) (by first | (simp; done) | (simp [go_sem]; done))
  have z1_2 : w1.frozen? ⟨w.heap.size + 1, 2, none⟩ = false := keptF lb1 (by first | (simp; done) | (simp; omega)) (by first | (simp; done) | (simp [go_sem]; done))
  have z1_3 : w1.frozen? ⟨w.heap.size + 1 + 1, 0, none⟩ = false := keptF lb1 (by first | (simp; done) | (simp; omega)) (by first | (simp; done) | (simp [go_sem]; done))
  have z1_4 : w1.frozen? ⟨w.heap.size + 1 + 1, 1, none⟩ = false := keptF lb1 (by first | (simp; done) | (simp; omega)) (by first | (simp; done) | (simp [go_sem]; done))
  have z1_5 : w1.frozen? ⟨w.heap.size + 1 + 1, 2, none⟩ = false := keptF lb1 (by first | (simp; done) | (simp; omega)) (by first | (simp; done) | (simp [go_sem]; done))
  have z1_6 : w1.frozen? ⟨w.heap.size + 1 + 1, 3, none⟩ = false := keptF lb1 (by first | (simp; done) | (simp; omega)) (by first | (simp; done) | (simp [go_sem]; done))
  have z1_7 : w1.frozen? ⟨w.heap.size + 1 + 1, 4, none⟩ = false := keptF lb1 (by first | (simp; done) | (simp; omega)) (by first | (simp; done) | (simp [go_sem]; done))
  have z1_8 : w1.frozen? ⟨w.heap.size + 1 + 1, 5, none⟩ = false := keptF lb1 (by first | (simp; done) | (simp; omega)) (by first | (simp; done) | (simp [go_sem]; done))
  clear lb1
  go_wp2
  generalize hW : (World.setCell _ _ _ : World) = W'
  have r0 : W'.cell? ⟨w.heap.size + 1, 0, none⟩ = some (.int .i64 (gvA up ph lw lt)) := by rw [← hW]; (repeat' (first | (with_reducible assumption) | (with_reducible apply cellS) | ((with_reducible refine cellO ?_ ?_); focus (first | (intro hh; simp at hh; done) | (intro hh; simp at hh; omega))) | (with_reducible apply cellN) | (with_reducible apply keptA) | (with_reducible apply isS) | (with_reducible apply isN) | (with_reducible apply isA) | (with_reducible apply isOf; with_reducible assumption)))
  have r1 : W'.cell? ⟨w.heap.size + 1, 1, none⟩ = some (.int .u32 (gvB up ph lw lt)) := by rw [← hW]; (repeat' (first | (with_reducible assumption) | (with_reducible apply cellS) | ((with_reducible refine cellO ?_ ?_); focus (first | (intro hh; simp at hh; done) | (intro hh; simp at hh; omega))) | (with_reducible apply cellN) | (with_reducible apply keptA) | (with_reducible apply isS) | (with_reducible apply isN) | (with_reducible apply isA) | (with_reducible apply isOf; with_reducible assumption)))
  have r2 : W'.cell? ⟨w.heap.size + 1, 2, none⟩ = some (.int .u32 (gvM up mk ph lw lt)) := by rw [← hW]; (repeat' (first | (with_reducible assumption) | (with_reducible apply cellS) | ((with_reducible refine cellO ?_ ?_); focus (first | (intro hh; simp at hh; done) | (intro hh; simp at hh; omega))) | (with_reducible apply cellN) | (with_reducible apply keptA) | (with_reducible apply isS) | (with_reducible apply isN) | (with_reducible apply isA) | (with_reducible apply isOf; with_reducible assumption)))
  have r3 : W'.cell? ⟨w.heap.size + 1 + 1, 0, none⟩ = some (.int .i64 (gvW up ph lw lt lw)) := by rw [← hW]; (repeat' (first | (with_reducible assumption) | (with_reducible apply cellS) | ((with_reducible refine cellO ?_ ?_); focus (first | (intro hh; simp at hh; done) | (intro hh; simp at hh; omega))) | (with_reducible apply cellN) | (with_reducible apply keptA) | (with_reducible apply isS) | (with_reducible apply isN) | (with_reducible apply isA) | (with_reducible apply isOf; with_reducible assumption)))
  have r4 : W'.cell? ⟨w.heap.size + 1 + 1, 1, none⟩ = some (.int .u32 (gvT up ph lw lt lt)) := by rw [← hW]; (repeat' (first | (with_reducible assumption) | (with_reducible apply cellS) | ((with_reducible refine cellO ?_ ?_); focus (first | (intro hh; simp at hh; done) | (intro hh; simp at hh; omega))) | (with_reducible apply cellN) | (with_reducible apply keptA) | (with_reducible apply isS) | (with_reducible apply isN) | (with_reducible apply isA) | (with_reducible apply isOf; with_reducible assumption)))
  have r5 : W'.cell? ⟨w.heap.size + 1 + 1, 2, none⟩ = some (.int .u32 0) := by rw [← hW]; (repeat' (first | (with_reducible assumption) | (with_reducible apply cellS) | ((with_reducible refine cellO ?_ ?_); focus (first | (intro hh; simp at hh; done) | (intro hh; simp at hh; omega))) | (with_reducible apply cellN) | (with_reducible apply keptA) | (with_reducible apply isS) | (with_reducible apply isN) | (with_reducible apply isA) | (with_reducible apply isOf; with_reducible assumption)))
  have r6 : W'.cell? ⟨w.heap.size + 1 + 1, 3, none⟩ = some (.int .i64 off) := by rw [← hW]; (repeat' (first | (with_reducible assumption) | (with_reducible apply cellS) | ((with_reducible refine cellO ?_ ?_); focus (first | (intro hh; simp at hh; done) | (intro hh; simp at hh; omega))) | (with_reducible apply cellN) | (with_reducible apply keptA) | (with_reducible apply isS) | (with_reducible apply isN) | (with_reducible apply isA) | (with_reducible apply isOf; with_reducible assumption)))
  have r7 : W'.cell? ⟨w.heap.size + 1 + 1, 4, none⟩ = some (.int .i64 up) := by rw [← hW]; (repeat' (first | (with_reducible assumption) | (with_reducible apply cellS) | ((with_reducible refine cellO ?_ ?_); focus (first | (intro hh; simp at hh; done) | (intro hh; simp at hh; omega))) | (with_reducible apply cellN) | (with_reducible apply keptA) | (with_reducible apply isS) | (with_reducible apply isN) | (with_reducible apply isA) | (with_reducible apply isOf; with_reducible assumption)))
  have r8 : W'.cell? ⟨w.heap.size + 1 + 1, 5, none⟩ = some (.int .u32 mk) := by rw [← hW]; (repeat' (first | (with_reducible assumption) | (with_reducible apply cellS) | ((with_reducible refine cellO ?_ ?_); focus (first | (intro hh; simp at hh; done) | (intro hh; simp at hh; omega))) | (with_reducible apply cellN) | (with_reducible apply keptA) | (with_reducible apply isS) | (with_reducible apply isN) | (with_reducible apply isA) | (with_reducible apply isOf; with_reducible assumption)))
  have q0 : w.heap.size < W'.heap.size := by rw [← hW]; simp; omega
  have q1 : w.heap.size + 1 < W'.heap.size := by rw [← hW]; simp; omega
  have q2 : w.heap.size + 1 + 1 < W'.heap.size := by rw [← hW]; simp; omega
  have rB : Below w.heap.size w W' := by rw [← hW]; go_grown
  clear hW
  exact bodyPost_ret (v := .tuple #[.agg #[.int .i64 (gvA up ph lw lt), .int .u32 (gvB up ph lw lt), .int .u32 (gvM up mk ph lw lt)], .int .i64 (gvE up ph lw lt), .agg #[.int .i64 (gvW up ph lw lt lw), .int .u32 (gvT up ph lw lt lt), .int .u32 0, .int .i64 off, .int .i64 up, .int .u32 mk]]) (by simp [results, Try.results26, go_sem, r0, r1, r2, r3, r4, r5, r6, r7, r8, q0, q1, q2]) rfl ⟨rfl, by go_grown⟩

def uoM (lw lt iw it im : Int) : Int := if 0 < cmpS iw it im lw lt 0 then im else 0

set_option maxHeartbeats 1000000 in
theorem most_any (lw lt iw it im : Int) (w : World) :
    Calls Try.prog 39 #[.agg #[.int .i64 lw, .int .u32 lt, .int .u32 0], .agg #[.int .i64 iw, .int .u32 it, .int .u32 im]] w fun e w' => e = .returned (.agg #[.int .i64 (uoW lw lt iw it im), .int .u32 (uoT lw lt iw it im), .int .u32 (uoM lw lt iw it im)]) ∧ Below w.heap.size w w' := by
  by_cases hc : belowB lw lt 0 iw it im = true
  · have hp : 0 < cmpS iw it im lw lt 0 := by
      have := cmpS_cases iw it im lw lt 0
      have := cmpS_cases lw lt 0 iw it im
      simp [belowB] at hc
      omega
    have e1 : uoW lw lt iw it im = iw := if_pos hp
    have e2 : uoT lw lt iw it im = it := if_pos hp
    have e3 : uoM lw lt iw it im = im := if_pos hp
    rw [e1, e2, e3]
    clear e1 e2 e3 hp
    go_enter Try.func39, Try.ntmps39
    go_wp2_with fail
    refine (rbelow_any _ _ _ _ _ _ _).mono ?_
    rintro e w1 ⟨rfl, lb1⟩
    have lz1 := lb1.size
    (try simp at lz1)
    have lB1 : Below w.heap.size w w1 := via lb1 (by go_grown) (by go_size)
    have m1_0 : w1.cell? ⟨w.heap.size, 0, none⟩ = some (.int .i64 lw) := kept lb1 (by repeat' (first | (with_reducible assumption) | (simp; done) | (simp [go_sem]; done) | with_reducible apply keptD | with_reducible apply keptA))
    have m1_1 : w1.cell? ⟨w.heap.size, 1, none⟩ = some (.int .u32 lt) := kept lb1 (by repeat' (first | (with_reducible assumption) | (simp; done) | (simp [go_sem]; done) | with_reducible apply keptD | with_reducible apply keptA))
    have m1_2 : w1.cell? ⟨w.heap.size, 2, none⟩ = some (.int .u32 0) := kept lb1 (by repeat' (first | (with_reducible assumption) | (simp; done) | (simp [go_sem]; done) | with_reducible apply keptD | with_reducible apply keptA))
    have m1_3 : w1.cell? ⟨w.heap.size + 1, 0, none⟩ = some (.int .i64 iw) := kept lb1 (by repeat' (first | (with_reducible assumption) | (simp; done) | (simp [go_sem]; done) | with_reducible apply keptD | with_reducible apply keptA))
    have m1_4 : w1.cell? ⟨w.heap.size + 1, 1, none⟩ = some (.int .u32 it) := kept lb1 (by repeat' (first | (with_reducible assumption) | (simp; done) | (simp [go_sem]; done) | with_reducible apply keptD | with_reducible apply keptA))
    have m1_5 : w1.cell? ⟨w.heap.size + 1, 2, none⟩ = some (.int .u32 im) := kept lb1 (by repeat' (first | (with_reducible assumption) | (simp; done) | (simp [go_sem]; done) | with_reducible apply keptD | with_reducible apply keptA))
    have m1_6 : w1.cell? ⟨w.heap.size + 1 + 1, 0, none⟩ = some (.int .i64 0) := kept lb1 (by repeat' (first | (with_reducible assumption) | (simp; done) | (simp [go_sem]; done) | with_reducible apply keptD | with_reducible apply keptA))
    have m1_7 : w1.cell? ⟨w.heap.size + 1 + 1, 1, none⟩ = some (.int .u32 0) := kept lb1 (by repeat' (first | (with_reducible assumption) | (simp; done) | (simp [go_sem]; done) | with_reducible apply keptD | with_reducible apply keptA))
    have m1_8 : w1.cell? ⟨w.heap.size + 1 + 1, 2, none⟩ = some (.int .u32 0) := kept lb1 (by repeat' (first | (with_reducible assumption) | (simp; done) | (simp [go_sem]; done) | with_reducible apply keptD | with_reducible apply keptA))
    have s1_0 : w.heap.size < w1.heap.size := by omega
    have s1_1 : w.heap.size + 1 < w1.heap.size := by omega
    have s1_2 : w.heap.size + 1 + 1 < w1.heap.size := by omega
    have z1_0 : w1.frozen? ⟨w.heap.size + 1 + 1, 0, none⟩ = false := keptF lb1 (by first | (simp; done) | (simp; omega)) (by first | (simp; done) | (simp [go_sem]; done))
    have z1_1 : w1.frozen? ⟨w.heap.size + 1 + 1, 1, none⟩ = false := keptF lb1 (by first | (simp; done) | (simp; omega)) (by first | (simp; done) | (simp [go_sem]; done))
    have z1_2 : w1.frozen? ⟨w.heap.size + 1 + 1, 2, none⟩ = false := keptF lb1 (by first | (simp; done) | (simp; omega)) (by first | (simp; done) | (simp [go_sem]; done))
    clear lb1
    go_wp2
    exact bodyPost_ret (v := .agg #[.int .i64 iw, .int .u32 it, .int .u32 im]) (by simp [results, Try.results39, go_sem, m1_0, m1_1, m1_2, m1_3, m1_4, m1_5, m1_6, m1_7, m1_8]) rfl ⟨rfl, by go_grown⟩
  · have hc : belowB lw lt 0 iw it im = false := by simpa using hc
    have hp : ¬ 0 < cmpS iw it im lw lt 0 := by
      have := cmpS_cases iw it im lw lt 0
      have := cmpS_cases lw lt 0 iw it im
      simp [belowB] at hc
      omega
    have e1 : uoW lw lt iw it im = lw := if_neg hp
    have e2 : uoT lw lt iw it im = lt := if_neg hp
    have e3 : uoM lw lt iw it im = 0 := if_neg hp
    rw [e1, e2, e3]
    clear e1 e2 e3 hp
    go_enter Try.func39, Try.ntmps39
    go_wp2_with fail
    refine (rbelow_any _ _ _ _ _ _ _).mono ?_
    rintro e w1 ⟨rfl, lb1⟩
    have lz1 := lb1.size
    (try simp at lz1)
    have lB1 : Below w.heap.size w w1 := via lb1 (by go_grown) (by go_size)
    have m1_0 : w1.cell? ⟨w.heap.size, 0, none⟩ = some (.int .i64 lw) := kept lb1 (by repeat' (first | (with_reducible assumption) | (simp; done) | (simp [go_sem]; done) | with_reducible apply keptD | with_reducible apply keptA))
    have m1_1 : w1.cell? ⟨w.heap.size, 1, none⟩ = some (.int .u32 lt) := kept lb1 (by repeat' (first | (with_reducible assumption) | (simp; done) | (simp [go_sem]; done) | with_reducible apply keptD | with_reducible apply keptA))
    have m1_2 : w1.cell? ⟨w.heap.size, 2, none⟩ = some (.int .u32 0) := kept lb1 (by repeat' (first | (with_reducible assumption) | (simp; done) | (simp [go_sem]; done) | with_reducible apply keptD | with_reducible apply keptA))
    have m1_3 : w1.cell? ⟨w.heap.size + 1, 0, none⟩ = some (.int .i64 iw) := kept lb1 (by repeat' (first | (with_reducible assumption) | (simp; done) | (simp [go_sem]; done) | with_reducible apply keptD | with_reducible apply keptA))
    have m1_4 : w1.cell? ⟨w.heap.size + 1, 1, none⟩ = some (.int .u32 it) := kept lb1 (by repeat' (first | (with_reducible assumption) | (simp; done) | (simp [go_sem]; done) | with_reducible apply keptD | with_reducible apply keptA))
    have m1_5 : w1.cell? ⟨w.heap.size + 1, 2, none⟩ = some (.int .u32 im) := kept lb1 (by repeat' (first | (with_reducible assumption) | (simp; done) | (simp [go_sem]; done) | with_reducible apply keptD | with_reducible apply keptA))
    have m1_6 : w1.cell? ⟨w.heap.size + 1 + 1, 0, none⟩ = some (.int .i64 0) := kept lb1 (by repeat' (first | (with_reducible assumption) | (simp; done) | (simp [go_sem]; done) | with_reducible apply keptD | with_reducible apply keptA))
    have m1_7 : w1.cell? ⟨w.heap.size + 1 + 1, 1, none⟩ = some (.int .u32 0) := kept lb1 (by repeat' (first | (with_reducible assumption) | (simp; done) | (simp [go_sem]; done) | with_reducible apply keptD | with_reducible apply keptA))
    have m1_8 : w1.cell? ⟨w.heap.size + 1 + 1, 2, none⟩ = some (.int .u32 0) := kept lb1 (by repeat' (first | (with_reducible assumption) | (simp; done) | (simp [go_sem]; done) | with_reducible apply keptD | with_reducible apply keptA))
    have s1_0 : w.heap.size < w1.heap.size := by omega
    have s1_1 : w.heap.size + 1 < w1.heap.size := by omega
    have s1_2 : w.heap.size + 1 + 1 < w1.heap.size := by omega
    have z1_0 : w1.frozen? ⟨w.heap.size + 1 + 1, 0, none⟩ = false := keptF lb1 (by first | (simp; done) | (simp; omega)) (by first | (simp; done) | (simp [go_sem]; done))
    have z1_1 : w1.frozen? ⟨w.heap.size + 1 + 1, 1, none⟩ = false := keptF lb1 (by first | (simp; done) | (simp; omega)) (by first | (simp; done) | (simp [go_sem]; done))
    have z1_2 : w1.frozen? ⟨w.heap.size + 1 + 1, 2, none⟩ = false := keptF lb1 (by first | (simp; done) | (simp; omega)) (by first | (simp; done) | (simp [go_sem]; done))
    clear lb1
    go_wp2
    exact bodyPost_ret (v := .agg #[.int .i64 lw, .int .u32 lt, .int .u32 0]) (by simp [results, Try.results39, go_sem, m1_0, m1_1, m1_2, m1_3, m1_4, m1_5, m1_6, m1_7, m1_8]) rfl ⟨rfl, by go_grown⟩

theorem rraise_no (off up mk lw lt v : Int) (w : World) (h : v < up ∨ 4611686018427387904 < v) :
    Calls Try.prog 29 #[.agg #[.int .i64 lw, .int .u32 lt, .int .u32 0, .int .i64 off, .int .i64 up, .int .u32 mk], .int .i64 v] w fun e w' => e = .returned (.tuple #[.int .i64 1, .agg #[.int .i64 lw, .int .u32 lt, .int .u32 0, .int .i64 off, .int .i64 up, .int .u32 mk]]) ∧ Below w.heap.size w w' := by
  by_cases h1 : v < up
  · clear h
    go_enter Try.func29, Try.ntmps29
    go_wp2
    go_region
    all_goals go_wp2
    all_goals exact bodyPost_ret (v := .tuple #[.int .i64 1, .agg #[.int .i64 lw, .int .u32 lt, .int .u32 0, .int .i64 off, .int .i64 up, .int .u32 mk]]) (by simp [results, Try.results29, go_sem]) rfl ⟨rfl, by go_grown⟩
  · have h2 : 4611686018427387904 < v := by omega
    have h1' : up ≤ v := by omega
    clear h
    go_enter Try.func29, Try.ntmps29
    go_wp2
    go_region
    all_goals go_wp2
    all_goals exact bodyPost_ret (v := .tuple #[.int .i64 1, .agg #[.int .i64 lw, .int .u32 lt, .int .u32 0, .int .i64 off, .int .i64 up, .int .u32 mk]]) (by simp [results, Try.results29, go_sem]) rfl ⟨rfl, by go_grown⟩

theorem rraise_yes (off up mk lw lt v : Int) (w : World) (h1 : up ≤ v) (h2 : v ≤ 4611686018427387904) :
    Calls Try.prog 29 #[.agg #[.int .i64 lw, .int .u32 lt, .int .u32 0, .int .i64 off, .int .i64 up, .int .u32 mk], .int .i64 v] w fun e w' => e = .returned (.tuple #[.int .i64 0, .agg #[.int .i64 lw, .int .u32 lt, .int .u32 0, .int .i64 off, .int .i64 v, .int .u32 mk]]) ∧ Below w.heap.size w w' := by
  go_enter Try.func29, Try.ntmps29
  go_wp2
  go_region
  all_goals go_wp2
  all_goals exact bodyPost_ret (v := .tuple #[.int .i64 0, .agg #[.int .i64 lw, .int .u32 lt, .int .u32 0, .int .i64 off, .int .i64 v, .int .u32 mk]]) (by simp [results, Try.results29, go_sem]) rfl ⟨rfl, by go_grown⟩

end Go.Proofs.Yteibigiehpkdjaa
