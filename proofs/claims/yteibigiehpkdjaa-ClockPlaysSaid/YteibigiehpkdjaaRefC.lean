/- The document's clock: Update. -/
import Derived.Test.YteibigiehpkdjaaRefB
import Derived.Test.YteibigiehpkdjaaPhase
namespace Go.Proofs.Yteibigiehpkdjaa
open Go.RowKit


set_option maxHeartbeats 1000000 in
theorem rupd_bad1 (off up mk lw lt ph iw it im : Int) (w : World) (hr : rightB ph = false) :
    Calls Try.prog 28 #[.agg #[.int .i64 lw, .int .u32 lt, .int .u32 0, .int .i64 off, .int .i64 up, .int .u32 mk], .int .i64 ph, .agg #[.int .i64 iw, .int .u32 it, .int .u32 im]] w fun e w' => e = .returned (.tuple #[.agg #[.int .i64 0, .int .u32 0, .int .u32 0], .int .i64 1, .agg #[.int .i64 lw, .int .u32 lt, .int .u32 0, .int .i64 off, .int .i64 up, .int .u32 mk]]) ∧ Below w.heap.size w w' := by
  have h' : ph < 0 ∨ 4611686018427387904 < ph := by simp [rightB] at hr; omega
  clear hr
  rcases h' with h | h
  · go_enter Try.func28, Try.ntmps28
    go_wp2
    go_region
    all_goals go_wp2
    all_goals exact bodyPost_ret (v := .tuple #[.agg #[.int .i64 0, .int .u32 0, .int .u32 0], .int .i64 1, .agg #[.int .i64 lw, .int .u32 lt, .int .u32 0, .int .i64 off, .int .i64 up, .int .u32 mk]]) (by simp [results, Try.results28, go_sem]) rfl ⟨rfl, by go_grown⟩
  · have h0 : 0 ≤ ph := by omega
    go_enter Try.func28, Try.ntmps28
    go_wp2
    go_region
    all_goals go_wp2
    all_goals exact bodyPost_ret (v := .tuple #[.agg #[.int .i64 0, .int .u32 0, .int .u32 0], .int .i64 1, .agg #[.int .i64 lw, .int .u32 lt, .int .u32 0, .int .i64 off, .int .i64 up, .int .u32 mk]]) (by simp [results, Try.results28, go_sem]) rfl ⟨rfl, by go_grown⟩

set_option maxHeartbeats 1000000 in
theorem rupd_bad2 (off up mk lw lt ph iw it im : Int) (w : World) (hr : rightB ph = true) (hri : rightB iw = false) :
    Calls Try.prog 28 #[.agg #[.int .i64 lw, .int .u32 lt, .int .u32 0, .int .i64 off, .int .i64 up, .int .u32 mk], .int .i64 ph, .agg #[.int .i64 iw, .int .u32 it, .int .u32 im]] w fun e w' => e = .returned (.tuple #[.agg #[.int .i64 0, .int .u32 0, .int .u32 0], .int .i64 1, .agg #[.int .i64 lw, .int .u32 lt, .int .u32 0, .int .i64 off, .int .i64 up, .int .u32 mk]]) ∧ Below w.heap.size w w' := by
  have h' : 0 ≤ ph ∧ ph ≤ 4611686018427387904 := by simpa [rightB] using hr
  obtain ⟨h0, h1⟩ := h'
  clear hr
  go_enter Try.func28, Try.ntmps28
  go_wp2_with fail
  refine (rright_any iw it im _).mono ?_
  rintro e w1 ⟨rfl, lb1⟩
  have lz1 := lb1.size
  (try simp at lz1)
  have lB1 : Below w.heap.size w w1 := via lb1 (by go_grown) (by go_size)
  have m1_0 : w1.cell? ⟨w.heap.size, 0, none⟩ = some (.int .i64 lw) := kept lb1 (by repeat' (first | (with_reducible assumption) | (simp; done) | (simp [go_sem]; done) | with_reducible apply keptD | with_reducible apply keptA))
  have m1_1 : w1.cell? ⟨w.heap.size, 1, none⟩ = some (.int .u32 lt) := kept lb1 (by repeat' (first | (with_reducible assumption) | (simp; done) | (simp [go_sem]; done) | with_reducible apply keptD | with_reducible apply keptA))
  have m1_2 : w1.cell? ⟨w.heap.size, 2, none⟩ = some (.int .u32 0) := kept lb1 (by repeat' (first | (with_reducible assumption) | (simp; done) | (simp [go_sem]; done) | with_reducible apply keptD | with_reducible apply keptA))
  have m1_3 : w1.cell? ⟨w.heap.size, 3, none⟩ = some (.int .i64 off) := kept lb1 (by repeat' (first | (with_reducible assumption) | (simp; done) | (simp [go_sem]; done) | with_reducible apply keptD | with_reducible apply keptA))
  have m1_4 : w1.cell? ⟨w.heap.size, 4, none⟩ = some (.int .i64 up) := kept lb1 (by repeat' (first | (with_reducible assumption) | (simp; done) | (simp [go_sem]; done) | with_reducible apply keptD | with_reducible apply keptA))
  have m1_5 : w1.cell? ⟨w.heap.size, 5, none⟩ = some (.int .u32 mk) := kept lb1 (by repeat' (first | (with_reducible assumption) | (simp; done) | (simp [go_sem]; done) | with_reducible apply keptD | with_reducible apply keptA))
  have m1_6 : w1.cell? ⟨w.heap.size + 1, 0, none⟩ = some (.int .i64 iw) := kept lb1 (by repeat' (first | (with_reducible assumption) | (simp; done) | (simp [go_sem]; done) | with_reducible apply keptD | with_reducible apply keptA))
  have m1_7 : w1.cell? ⟨w.heap.size + 1, 1, none⟩ = some (.int .u32 it) := kept lb1 (by repeat' (first | (with_reducible assumption) | (simp; done) | (simp [go_sem]; done) | with_reducible apply keptD | with_reducible apply keptA))
  have m1_8 : w1.cell? ⟨w.heap.size + 1, 2, none⟩ = some (.int .u32 im) := kept lb1 (by repeat' (first | (with_reducible assumption) | (simp; done) | (simp [go_sem]; done) | with_reducible apply keptD | with_reducible apply keptA))
  have m1_9 : w1.cell? ⟨w.heap.size + 1 + 1, 0, none⟩ = some (.int .i64 0) := kept lb1 (by repeat' (first | (with_reducible assumption) | (simp; done) | (simp [go_sem]; done) | with_reducible apply keptD | with_reducible apply keptA))
  have m1_10 : w1.cell? ⟨w.heap.size + 1 + 1, 1, none⟩ = some (.int .u32 0) := kept lb1 (by repeat' (first | (with_reducible assumption) | (simp; done) | (simp [go_sem]; done) | with_reducible apply keptD | with_reducible apply keptA))
  have m1_11 : w1.cell? ⟨w.heap.size + 1 + 1, 2, none⟩ = some (.int .u32 0) := kept lb1 (by repeat' (first | (with_reducible assumption) | (simp; done) | (simp [go_sem]; done) | with_reducible apply keptD | with_reducible apply keptA))
  have m1_12 : w1.cell? ⟨w.heap.size + 1 + 1 + 1, 0, none⟩ = some (.int .i64 0) := kept lb1 (by repeat' (first | (with_reducible assumption) | (simp; done) | (simp [go_sem]; done) | with_reducible apply keptD | with_reducible apply keptA))
  have m1_13 : w1.cell? ⟨w.heap.size + 1 + 1 + 1, 1, none⟩ = some (.int .u32 0) := kept lb1 (by repeat' (first | (with_reducible assumption) | (simp; done) | (simp [go_sem]; done) | with_reducible apply keptD | with_reducible apply keptA))
  have m1_14 : w1.cell? ⟨w.heap.size + 1 + 1 + 1, 2, none⟩ = some (.int .u32 0) := kept lb1 (by repeat' (first | (with_reducible assumption) | (simp; done) | (simp [go_sem]; done) | with_reducible apply keptD | with_reducible apply keptA))
  have m1_15 : w1.cell? ⟨w.heap.size + 1 + 1 + 1, 3, none⟩ = some (.int .i64 0) := kept lb1 (by repeat' (first | (with_reducible assumption) | (simp; done) | (simp [go_sem]; done) | with_reducible apply keptD | with_reducible apply keptA))
  have m1_16 : w1.cell? ⟨w.heap.size + 1 + 1 + 1, 4, none⟩ = some (.int .i64 0) := kept lb1 (by repeat' (first | (with_reducible assumption) | (simp; done) | (simp [go_sem]; done) | with_reducible apply keptD | with_reducible apply keptA))
  have m1_17 : w1.cell? ⟨w.heap.size + 1 + 1 + 1, 5, none⟩ = some (.int .u32 0) := kept lb1 (by repeat' (first | (with_reducible assumption) | (simp; done) | (simp [go_sem]; done) | with_reducible apply keptD | with_reducible apply keptA))
  have s1_0 : w.heap.size < w1.heap.size := by omega
  have s1_1 : w.heap.size + 1 < w1.heap.size := by omega
  have s1_2 : w.heap.size + 1 + 1 < w1.heap.size := by omega
  have s1_3 : w.heap.size + 1 + 1 + 1 < w1.heap.size := by omega
  have z1_0 : w1.frozen? ⟨w.heap.size + 1 + 1, 0, none⟩ = false := keptF lb1 (by first | (simp; done) | (simp; omega)) (by first | (simp; done) | (simp [go_sem]; done))
  have z1_1 : w1.frozen? ⟨w.heap.size + 1 + 1, 1, none⟩ = false := keptF lb1 (by first | (simp; done) | (simp; omega)) (by first | (simp; done) | (simp [go_sem]; done))
  have z1_2 : w1.frozen? ⟨w.heap.size + 1 + 1, 2, none⟩ = false := keptF lb1 (by first | (simp; done) | (simp; omega)) (by first | (simp; done) | (simp [go_sem]; done))
  have z1_3 : w1.frozen? ⟨w.heap.size + 1 + 1 + 1, 0, none⟩ = false := keptF lb1 (by first | (simp; done) | (simp; omega)) (by first | (simp; done) | (simp [go_sem]; done))
  have z1_4 : w1.frozen? ⟨w.heap.size + 1 + 1 + 1, 1, none⟩ = false := keptF lb1 (by first | (simp; done) | (simp; omega)) (by first | (simp; done) | (simp [go_sem]; done))
  have z1_5 : w1.frozen? ⟨w.heap.size + 1 + 1 + 1, 2, none⟩ = false := keptF lb1 (by first | (simp; done) | (simp; omega)) (by first | (simp; done) | (simp [go_sem]; done))
  have z1_6 : w1.frozen? ⟨w.heap.size + 1 + 1 + 1, 3, none⟩ = false := keptF lb1 (by first | (simp; done) | (simp; omega)) (by first | (simp; done) | (simp [go_sem]; done))
  have z1_7 : w1.frozen? ⟨w.heap.size + 1 + 1 + 1, 4, none⟩ = false := keptF lb1 (by first | (simp; done) | (simp; omega)) (by first | (simp; done) | (simp [go_sem]; done))
  have z1_8 : w1.frozen? ⟨w.heap.size + 1 + 1 + 1, 5, none⟩ = false := keptF lb1 (by first | (simp; done) | (simp; omega)) (by first | (simp; done) | (simp [go_sem]; done))
  clear lb1
  go_wp2
  go_region
  all_goals generalize hW : (World.setCell _ _ _ : World) = W'
  all_goals have r0 : W'.cell? ⟨w.heap.size + 1 + 1, 0, none⟩ = some (.int .i64 0) := by rw [← hW]; (repeat' (first | (with_reducible assumption) | (with_reducible apply cellS) | ((with_reducible refine cellO ?_ ?_); focus (first | (intro hh; simp at hh; done) | (intro hh; simp at hh; omega))) | (with_reducible apply cellN) | (with_reducible apply keptA) | (with_reducible apply isS) | (with_reducible apply isN) | (with_reducible apply isA) | (with_reducible apply isOf; with_reducible assumption)))
  all_goals have r1 : W'.cell? ⟨w.heap.size + 1 + 1, 1, none⟩ = some (.int .u32 0) := by rw [← hW]; (repeat' (first | (with_reducible assumption) | (with_reducible apply cellS) | ((with_reducible refine cellO ?_ ?_); focus (first | (intro hh; simp at hh; done) | (intro hh; simp at hh; omega))) | (with_reducible apply cellN) | (with_reducible apply keptA) | (with_reducible apply isS) | (with_reducible apply isN) | (with_reducible apply isA) | (with_reducible apply isOf; with_reducible assumption)))
  all_goals have r2 : W'.cell? ⟨w.heap.size + 1 + 1, 2, none⟩ = some (.int .u32 0) := by rw [← hW]; (repeat' (first | (with_reducible assumption) | (with_reducible apply cellS) | ((with_reducible refine cellO ?_ ?_); focus (first | (intro hh; simp at hh; done) | (intro hh; simp at hh; omega))) | (with_reducible apply cellN) | (with_reducible apply keptA) | (with_reducible apply isS) | (with_reducible apply isN) | (with_reducible apply isA) | (with_reducible apply isOf; with_reducible assumption)))
  all_goals have r3 : W'.cell? ⟨w.heap.size + 1 + 1 + 1, 0, none⟩ = some (.int .i64 lw) := by rw [← hW]; (repeat' (first | (with_reducible assumption) | (with_reducible apply cellS) | ((with_reducible refine cellO ?_ ?_); focus (first | (intro hh; simp at hh; done) | (intro hh; simp at hh; omega))) | (with_reducible apply cellN) | (with_reducible apply keptA) | (with_reducible apply isS) | (with_reducible apply isN) | (with_reducible apply isA) | (with_reducible apply isOf; with_reducible assumption)))
  all_goals have r4 : W'.cell? ⟨w.heap.size + 1 + 1 + 1, 1, none⟩ = some (.int .u32 lt) := by rw [← hW]; (repeat' (first | (with_reducible assumption) | (with_reducible apply cellS) | ((with_reducible refine cellO ?_ ?_); focus (first | (intro hh; simp at hh; done) | (intro hh; simp at hh; omega))) | (with_reducible apply cellN) | (with_reducible apply keptA) | (with_reducible apply isS) | (with_reducible apply isN) | (with_reducible apply isA) | (with_reducible apply isOf; with_reducible assumption)))
  all_goals have r5 : W'.cell? ⟨w.heap.size + 1 + 1 + 1, 2, none⟩ = some (.int .u32 0) := by rw [← hW]; (repeat' (first | (with_reducible assumption) | (with_reducible apply cellS) | ((with_reducible refine cellO ?_ ?_); focus (first | (intro hh; simp at hh; done) | (intro hh; simp at hh; omega))) | (with_reducible apply cellN) | (with_reducible apply keptA) | (with_reducible apply isS) | (with_reducible apply isN) | (with_reducible apply isA) | (with_reducible apply isOf; with_reducible assumption)))
  all_goals have r6 : W'.cell? ⟨w.heap.size + 1 + 1 + 1, 3, none⟩ = some (.int .i64 off) := by rw [← hW]; (repeat' (first | (with_reducible assumption) | (with_reducible apply cellS) | ((with_reducible refine cellO ?_ ?_); focus (first | (intro hh; simp at hh; done) | (intro hh; simp at hh; omega))) | (with_reducible apply cellN) | (with_reducible apply keptA) | (with_reducible apply isS) | (with_reducible apply isN) | (with_reducible apply isA) | (with_reducible apply isOf; with_reducible assumption)))
  all_goals have r7 : W'.cell? ⟨w.heap.size + 1 + 1 + 1, 4, none⟩ = some (.int .i64 up) := by rw [← hW]; (repeat' (first | (with_reducible assumption) | (with_reducible apply cellS) | ((with_reducible refine cellO ?_ ?_); focus (first | (intro hh; simp at hh; done) | (intro hh; simp at hh; omega))) | (with_reducible apply cellN) | (with_reducible apply keptA) | (with_reducible apply isS) | (with_reducible apply isN) | (with_reducible apply isA) | (with_reducible apply isOf; with_reducible assumption)))
  all_goals have r8 : W'.cell? ⟨w.heap.size + 1 + 1 + 1, 5, none⟩ = some (.int .u32 mk) := by rw [← hW]; (repeat' (first | (with_reducible assumption) | (with_reducible apply cellS) | ((with_reducible refine cellO ?_ ?_); focus (first | (intro hh; simp at hh; done) | (intro hh; simp at hh; omega))) | (with_reducible apply cellN) | (with_reducible apply keptA) | (with_reducible apply isS) | (with_reducible apply isN) | (with_reducible apply isA) | (with_reducible apply isOf; with_reducible assumption)))
  all_goals have q0 : w.heap.size < W'.heap.size := by rw [← hW]; simp; omega
  all_goals have q1 : w.heap.size + 1 < W'.heap.size := by rw [← hW]; simp; omega
  all_goals have q2 : w.heap.size + 1 + 1 < W'.heap.size := by rw [← hW]; simp; omega
  all_goals have q3 : w.heap.size + 1 + 1 + 1 < W'.heap.size := by rw [← hW]; simp; omega
  all_goals have rB : Below w.heap.size w W' := by rw [← hW]; go_grown
  all_goals clear hW
  all_goals go_wp2
  all_goals exact bodyPost_ret (v := .tuple #[.agg #[.int .i64 0, .int .u32 0, .int .u32 0], .int .i64 1, .agg #[.int .i64 lw, .int .u32 lt, .int .u32 0, .int .i64 off, .int .i64 up, .int .u32 mk]]) (by simp [results, Try.results28, go_sem, r0, r1, r2, r3, r4, r5, r6, r7, r8, q0, q1, q2, q3]) rfl ⟨rfl, by go_grown⟩

set_option maxHeartbeats 1000000 in
theorem rupd_bad3 (off up mk lw lt ph iw it im : Int) (w : World) (hr : rightB ph = true) (hri : rightB iw = true) (hf : off < iw - ph) (ho : 0 ≤ off) :
    Calls Try.prog 28 #[.agg #[.int .i64 lw, .int .u32 lt, .int .u32 0, .int .i64 off, .int .i64 up, .int .u32 mk], .int .i64 ph, .agg #[.int .i64 iw, .int .u32 it, .int .u32 im]] w fun e w' => e = .returned (.tuple #[.agg #[.int .i64 0, .int .u32 0, .int .u32 0], .int .i64 21, .agg #[.int .i64 lw, .int .u32 lt, .int .u32 0, .int .i64 off, .int .i64 up, .int .u32 mk]]) ∧ Below w.heap.size w w' := by
  have h' : 0 ≤ ph ∧ ph ≤ 4611686018427387904 := by simpa [rightB] using hr
  obtain ⟨h0, h1⟩ := h'
  clear hr
  have h' : 0 ≤ iw ∧ iw ≤ 4611686018427387904 := by simpa [rightB] using hri
  obtain ⟨g0, g1⟩ := h'
  have hlt : ph < iw := by omega
  go_enter Try.func28, Try.ntmps28
  go_wp2_with fail
  refine (rright_any iw it im _).mono ?_
  rintro e w1 ⟨rfl, lb1⟩
  have lz1 := lb1.size
  (try simp at lz1)
  have lB1 : Below w.heap.size w w1 := via lb1 (by go_grown) (by go_size)
  have m1_0 : w1.cell? ⟨w.heap.size, 0, none⟩ = some (.int .i64 lw) := kept lb1 (by repeat' (first | (with_reducible assumption) | (simp; done) | (simp [go_sem]; done) | with_reducible apply keptD | with_reducible apply keptA))
  have m1_1 : w1.cell? ⟨w.heap.size, 1, none⟩ = some (.int .u32 lt) := kept lb1 (by repeat' (first | (with_reducible assumption) | (simp; done) | (simp [go_sem]; done) | with_reducible apply keptD | with_reducible apply keptA))
  have m1_2 : w1.cell? ⟨w.heap.size, 2, none⟩ = some (.int .u32 0) := kept lb1 (by repeat' (first | (with_reducible assumption) | (simp; done) | (simp [go_sem]; done) | with_reducible apply keptD | with_reducible apply keptA))
  have m1_3 : w1.cell? ⟨w.heap.size, 3, none⟩ = some (.int .i64 off) := kept lb1 (by repeat' (first | (with_reducible assumption) | (simp; done) | (simp [go_sem]; done) | with_reducible apply keptD | with_reducible apply keptA))
  have m1_4 : w1.cell? ⟨w.heap.size, 4, none⟩ = some (.int .i64 up) := kept lb1 (by repeat' (first | (with_reducible assumption) | (simp; done) | (simp [go_sem]; done) | with_reducible apply keptD | with_reducible apply keptA))
  have m1_5 : w1.cell? ⟨w.heap.size, 5, none⟩ = some (.int .u32 mk) := kept lb1 (by repeat' (first | (with_reducible assumption) | (simp; done) | (simp [go_sem]; done) | with_reducible apply keptD | with_reducible apply keptA))
  have m1_6 : w1.cell? ⟨w.heap.size + 1, 0, none⟩ = some (.int .i64 iw) := kept lb1 (by repeat' (first | (with_reducible assumption) | (simp; done) | (simp [go_sem]; done) | with_reducible apply keptD | with_reducible apply keptA))
  have m1_7 : w1.cell? ⟨w.heap.size + 1, 1, none⟩ = some (.int .u32 it) := kept lb1 (by repeat' (first | (with_reducible assumption) | (simp; done) | (simp [go_sem]; done) | with_reducible apply keptD | with_reducible apply keptA))
  have m1_8 : w1.cell? ⟨w.heap.size + 1, 2, none⟩ = some (.int .u32 im) := kept lb1 (by repeat' (first | (with_reducible assumption) | (simp; done) | (simp [go_sem]; done) | with_reducible apply keptD | with_reducible apply keptA))
  have m1_9 : w1.cell? ⟨w.heap.size + 1 + 1, 0, none⟩ = some (.int .i64 0) := kept lb1 (by repeat' (first | (with_reducible assumption) | (simp; done) | (simp [go_sem]; done) | with_reducible apply keptD | with_reducible apply keptA))
  have m1_10 : w1.cell? ⟨w.heap.size + 1 + 1, 1, none⟩ = some (.int .u32 0) := kept lb1 (by repeat' (first | (with_reducible assumption) | (simp; done) | (simp [go_sem]; done) | with_reducible apply keptD | with_reducible apply keptA))
  have m1_11 : w1.cell? ⟨w.heap.size + 1 + 1, 2, none⟩ = some (.int .u32 0) := kept lb1 (by repeat' (first | (with_reducible assumption) | (simp; done) | (simp [go_sem]; done) | with_reducible apply keptD | with_reducible apply keptA))
  have m1_12 : w1.cell? ⟨w.heap.size + 1 + 1 + 1, 0, none⟩ = some (.int .i64 0) := kept lb1 (by repeat' (first | (with_reducible assumption) | (simp; done) | (simp [go_sem]; done) | with_reducible apply keptD | with_reducible apply keptA))
  have m1_13 : w1.cell? ⟨w.heap.size + 1 + 1 + 1, 1, none⟩ = some (.int .u32 0) := kept lb1 (by repeat' (first | (with_reducible assumption) | (simp; done) | (simp [go_sem]; done) | with_reducible apply keptD | with_reducible apply keptA))
  have m1_14 : w1.cell? ⟨w.heap.size + 1 + 1 + 1, 2, none⟩ = some (.int .u32 0) := kept lb1 (by repeat' (first | (with_reducible assumption) | (simp; done) | (simp [go_sem]; done) | with_reducible apply keptD | with_reducible apply keptA))
  have m1_15 : w1.cell? ⟨w.heap.size + 1 + 1 + 1, 3, none⟩ = some (.int .i64 0) := kept lb1 (by repeat' (first | (with_reducible assumption) | (simp; done) | (simp [go_sem]; done) | with_reducible apply keptD | with_reducible apply keptA))
  have m1_16 : w1.cell? ⟨w.heap.size + 1 + 1 + 1, 4, none⟩ = some (.int .i64 0) := kept lb1 (by repeat' (first | (with_reducible assumption) | (simp; done) | (simp [go_sem]; done) | with_reducible apply keptD | with_reducible apply keptA))
  have m1_17 : w1.cell? ⟨w.heap.size + 1 + 1 + 1, 5, none⟩ = some (.int .u32 0) := kept lb1 (by repeat' (first | (with_reducible assumption) | (simp; done) | (simp [go_sem]; done) | with_reducible apply keptD | with_reducible apply keptA))
  have s1_0 : w.heap.size < w1.heap.size := by omega
  have s1_1 : w.heap.size + 1 < w1.heap.size := by omega
  have s1_2 : w.heap.size + 1 + 1 < w1.heap.size := by omega
  have s1_3 : w.heap.size + 1 + 1 + 1 < w1.heap.size := by omega
  have z1_0 : w1.frozen? ⟨w.heap.size + 1 + 1, 0, none⟩ = false := keptF lb1 (by first | (simp; done) | (simp; omega)) (by first | (simp; done) | (simp [go_sem]; done))
  have z1_1 : w1.frozen? ⟨w.heap.size + 1 + 1, 1, none⟩ = false := keptF lb1 (by first | (simp; done) | (simp; omega)) (by first | (simp; done) | (simp [go_sem]; done))
  have z1_2 : w1.frozen? ⟨w.heap.size + 1 + 1, 2, none⟩ = false := keptF lb1 (by first | (simp; done) | (simp; omega)) (by first | (simp; done) | (simp [go_sem]; done))
  have z1_3 : w1.frozen? ⟨w.heap.size + 1 + 1 + 1, 0, none⟩ = false := keptF lb1 (by first | (simp; done) | (simp; omega)) (by first | (simp; done) | (simp [go_sem]; done))
  have z1_4 : w1.frozen? ⟨w.heap.size + 1 + 1 + 1, 1, none⟩ = false := keptF lb1 (by first | (simp; done) | (simp; omega)) (by first | (simp; done) | (simp [go_sem]; done))
  have z1_5 : w1.frozen? ⟨w.heap.size + 1 + 1 + 1, 2, none⟩ = false := keptF lb1 (by first | (simp; done) | (simp; omega)) (by first | (simp; done) | (simp [go_sem]; done))
  have z1_6 : w1.frozen? ⟨w.heap.size + 1 + 1 + 1, 3, none⟩ = false := keptF lb1 (by first | (simp; done) | (simp; omega)) (by first | (simp; done) | (simp [go_sem]; done))
  have z1_7 : w1.frozen? ⟨w.heap.size + 1 + 1 + 1, 4, none⟩ = false := keptF lb1 (by first | (simp; done) | (simp; omega)) (by first | (simp; done) | (simp [go_sem]; done))
  have z1_8 : w1.frozen? ⟨w.heap.size + 1 + 1 + 1, 5, none⟩ = false := keptF lb1 (by first | (simp; done) | (simp; omega)) (by first | (simp; done) | (simp [go_sem]; done))
  clear lb1
  go_wp2
  go_region
  all_goals generalize hW : (World.setCell _ _ _ : World) = W'
  all_goals have r0 : W'.cell? ⟨w.heap.size + 1 + 1, 0, none⟩ = some (.int .i64 0) := by rw [← hW]; (repeat' (first | (with_reducible assumption) | (with_reducible apply cellS) | ((with_reducible refine cellO ?_ ?_); focus (first | (intro hh; simp at hh; done) | (intro hh; simp at hh; omega))) | (with_reducible apply cellN) | (with_reducible apply keptA) | (with_reducible apply isS) | (with_reducible apply isN) | (with_reducible apply isA) | (with_reducible apply isOf; with_reducible assumption)))
  all_goals have r1 : W'.cell? ⟨w.heap.size + 1 + 1, 1, none⟩ = some (.int .u32 0) := by rw [← hW]; (repeat' (first | (with_reducible assumption) | (with_reducible apply cellS) | ((with_reducible refine cellO ?_ ?_); focus (first | (intro hh; simp at hh; done) | (intro hh; simp at hh; omega))) | (with_reducible apply cellN) | (with_reducible apply keptA) | (with_reducible apply isS) | (with_reducible apply isN) | (with_reducible apply isA) | (with_reducible apply isOf; with_reducible assumption)))
  all_goals have r2 : W'.cell? ⟨w.heap.size + 1 + 1, 2, none⟩ = some (.int .u32 0) := by rw [← hW]; (repeat' (first | (with_reducible assumption) | (with_reducible apply cellS) | ((with_reducible refine cellO ?_ ?_); focus (first | (intro hh; simp at hh; done) | (intro hh; simp at hh; omega))) | (with_reducible apply cellN) | (with_reducible apply keptA) | (with_reducible apply isS) | (with_reducible apply isN) | (with_reducible apply isA) | (with_reducible apply isOf; with_reducible assumption)))
  all_goals have r3 : W'.cell? ⟨w.heap.size + 1 + 1 + 1, 0, none⟩ = some (.int .i64 lw) := by rw [← hW]; (repeat' (first | (with_reducible assumption) | (with_reducible apply cellS) | ((with_reducible refine cellO ?_ ?_); focus (first | (intro hh; simp at hh; done) | (intro hh; simp at hh; omega))) | (with_reducible apply cellN) | (with_reducible apply keptA) | (with_reducible apply isS) | (with_reducible apply isN) | (with_reducible apply isA) | (with_reducible apply isOf; with_reducible assumption)))
  all_goals have r4 : W'.cell? ⟨w.heap.size + 1 + 1 + 1, 1, none⟩ = some (.int .u32 lt) := by rw [← hW]; (repeat' (first | (with_reducible assumption) | (with_reducible apply cellS) | ((with_reducible refine cellO ?_ ?_); focus (first | (intro hh; simp at hh; done) | (intro hh; simp at hh; omega))) | (with_reducible apply cellN) | (with_reducible apply keptA) | (with_reducible apply isS) | (with_reducible apply isN) | (with_reducible apply isA) | (with_reducible apply isOf; with_reducible assumption)))
  all_goals have r5 : W'.cell? ⟨w.heap.size + 1 + 1 + 1, 2, none⟩ = some (.int .u32 0) := by rw [← hW]; (repeat' (first | (with_reducible assumption) | (with_reducible apply cellS) | ((with_reducible refine cellO ?_ ?_); focus (first | (intro hh; simp at hh; done) | (intro hh; simp at hh; omega))) | (with_reducible apply cellN) | (with_reducible apply keptA) | (with_reducible apply isS) | (with_reducible apply isN) | (with_reducible apply isA) | (with_reducible apply isOf; with_reducible assumption)))
  all_goals have r6 : W'.cell? ⟨w.heap.size + 1 + 1 + 1, 3, none⟩ = some (.int .i64 off) := by rw [← hW]; (repeat' (first | (with_reducible assumption) | (with_reducible apply cellS) | ((with_reducible refine cellO ?_ ?_); focus (first | (intro hh; simp at hh; done) | (intro hh; simp at hh; omega))) | (with_reducible apply cellN) | (with_reducible apply keptA) | (with_reducible apply isS) | (with_reducible apply isN) | (with_reducible apply isA) | (with_reducible apply isOf; with_reducible assumption)))
  all_goals have r7 : W'.cell? ⟨w.heap.size + 1 + 1 + 1, 4, none⟩ = some (.int .i64 up) := by rw [← hW]; (repeat' (first | (with_reducible assumption) | (with_reducible apply cellS) | ((with_reducible refine cellO ?_ ?_); focus (first | (intro hh; simp at hh; done) | (intro hh; simp at hh; omega))) | (with_reducible apply cellN) | (with_reducible apply keptA) | (with_reducible apply isS) | (with_reducible apply isN) | (with_reducible apply isA) | (with_reducible apply isOf; with_reducible assumption)))
  all_goals have r8 : W'.cell? ⟨w.heap.size + 1 + 1 + 1, 5, none⟩ = some (.int .u32 mk) := by rw [← hW]; (repeat' (first | (with_reducible assumption) | (with_reducible apply cellS) | ((with_reducible refine cellO ?_ ?_); focus (first | (intro hh; simp at hh; done) | (intro hh; simp at hh; omega))) | (with_reducible apply cellN) | (with_reducible apply keptA) | (with_reducible apply isS) | (with_reducible apply isN) | (with_reducible apply isA) | (with_reducible apply isOf; with_reducible assumption)))
  all_goals have q0 : w.heap.size < W'.heap.size := by rw [← hW]; simp; omega
  all_goals have q1 : w.heap.size + 1 < W'.heap.size := by rw [← hW]; simp; omega
  all_goals have q2 : w.heap.size + 1 + 1 < W'.heap.size := by rw [← hW]; simp; omega
  all_goals have q3 : w.heap.size + 1 + 1 + 1 < W'.heap.size := by rw [← hW]; simp; omega
  all_goals have rB : Below w.heap.size w W' := by rw [← hW]; go_grown
  all_goals clear hW
  all_goals go_wp2
  all_goals exact bodyPost_ret (v := .tuple #[.agg #[.int .i64 0, .int .u32 0, .int .u32 0], .int .i64 21, .agg #[.int .i64 lw, .int .u32 lt, .int .u32 0, .int .i64 off, .int .i64 up, .int .u32 mk]]) (by simp [results, Try.results28, go_sem, r0, r1, r2, r3, r4, r5, r6, r7, r8, q0, q1, q2, q3]) rfl ⟨rfl, by go_grown⟩

theorem uo_right {lw lt iw it im : Int} (l0 : 0 ≤ lw) (l1 : lw ≤ 4611686018427387904) (i0 : 0 ≤ iw) (i1 : iw ≤ 4611686018427387904) : 0 ≤ (uoW lw lt iw it im) ∧ (uoW lw lt iw it im) ≤ 4611686018427387904 := by
  unfold uoW; split <;> exact ⟨by assumption, by assumption⟩

set_option maxRecDepth 100000 in
set_option maxHeartbeats 4000000 in
theorem rupd_any (off up mk lw lt ph iw it im : Int) (ht0 : 0 ≤ lt) (ht1 : lt ≤ 4294967295) (hw0 : 0 ≤ lw) (hw1 : lw ≤ 4611686018427387904) (i0 : 0 ≤ it) (i1 : it ≤ 4294967295) (w : World) (hr : rightB ph = true) (hri : rightB iw = true) (hf : iw - ph ≤ off) :
    Calls Try.prog 28 #[.agg #[.int .i64 lw, .int .u32 lt, .int .u32 0, .int .i64 off, .int .i64 up, .int .u32 mk], .int .i64 ph, .agg #[.int .i64 iw, .int .u32 it, .int .u32 im]] w fun e w' => e = .returned (.tuple #[.agg #[.int .i64 (gvA up ph (uoW lw lt iw it im) (uoT lw lt iw it im)), .int .u32 (gvB up ph (uoW lw lt iw it im) (uoT lw lt iw it im)), .int .u32 (gvM up mk ph (uoW lw lt iw it im) (uoT lw lt iw it im))], .int .i64 (gvE up ph (uoW lw lt iw it im) (uoT lw lt iw it im)), .agg #[.int .i64 (gvW up ph (uoW lw lt iw it im) (uoT lw lt iw it im) lw), .int .u32 (gvT up ph (uoW lw lt iw it im) (uoT lw lt iw it im) lt), .int .u32 0, .int .i64 off, .int .i64 up, .int .u32 mk]]) ∧ Below w.heap.size w w' := by
  have h' : 0 ≤ ph ∧ ph ≤ 4611686018427387904 := by simpa [rightB] using hr
  obtain ⟨h0, h1⟩ := h'
  clear hr
  have h' : 0 ≤ iw ∧ iw ≤ 4611686018427387904 := by simpa [rightB] using hri
  obtain ⟨g0, g1⟩ := h'
  have HU := Lib.hid (show 0 ≤ uoT lw lt iw it im ∧ uoT lw lt iw it im ≤ 4294967295 ∧ 0 ≤ uoW lw lt iw it im ∧ uoW lw lt iw it im ≤ 4611686018427387904 from ⟨(uo_bd ht0 ht1 i0 i1).1, (uo_bd ht0 ht1 i0 i1).2, (uo_right hw0 hw1 g0 g1).1, (uo_right hw0 hw1 g0 g1).2⟩)
  by_cases hlt : ph < iw
  · skip
    go_enter Try.func28, Try.ntmps28
    go_wp2_with fail
    refine (rright_any iw it im _).mono ?_
    rintro e w1 ⟨rfl, lb1⟩
    have lz1 := lb1.size
    (try simp at lz1)
    have lB1 : Below w.heap.size w w1 := via lb1 (by go_grown) (by go_size)
    have m1_0 : w1.cell? ⟨w.heap.size, 0, none⟩ = some (.int .i64 lw) := kept lb1 (by repeat' (first | (with_reducible assumption) | (simp; done) | (simp [go_sem]; done) | with_reducible apply keptD | with_reducible apply keptA))
    have m1_1 : w1.cell? ⟨w.heap.size, 1, none⟩ = some (.int .u32 lt) := kept lb1 (by repeat' (first | (with_reducible assumption) | (simp; done) | (simp [go_sem]; done) | with_reducible apply keptD | with_reducible apply keptA))
    have m1_2 : w1.cell? ⟨w.heap.size, 2, none⟩ = some (.int .u32 0) := kept lb1 (by repeat' (first | (with_reducible assumption) | (simp; done) | (simp [go_sem]; done) | with_reducible apply keptD | with_reducible apply keptA))
    have m1_3 : w1.cell? ⟨w.heap.size, 3, none⟩ = some (.int .i64 off) := kept lb1 (by repeat' (first | (with_reducible assumption) | (simp; done) | (simp [go_sem]; done) | with_reducible apply keptD | with_reducible apply keptA))
    have m1_4 : w1.cell? ⟨w.heap.size, 4, none⟩ = some (.int .i64 up) := kept lb1 (by repeat' (first | (with_reducible assumption) | (simp; done) | (simp [go_sem]; done) | with_reducible apply keptD | with_reducible apply keptA))
    have m1_5 : w1.cell? ⟨w.heap.size, 5, none⟩ = some (.int .u32 mk) := kept lb1 (by repeat' (first | (with_reducible assumption) | (simp; done) | (simp [go_sem]; done) | with_reducible apply keptD | with_reducible apply keptA))
    have m1_6 : w1.cell? ⟨w.heap.size + 1, 0, none⟩ = some (.int .i64 iw) := kept lb1 (by repeat' (first | (with_reducible assumption) | (simp; done) | (simp [go_sem]; done) | with_reducible apply keptD | with_reducible apply keptA))
    have m1_7 : w1.cell? ⟨w.heap.size + 1, 1, none⟩ = some (.int .u32 it) := kept lb1 (by repeat' (first | (with_reducible assumption) | (simp; done) | (simp [go_sem]; done) | with_reducible apply keptD | with_reducible apply keptA))
    have m1_8 : w1.cell? ⟨w.heap.size + 1, 2, none⟩ = some (.int .u32 im) := kept lb1 (by repeat' (first | (with_reducible assumption) | (simp; done) | (simp [go_sem]; done) | with_reducible apply keptD | with_reducible apply keptA))
    have m1_9 : w1.cell? ⟨w.heap.size + 1 + 1, 0, none⟩ = some (.int .i64 0) := kept lb1 (by repeat' (first | (with_reducible assumption) | (simp; done) | (simp [go_sem]; done) | with_reducible apply keptD | with_reducible apply keptA))
    have m1_10 : w1.cell? ⟨w.heap.size + 1 + 1, 1, none⟩ = some (.int .u32 0) := kept lb1 (by repeat' (first | (with_reducible assumption) | (simp; done) | (simp [go_sem]; done) | with_reducible apply keptD | with_reducible apply keptA))
    have m1_11 : w1.cell? ⟨w.heap.size + 1 + 1, 2, none⟩ = some (.int .u32 0) := kept lb1 (by repeat' (first | (with_reducible assumption) | (simp; done) | (simp [go_sem]; done) | with_reducible apply keptD | with_reducible apply keptA))
    have m1_12 : w1.cell? ⟨w.heap.size + 1 + 1 + 1, 0, none⟩ = some (.int .i64 0) := kept lb1 (by repeat' (first | (with_reducible assumption) | (simp; done) | (simp [go_sem]; done) | with_reducible apply keptD | with_reducible apply keptA))
    have m1_13 : w1.cell? ⟨w.heap.size + 1 + 1 + 1, 1, none⟩ = some (.int .u32 0) := kept lb1 (by repeat' (first | (with_reducible assumption) | (simp; done) | (simp [go_sem]; done) | with_reducible apply keptD | with_reducible apply keptA))
    have m1_14 : w1.cell? ⟨w.heap.size + 1 + 1 + 1, 2, none⟩ = some (.int .u32 0) := kept lb1 (by repeat' (first | (with_reducible assumption) | (simp; done) | (simp [go_sem]; done) | with_reducible apply keptD | with_reducible apply keptA))
    have m1_15 : w1.cell? ⟨w.heap.size + 1 + 1 + 1, 3, none⟩ = some (.int .i64 0) := kept lb1 (by repeat' (first | (with_reducible assumption) | (simp; done) | (simp [go_sem]; done) | with_reducible apply keptD | with_reducible apply keptA))
    have m1_16 : w1.cell? ⟨w.heap.size + 1 + 1 + 1, 4, none⟩ = some (.int .i64 0) := kept lb1 (by repeat' (first | (with_reducible assumption) | (simp; done) | (simp [go_sem]; done) | with_reducible apply keptD | with_reducible apply keptA))
    have m1_17 : w1.cell? ⟨w.heap.size + 1 + 1 + 1, 5, none⟩ = some (.int .u32 0) := kept lb1 (by repeat' (first | (with_reducible assumption) | (simp; done) | (simp [go_sem]; done) | with_reducible apply keptD | with_reducible apply keptA))
    have s1_0 : w.heap.size < w1.heap.size := by omega
    have s1_1 : w.heap.size + 1 < w1.heap.size := by omega
    have s1_2 : w.heap.size + 1 + 1 < w1.heap.size := by omega
    have s1_3 : w.heap.size + 1 + 1 + 1 < w1.heap.size := by omega
    have z1_0 : w1.frozen? ⟨w.heap.size + 1 + 1, 0, none⟩ = false := keptF lb1 (by first | (simp; done) | (simp; omega)) (by first | (simp; done) | (simp [go_sem]; done))
    have z1_1 : w1.frozen? ⟨w.heap.size + 1 + 1, 1, none⟩ = false := keptF lb1 (by first | (simp; done) | (simp; omega)) (by first | (simp; done) | (simp [go_sem]; done))
    have z1_2 : w1.frozen? ⟨w.heap.size + 1 + 1, 2, none⟩ = false := keptF lb1 (by first | (simp; done) | (simp; omega)) (by first | (simp; done) | (simp [go_sem]; done))
    have z1_3 : w1.frozen? ⟨w.heap.size + 1 + 1 + 1, 0, none⟩ = false := keptF lb1 (by first | (simp; done) | (simp; omega)) (by first | (simp; done) | (simp [go_sem]; done))
    have z1_4 : w1.frozen? ⟨w.heap.size + 1 + 1 + 1, 1, none⟩ = false := keptF lb1 (by first | (simp; done) | (simp; omega)) (by first | (simp; done) | (simp [go_sem]; done))
    have z1_5 : w1.frozen? ⟨w.heap.size + 1 + 1 + 1, 2, none⟩ = false := keptF lb1 (by first | (simp; done) | (simp; omega)) (by first | (simp; done) | (simp [go_sem]; done))
    have z1_6 : w1.frozen? ⟨w.heap.size + 1 + 1 + 1, 3, none⟩ = false := keptF lb1 (by first | (simp; done) | (simp; omega)) (by first | (simp; done) | (simp [go_sem]; done))
    have z1_7 : w1.frozen? ⟨w.heap.size + 1 + 1 + 1, 4, none⟩ = false := keptF lb1 (by first | (simp; done) | (simp; omega)) (by first | (simp; done) | (simp [go_sem]; done))
    have z1_8 : w1.frozen? ⟨w.heap.size + 1 + 1 + 1, 5, none⟩ = false := keptF lb1 (by first | (simp; done) | (simp; omega)) (by first | (simp; done) | (simp [go_sem]; done))
    have hf2 : Free w1 (w.heap.size + 1 + 1) := fun j => keptF lb1 (by first | (simp; done) | (simp; omega)) (by first | (simp; done) | (simp [go_sem]; done))
    have hf3 : Free w1 (w.heap.size + 1 + 1 + 1) := fun j => keptF lb1 (by first | (simp; done) | (simp; omega)) (by first | (simp; done) | (simp [go_sem]; done))
    have HF2 := Lib.hid hf2
    have HF3 := Lib.hid hf3
    clear hf2 hf3 lb1
    go_wp2_with fail
    apply region_phase (fun p w' => match p with | 0 => Ck6 w' (w.heap.size) lw lt off up mk ∧ St3 w' (w.heap.size + 1) iw it im ∧ St3 w' (w.heap.size + 1 + 1) 0 0 0 ∧ Ck6 w' (w.heap.size + 1 + 1 + 1) 0 0 0 0 0 ∧ Free w' (w.heap.size + 1 + 1) ∧ Free w' (w.heap.size + 1 + 1 + 1) ∧ Below w.heap.size w w' | 1 => St3 w' (w.heap.size + 1 + 1) (gvA up ph (uoW lw lt iw it im) (uoT lw lt iw it im)) (gvB up ph (uoW lw lt iw it im) (uoT lw lt iw it im)) (gvM up mk ph (uoW lw lt iw it im) (uoT lw lt iw it im)) ∧ Ck6 w' (w.heap.size + 1 + 1 + 1) 0 0 0 0 0 ∧ Free w' (w.heap.size + 1 + 1 + 1) ∧ Below w.heap.size w w' | _ => St3 w' (w.heap.size + 1 + 1) (gvA up ph (uoW lw lt iw it im) (uoT lw lt iw it im)) (gvB up ph (uoW lw lt iw it im) (uoT lw lt iw it im)) (gvM up mk ph (uoW lw lt iw it im) (uoT lw lt iw it im)) ∧ Ck6 w' (w.heap.size + 1 + 1 + 1) (gvW up ph (uoW lw lt iw it im) (uoT lw lt iw it im) lw) (gvT up ph (uoW lw lt iw it im) (uoT lw lt iw it im) lt) off up mk ∧ Below w.heap.size w w') [10, 12] [some 0, none, none, some 0, some 0, some 0, some 0, none, none, none, some 0, none, some 1] [.agg #[.int .i64 lw, .int .u32 lt, .int .u32 0, .int .i64 off, .int .i64 up, .int .u32 mk], .int .i64 ph, .pointer (some ⟨w.heap.size, 0, none⟩), .agg #[.int .i64 lw, .int .u32 lt, .int .u32 0], .agg #[.int .i64 iw, .int .u32 it, .int .u32 im], .agg #[.int .i64 (uoW lw lt iw it im), .int .u32 (uoT lw lt iw it im), .int .u32 (uoM lw lt iw it im)], .tuple #[.agg #[.int .i64 (gvA up ph (uoW lw lt iw it im) (uoT lw lt iw it im)), .int .u32 (gvB up ph (uoW lw lt iw it im) (uoT lw lt iw it im)), .int .u32 (gvM up mk ph (uoW lw lt iw it im) (uoT lw lt iw it im))], .int .i64 (gvE up ph (uoW lw lt iw it im) (uoT lw lt iw it im)), .agg #[.int .i64 (gvW up ph (uoW lw lt iw it im) (uoT lw lt iw it im) lw), .int .u32 (gvT up ph (uoW lw lt iw it im) (uoT lw lt iw it im) lt), .int .u32 0, .int .i64 off, .int .i64 up, .int .u32 mk]], .agg #[.int .i64 (gvA up ph (uoW lw lt iw it im) (uoT lw lt iw it im)), .int .u32 (gvB up ph (uoW lw lt iw it im) (uoT lw lt iw it im)), .int .u32 (gvM up mk ph (uoW lw lt iw it im) (uoT lw lt iw it im))], .int .i64 (gvE up ph (uoW lw lt iw it im) (uoT lw lt iw it im)), .agg #[.int .i64 (gvW up ph (uoW lw lt iw it im) (uoT lw lt iw it im) lw), .int .u32 (gvT up ph (uoW lw lt iw it im) (uoT lw lt iw it im) lt), .int .u32 0, .int .i64 off, .int .i64 up, .int .u32 mk], undef, .int .i64 (gvE up ph (uoW lw lt iw it im) (uoT lw lt iw it im)), undef]
    case hm => kernel_rfl
    case hf => kernel_rfl
    case hp => kernel_rfl
    case hQ => exact (by intro c x y w e h; exact And.intro (e.symm.trans (And.left h)) (And.right h))
    case hF => simp only [putAll, Act.put, List.setIfInBounds_toArray, List.set_cons_zero, List.set_cons_succ, Nat.reduceAdd, List.getD_cons_zero, List.getD_cons_succ]; rfl
    case h0 =>
      exact ⟨⟨m1_0, m1_1, m1_2, m1_3, m1_4, m1_5⟩, ⟨m1_6, m1_7, m1_8⟩, ⟨m1_9, m1_10, m1_11⟩, ⟨m1_12, m1_13, m1_14, m1_15, m1_16, m1_17⟩, HF2.out, HF3.out, lB1.drew⟩
    case hstep =>
      repeat' (first | exact AllOps.nil | apply AllOps.cons)
      · intro wx hS K hK
        replace hK : ∀ (v : Value) (w' : World), v = .agg #[.int .i64 lw, .int .u32 lt, .int .u32 0, .int .i64 off, .int .i64 up, .int .u32 mk] → (Ck6 w' (w.heap.size) lw lt off up mk ∧ St3 w' (w.heap.size + 1) iw it im ∧ St3 w' (w.heap.size + 1 + 1) 0 0 0 ∧ Ck6 w' (w.heap.size + 1 + 1 + 1) 0 0 0 0 0 ∧ Free w' (w.heap.size + 1 + 1) ∧ Free w' (w.heap.size + 1 + 1 + 1) ∧ Below w.heap.size w w') → K _ w' := hK
        replace hS : Ck6 wx (w.heap.size) lw lt off up mk ∧ St3 wx (w.heap.size + 1) iw it im ∧ St3 wx (w.heap.size + 1 + 1) 0 0 0 ∧ Ck6 wx (w.heap.size + 1 + 1 + 1) 0 0 0 0 0 ∧ Free wx (w.heap.size + 1 + 1) ∧ Free wx (w.heap.size + 1 + 1 + 1) ∧ Below w.heap.size w wx := hS
        simp only [Act.put, List.setIfInBounds_toArray, List.set_cons_zero, List.set_cons_succ, Nat.reduceAdd, List.getD_cons_zero, List.getD_cons_succ] at hK ⊢
        have HK := Lib.hid hK
        have HS := Lib.hid hS
        clear hK
        obtain ⟨⟨a0, a1, a2, a3, a4, a5⟩, ⟨b0, b1, b2⟩, ⟨c0, c1, c2⟩, ⟨d0, d1, d2, d3, d4, d5⟩, fc, fd, hB⟩ := hS
        go_simp
        exact HK.out _ _ rfl HS.out
      · intro wx hS K hK
        replace hK : ∀ (v : Value) (w' : World), v = .int .i64 ph → w' = wx → K _ w' := hK
        simp only [Act.put, List.setIfInBounds_toArray, List.set_cons_zero, List.set_cons_succ, Nat.reduceAdd, List.getD_cons_zero, List.getD_cons_succ] at hK ⊢
        have HK := Lib.hid hK
        clear hK hS
        go_simp
        exact HK.out _ _ rfl rfl
      · intro wx hS K hK
        replace hK : ∀ (v : Value) (w' : World), v = .pointer (some ⟨w.heap.size, 0, none⟩) → w' = wx → K _ w' := hK
        simp only [Act.put, List.setIfInBounds_toArray, List.set_cons_zero, List.set_cons_succ, Nat.reduceAdd, List.getD_cons_zero, List.getD_cons_succ] at hK ⊢
        have HK := Lib.hid hK
        clear hK hS
        go_simp
        exact HK.out _ _ rfl rfl
      · intro wx hS K hK
        replace hK : ∀ (v : Value) (w' : World), v = .agg #[.int .i64 lw, .int .u32 lt, .int .u32 0] → (Ck6 w' (w.heap.size) lw lt off up mk ∧ St3 w' (w.heap.size + 1) iw it im ∧ St3 w' (w.heap.size + 1 + 1) 0 0 0 ∧ Ck6 w' (w.heap.size + 1 + 1 + 1) 0 0 0 0 0 ∧ Free w' (w.heap.size + 1 + 1) ∧ Free w' (w.heap.size + 1 + 1 + 1) ∧ Below w.heap.size w w') → K _ w' := hK
        replace hS : Ck6 wx (w.heap.size) lw lt off up mk ∧ St3 wx (w.heap.size + 1) iw it im ∧ St3 wx (w.heap.size + 1 + 1) 0 0 0 ∧ Ck6 wx (w.heap.size + 1 + 1 + 1) 0 0 0 0 0 ∧ Free wx (w.heap.size + 1 + 1) ∧ Free wx (w.heap.size + 1 + 1 + 1) ∧ Below w.heap.size w wx := hS
        simp only [Act.put, List.setIfInBounds_toArray, List.set_cons_zero, List.set_cons_succ, Nat.reduceAdd, List.getD_cons_zero, List.getD_cons_succ] at hK ⊢
        have HK := Lib.hid hK
        have HS := Lib.hid hS
        clear hK
        obtain ⟨⟨a0, a1, a2, a3, a4, a5⟩, ⟨b0, b1, b2⟩, ⟨c0, c1, c2⟩, ⟨d0, d1, d2, d3, d4, d5⟩, fc, fd, hB⟩ := hS
        go_simp
        exact HK.out _ _ rfl HS.out
      · intro wx hS K hK
        replace hK : ∀ (v : Value) (w' : World), v = .agg #[.int .i64 iw, .int .u32 it, .int .u32 im] → (Ck6 w' (w.heap.size) lw lt off up mk ∧ St3 w' (w.heap.size + 1) iw it im ∧ St3 w' (w.heap.size + 1 + 1) 0 0 0 ∧ Ck6 w' (w.heap.size + 1 + 1 + 1) 0 0 0 0 0 ∧ Free w' (w.heap.size + 1 + 1) ∧ Free w' (w.heap.size + 1 + 1 + 1) ∧ Below w.heap.size w w') → K _ w' := hK
        replace hS : Ck6 wx (w.heap.size) lw lt off up mk ∧ St3 wx (w.heap.size + 1) iw it im ∧ St3 wx (w.heap.size + 1 + 1) 0 0 0 ∧ Ck6 wx (w.heap.size + 1 + 1 + 1) 0 0 0 0 0 ∧ Free wx (w.heap.size + 1 + 1) ∧ Free wx (w.heap.size + 1 + 1 + 1) ∧ Below w.heap.size w wx := hS
        simp only [Act.put, List.setIfInBounds_toArray, List.set_cons_zero, List.set_cons_succ, Nat.reduceAdd, List.getD_cons_zero, List.getD_cons_succ] at hK ⊢
        have HK := Lib.hid hK
        have HS := Lib.hid hS
        clear hK
        obtain ⟨⟨a0, a1, a2, a3, a4, a5⟩, ⟨b0, b1, b2⟩, ⟨c0, c1, c2⟩, ⟨d0, d1, d2, d3, d4, d5⟩, fc, fd, hB⟩ := hS
        go_simp
        exact HK.out _ _ rfl HS.out
      · intro wx hS K hK
        replace hK : ∀ (v : Value) (w' : World), v = .agg #[.int .i64 (uoW lw lt iw it im), .int .u32 (uoT lw lt iw it im), .int .u32 (uoM lw lt iw it im)] → (Ck6 w' (w.heap.size) lw lt off up mk ∧ St3 w' (w.heap.size + 1) iw it im ∧ St3 w' (w.heap.size + 1 + 1) 0 0 0 ∧ Ck6 w' (w.heap.size + 1 + 1 + 1) 0 0 0 0 0 ∧ Free w' (w.heap.size + 1 + 1) ∧ Free w' (w.heap.size + 1 + 1 + 1) ∧ Below w.heap.size w w') → K _ w' := hK
        replace hS : Ck6 wx (w.heap.size) lw lt off up mk ∧ St3 wx (w.heap.size + 1) iw it im ∧ St3 wx (w.heap.size + 1 + 1) 0 0 0 ∧ Ck6 wx (w.heap.size + 1 + 1 + 1) 0 0 0 0 0 ∧ Free wx (w.heap.size + 1 + 1) ∧ Free wx (w.heap.size + 1 + 1 + 1) ∧ Below w.heap.size w wx := hS
        simp only [Act.put, List.setIfInBounds_toArray, List.set_cons_zero, List.set_cons_succ, Nat.reduceAdd, List.getD_cons_zero, List.getD_cons_succ] at hK ⊢
        have HK := Lib.hid hK
        have HS := Lib.hid hS
        clear hK
        go_simp
        go_at_call 39
        refine (most_any _ _ _ _ _ _).mono ?_
        rintro e w1 ⟨rfl, hb⟩
        refine HK.out _ _ rfl ?_
        obtain ⟨h0, h1, h2, h3, h4, h5, h6⟩ := HS.out
        exact ⟨h0.below hb, h1.below hb, h2.below hb, h3.below hb, h4.below h2.lt hb, h5.below h3.lt hb, via hb h6 h6.size⟩
      · intro wx hS K hK
        replace hK : ∀ (v : Value) (w' : World), v = .tuple #[.agg #[.int .i64 (gvA up ph (uoW lw lt iw it im) (uoT lw lt iw it im)), .int .u32 (gvB up ph (uoW lw lt iw it im) (uoT lw lt iw it im)), .int .u32 (gvM up mk ph (uoW lw lt iw it im) (uoT lw lt iw it im))], .int .i64 (gvE up ph (uoW lw lt iw it im) (uoT lw lt iw it im)), .agg #[.int .i64 (gvW up ph (uoW lw lt iw it im) (uoT lw lt iw it im) lw), .int .u32 (gvT up ph (uoW lw lt iw it im) (uoT lw lt iw it im) lt), .int .u32 0, .int .i64 off, .int .i64 up, .int .u32 mk]] → (Ck6 w' (w.heap.size) lw lt off up mk ∧ St3 w' (w.heap.size + 1) iw it im ∧ St3 w' (w.heap.size + 1 + 1) 0 0 0 ∧ Ck6 w' (w.heap.size + 1 + 1 + 1) 0 0 0 0 0 ∧ Free w' (w.heap.size + 1 + 1) ∧ Free w' (w.heap.size + 1 + 1 + 1) ∧ Below w.heap.size w w') → K _ w' := hK
        replace hS : Ck6 wx (w.heap.size) lw lt off up mk ∧ St3 wx (w.heap.size + 1) iw it im ∧ St3 wx (w.heap.size + 1 + 1) 0 0 0 ∧ Ck6 wx (w.heap.size + 1 + 1 + 1) 0 0 0 0 0 ∧ Free wx (w.heap.size + 1 + 1) ∧ Free wx (w.heap.size + 1 + 1 + 1) ∧ Below w.heap.size w wx := hS
        simp only [Act.put, List.setIfInBounds_toArray, List.set_cons_zero, List.set_cons_succ, Nat.reduceAdd, List.getD_cons_zero, List.getD_cons_succ] at hK ⊢
        have HK := Lib.hid hK
        have HS := Lib.hid hS
        clear hK
        go_simp
        go_at_call 38
        refine (rgive_any off up mk lw lt ph _ _ _ HU.out.1 HU.out.2.1 HU.out.2.2.1 HU.out.2.2.2 _).mono ?_
        rintro e w1 ⟨rfl, hb⟩
        refine HK.out _ _ rfl ?_
        obtain ⟨h0, h1, h2, h3, h4, h5, h6⟩ := HS.out
        exact ⟨h0.below hb, h1.below hb, h2.below hb, h3.below hb, h4.below h2.lt hb, h5.below h3.lt hb, via hb h6 h6.size⟩
      · intro wx hS K hK
        replace hK : ∀ (v : Value) (w' : World), v = .agg #[.int .i64 (gvA up ph (uoW lw lt iw it im) (uoT lw lt iw it im)), .int .u32 (gvB up ph (uoW lw lt iw it im) (uoT lw lt iw it im)), .int .u32 (gvM up mk ph (uoW lw lt iw it im) (uoT lw lt iw it im))] → w' = wx → K _ w' := hK
        simp only [Act.put, List.setIfInBounds_toArray, List.set_cons_zero, List.set_cons_succ, Nat.reduceAdd, List.getD_cons_zero, List.getD_cons_succ] at hK ⊢
        have HK := Lib.hid hK
        clear hK hS
        go_simp
        exact HK.out _ _ rfl rfl
      · intro wx hS K hK
        replace hK : ∀ (v : Value) (w' : World), v = .int .i64 (gvE up ph (uoW lw lt iw it im) (uoT lw lt iw it im)) → w' = wx → K _ w' := hK
        simp only [Act.put, List.setIfInBounds_toArray, List.set_cons_zero, List.set_cons_succ, Nat.reduceAdd, List.getD_cons_zero, List.getD_cons_succ] at hK ⊢
        have HK := Lib.hid hK
        clear hK hS
        go_simp
        exact HK.out _ _ rfl rfl
      · intro wx hS K hK
        replace hK : ∀ (v : Value) (w' : World), v = .agg #[.int .i64 (gvW up ph (uoW lw lt iw it im) (uoT lw lt iw it im) lw), .int .u32 (gvT up ph (uoW lw lt iw it im) (uoT lw lt iw it im) lt), .int .u32 0, .int .i64 off, .int .i64 up, .int .u32 mk] → w' = wx → K _ w' := hK
        simp only [Act.put, List.setIfInBounds_toArray, List.set_cons_zero, List.set_cons_succ, Nat.reduceAdd, List.getD_cons_zero, List.getD_cons_succ] at hK ⊢
        have HK := Lib.hid hK
        clear hK hS
        go_simp
        exact HK.out _ _ rfl rfl
      · intro wx hS K hK
        replace hK : ∀ (v : Value) (w' : World), v = undef → (St3 w' (w.heap.size + 1 + 1) (gvA up ph (uoW lw lt iw it im) (uoT lw lt iw it im)) (gvB up ph (uoW lw lt iw it im) (uoT lw lt iw it im)) (gvM up mk ph (uoW lw lt iw it im) (uoT lw lt iw it im)) ∧ Ck6 w' (w.heap.size + 1 + 1 + 1) 0 0 0 0 0 ∧ Free w' (w.heap.size + 1 + 1 + 1) ∧ Below w.heap.size w w') → K _ w' := hK
        replace hS : Ck6 wx (w.heap.size) lw lt off up mk ∧ St3 wx (w.heap.size + 1) iw it im ∧ St3 wx (w.heap.size + 1 + 1) 0 0 0 ∧ Ck6 wx (w.heap.size + 1 + 1 + 1) 0 0 0 0 0 ∧ Free wx (w.heap.size + 1 + 1) ∧ Free wx (w.heap.size + 1 + 1 + 1) ∧ Below w.heap.size w wx := hS
        simp only [Act.put, List.setIfInBounds_toArray, List.set_cons_zero, List.set_cons_succ, Nat.reduceAdd, List.getD_cons_zero, List.getD_cons_succ] at hK ⊢
        have HK := Lib.hid hK
        have HS := Lib.hid hS
        clear hK
        obtain ⟨⟨a0, a1, a2, a3, a4, a5⟩, ⟨b0, b1, b2⟩, ⟨c0, c1, c2⟩, ⟨d0, d1, d2, d3, d4, d5⟩, fc, fd, hB⟩ := hS
        have f0 := fc 0
        have f1 := fc 1
        have f2 := fc 2
        go_simp
        refine HK.out _ (set3 wx (w.heap.size + 1 + 1) (.int .i64 (gvA up ph (uoW lw lt iw it im) (uoT lw lt iw it im))) (.int .u32 (gvB up ph (uoW lw lt iw it im) (uoT lw lt iw it im))) (.int .u32 (gvM up mk ph (uoW lw lt iw it im) (uoT lw lt iw it im)))) rfl ?_
        obtain ⟨h0, h1, h2, h3, h4, h5, h6⟩ := HS.out
        exact ⟨h2.put, h3.s3 (by omega), h5.s3, set3_below h6 (by omega)⟩
      · intro wx hS K hK
        replace hK : ∀ (v : Value) (w' : World), v = .int .i64 (gvE up ph (uoW lw lt iw it im) (uoT lw lt iw it im)) → w' = wx → K _ w' := hK
        simp only [Act.put, List.setIfInBounds_toArray, List.set_cons_zero, List.set_cons_succ, Nat.reduceAdd, List.getD_cons_zero, List.getD_cons_succ] at hK ⊢
        have HK := Lib.hid hK
        clear hK hS
        go_simp
        exact HK.out _ _ rfl rfl
      · intro wx hS K hK
        replace hK : ∀ (v : Value) (w' : World), v = undef → (St3 w' (w.heap.size + 1 + 1) (gvA up ph (uoW lw lt iw it im) (uoT lw lt iw it im)) (gvB up ph (uoW lw lt iw it im) (uoT lw lt iw it im)) (gvM up mk ph (uoW lw lt iw it im) (uoT lw lt iw it im)) ∧ Ck6 w' (w.heap.size + 1 + 1 + 1) (gvW up ph (uoW lw lt iw it im) (uoT lw lt iw it im) lw) (gvT up ph (uoW lw lt iw it im) (uoT lw lt iw it im) lt) off up mk ∧ Below w.heap.size w w') → K _ w' := hK
        replace hS : St3 wx (w.heap.size + 1 + 1) (gvA up ph (uoW lw lt iw it im) (uoT lw lt iw it im)) (gvB up ph (uoW lw lt iw it im) (uoT lw lt iw it im)) (gvM up mk ph (uoW lw lt iw it im) (uoT lw lt iw it im)) ∧ Ck6 wx (w.heap.size + 1 + 1 + 1) 0 0 0 0 0 ∧ Free wx (w.heap.size + 1 + 1 + 1) ∧ Below w.heap.size w wx := hS
        simp only [Act.put, List.setIfInBounds_toArray, List.set_cons_zero, List.set_cons_succ, Nat.reduceAdd, List.getD_cons_zero, List.getD_cons_succ] at hK ⊢
        have HK := Lib.hid hK
        have HS := Lib.hid hS
        clear hK
        obtain ⟨hR, ⟨d0, d1, d2, d3, d4, d5⟩, fd, hB⟩ := hS
        have f0 := fd 0
        have f1 := fd 1
        have f2 := fd 2
        have f3 := fd 3
        have f4 := fd 4
        have f5 := fd 5
        go_simp
        refine HK.out _ (set6 wx (w.heap.size + 1 + 1 + 1) (gvW up ph (uoW lw lt iw it im) (uoT lw lt iw it im) lw) (gvT up ph (uoW lw lt iw it im) (uoT lw lt iw it im) lt) off up mk) rfl ?_
        obtain ⟨h0, h1, h2, h3⟩ := HS.out
        exact ⟨h0.s6 (by omega), h1.put, set6_below h3 (by omega)⟩
    case hend =>
      intro wy hS
      replace hS : St3 wy (w.heap.size + 1 + 1) (gvA up ph (uoW lw lt iw it im) (uoT lw lt iw it im)) (gvB up ph (uoW lw lt iw it im) (uoT lw lt iw it im)) (gvM up mk ph (uoW lw lt iw it im) (uoT lw lt iw it im)) ∧ Ck6 wy (w.heap.size + 1 + 1 + 1) (gvW up ph (uoW lw lt iw it im) (uoT lw lt iw it im) lw) (gvT up ph (uoW lw lt iw it im) (uoT lw lt iw it im) lt) off up mk ∧ Below w.heap.size w wy := hS
      obtain ⟨⟨r0, r1, r2⟩, ⟨d0, d1, d2, d3, d4, d5⟩, hB⟩ := hS
      go_wp2
      exact bodyPost_ret (v := .tuple #[.agg #[.int .i64 (gvA up ph (uoW lw lt iw it im) (uoT lw lt iw it im)), .int .u32 (gvB up ph (uoW lw lt iw it im) (uoT lw lt iw it im)), .int .u32 (gvM up mk ph (uoW lw lt iw it im) (uoT lw lt iw it im))], .int .i64 (gvE up ph (uoW lw lt iw it im) (uoT lw lt iw it im)), .agg #[.int .i64 (gvW up ph (uoW lw lt iw it im) (uoT lw lt iw it im) lw), .int .u32 (gvT up ph (uoW lw lt iw it im) (uoT lw lt iw it im) lt), .int .u32 0, .int .i64 off, .int .i64 up, .int .u32 mk]]) (by simp [results, Try.results28, go_sem, r0, r1, r2, d0, d1, d2, d3, d4, d5]) rfl ⟨rfl, hB⟩
  · skip
    go_enter Try.func28, Try.ntmps28
    go_wp2_with fail
    refine (rright_any iw it im _).mono ?_
    rintro e w1 ⟨rfl, lb1⟩
    have lz1 := lb1.size
    (try simp at lz1)
    have lB1 : Below w.heap.size w w1 := via lb1 (by go_grown) (by go_size)
    have m1_0 : w1.cell? ⟨w.heap.size, 0, none⟩ = some (.int .i64 lw) := kept lb1 (by repeat' (first | (with_reducible assumption) | (simp; done) | (simp [go_sem]; done) | with_reducible apply keptD | with_reducible apply keptA))
    have m1_1 : w1.cell? ⟨w.heap.size, 1, none⟩ = some (.int .u32 lt) := kept lb1 (by repeat' (first | (with_reducible assumption) | (simp; done) | (simp [go_sem]; done) | with_reducible apply keptD | with_reducible apply keptA))
    have m1_2 : w1.cell? ⟨w.heap.size, 2, none⟩ = some (.int .u32 0) := kept lb1 (by repeat' (first | (with_reducible assumption) | (simp; done) | (simp [go_sem]; done) | with_reducible apply keptD | with_reducible apply keptA))
    have m1_3 : w1.cell? ⟨w.heap.size, 3, none⟩ = some (.int .i64 off) := kept lb1 (by repeat' (first | (with_reducible assumption) | (simp; done) | (simp [go_sem]; done) | with_reducible apply keptD | with_reducible apply keptA))
    have m1_4 : w1.cell? ⟨w.heap.size, 4, none⟩ = some (.int .i64 up) := kept lb1 (by repeat' (first | (with_reducible assumption) | (simp; done) | (simp [go_sem]; done) | with_reducible apply keptD | with_reducible apply keptA))
    have m1_5 : w1.cell? ⟨w.heap.size, 5, none⟩ = some (.int .u32 mk) := kept lb1 (by repeat' (first | (with_reducible assumption) | (simp; done) | (simp [go_sem]; done) | with_reducible apply keptD | with_reducible apply keptA))
    have m1_6 : w1.cell? ⟨w.heap.size + 1, 0, none⟩ = some (.int .i64 iw) := kept lb1 (by repeat' (first | (with_reducible assumption) | (simp; done) | (simp [go_sem]; done) | with_reducible apply keptD | with_reducible apply keptA))
    have m1_7 : w1.cell? ⟨w.heap.size + 1, 1, none⟩ = some (.int .u32 it) := kept lb1 (by repeat' (first | (with_reducible assumption) | (simp; done) | (simp [go_sem]; done) | with_reducible apply keptD | with_reducible apply keptA))
    have m1_8 : w1.cell? ⟨w.heap.size + 1, 2, none⟩ = some (.int .u32 im) := kept lb1 (by repeat' (first | (with_reducible assumption) | (simp; done) | (simp [go_sem]; done) | with_reducible apply keptD | with_reducible apply keptA))
    have m1_9 : w1.cell? ⟨w.heap.size + 1 + 1, 0, none⟩ = some (.int .i64 0) := kept lb1 (by repeat' (first | (with_reducible assumption) | (simp; done) | (simp [go_sem]; done) | with_reducible apply keptD | with_reducible apply keptA))
    have m1_10 : w1.cell? ⟨w.heap.size + 1 + 1, 1, none⟩ = some (.int .u32 0) := kept lb1 (by repeat' (first | (with_reducible assumption) | (simp; done) | (simp [go_sem]; done) | with_reducible apply keptD | with_reducible apply keptA))
    have m1_11 : w1.cell? ⟨w.heap.size + 1 + 1, 2, none⟩ = some (.int .u32 0) := kept lb1 (by repeat' (first | (with_reducible assumption) | (simp; done) | (simp [go_sem]; done) | with_reducible apply keptD | with_reducible apply keptA))
    have m1_12 : w1.cell? ⟨w.heap.size + 1 + 1 + 1, 0, none⟩ = some (.int .i64 0) := kept lb1 (by repeat' (first | (with_reducible assumption) | (simp; done) | (simp [go_sem]; done) | with_reducible apply keptD | with_reducible apply keptA))
    have m1_13 : w1.cell? ⟨w.heap.size + 1 + 1 + 1, 1, none⟩ = some (.int .u32 0) := kept lb1 (by repeat' (first | (with_reducible assumption) | (simp; done) | (simp [go_sem]; done) | with_reducible apply keptD | with_reducible apply keptA))
    have m1_14 : w1.cell? ⟨w.heap.size + 1 + 1 + 1, 2, none⟩ = some (.int .u32 0) := kept lb1 (by repeat' (first | (with_reducible assumption) | (simp; done) | (simp [go_sem]; done) | with_reducible apply keptD | with_reducible apply keptA))
    have m1_15 : w1.cell? ⟨w.heap.size + 1 + 1 + 1, 3, none⟩ = some (.int .i64 0) := kept lb1 (by repeat' (first | (with_reducible assumption) | (simp; done) | (simp [go_sem]; done) | with_reducible apply keptD | with_reducible apply keptA))
    have m1_16 : w1.cell? ⟨w.heap.size + 1 + 1 + 1, 4, none⟩ = some (.int .i64 0) := kept lb1 (by repeat' (first | (with_reducible assumption) | (simp; done) | (simp [go_sem]; done) | with_reducible apply keptD | with_reducible apply keptA))
    have m1_17 : w1.cell? ⟨w.heap.size + 1 + 1 + 1, 5, none⟩ = some (.int .u32 0) := kept lb1 (by repeat' (first | (with_reducible assumption) | (simp; done) | (simp [go_sem]; done) | with_reducible apply keptD | with_reducible apply keptA))
    have s1_0 : w.heap.size < w1.heap.size := by omega
    have s1_1 : w.heap.size + 1 < w1.heap.size := by omega
    have s1_2 : w.heap.size + 1 + 1 < w1.heap.size := by omega
    have s1_3 : w.heap.size + 1 + 1 + 1 < w1.heap.size := by omega
    have z1_0 : w1.frozen? ⟨w.heap.size + 1 + 1, 0, none⟩ = false := keptF lb1 (by first | (simp; done) | (simp; omega)) (by first | (simp; done) | (simp [go_sem]; done))
    have z1_1 : w1.frozen? ⟨w.heap.size + 1 + 1, 1, none⟩ = false := keptF lb1 (by first | (simp; done) | (simp; omega)) (by first | (simp; done) | (simp [go_sem]; done))
    have z1_2 : w1.frozen? ⟨w.heap.size + 1 + 1, 2, none⟩ = false := keptF lb1 (by first | (simp; done) | (simp; omega)) (by first | (simp; done) | (simp [go_sem]; done))
    have z1_3 : w1.frozen? ⟨w.heap.size + 1 + 1 + 1, 0, none⟩ = false := keptF lb1 (by first | (simp; done) | (simp; omega)) (by first | (simp; done) | (simp [go_sem]; done))
    have z1_4 : w1.frozen? ⟨w.heap.size + 1 + 1 + 1, 1, none⟩ = false := keptF lb1 (by first | (simp; done) | (simp; omega)) (by first | (simp; done) | (simp [go_sem]; done))
    have z1_5 : w1.frozen? ⟨w.heap.size + 1 + 1 + 1, 2, none⟩ = false := keptF lb1 (by first | (simp; done) | (simp; omega)) (by first | (simp; done) | (simp [go_sem]; done))
    have z1_6 : w1.frozen? ⟨w.heap.size + 1 + 1 + 1, 3, none⟩ = false := keptF lb1 (by first | (simp; done) | (simp; omega)) (by first | (simp; done) | (simp [go_sem]; done))
    have z1_7 : w1.frozen? ⟨w.heap.size + 1 + 1 + 1, 4, none⟩ = false := keptF lb1 (by first | (simp; done) | (simp; omega)) (by first | (simp; done) | (simp [go_sem]; done))
    have z1_8 : w1.frozen? ⟨w.heap.size + 1 + 1 + 1, 5, none⟩ = false := keptF lb1 (by first | (simp; done) | (simp; omega)) (by first | (simp; done) | (simp [go_sem]; done))
    have hf2 : Free w1 (w.heap.size + 1 + 1) := fun j => keptF lb1 (by first | (simp; done) | (simp; omega)) (by first | (simp; done) | (simp [go_sem]; done))
    have hf3 : Free w1 (w.heap.size + 1 + 1 + 1) := fun j => keptF lb1 (by first | (simp; done) | (simp; omega)) (by first | (simp; done) | (simp [go_sem]; done))
    have HF2 := Lib.hid hf2
    have HF3 := Lib.hid hf3
    clear hf2 hf3 lb1
    go_wp2_with fail
    apply region_phase (fun p w' => match p with | 0 => Ck6 w' (w.heap.size) lw lt off up mk ∧ St3 w' (w.heap.size + 1) iw it im ∧ St3 w' (w.heap.size + 1 + 1) 0 0 0 ∧ Ck6 w' (w.heap.size + 1 + 1 + 1) 0 0 0 0 0 ∧ Free w' (w.heap.size + 1 + 1) ∧ Free w' (w.heap.size + 1 + 1 + 1) ∧ Below w.heap.size w w' | 1 => St3 w' (w.heap.size + 1 + 1) (gvA up ph (uoW lw lt iw it im) (uoT lw lt iw it im)) (gvB up ph (uoW lw lt iw it im) (uoT lw lt iw it im)) (gvM up mk ph (uoW lw lt iw it im) (uoT lw lt iw it im)) ∧ Ck6 w' (w.heap.size + 1 + 1 + 1) 0 0 0 0 0 ∧ Free w' (w.heap.size + 1 + 1 + 1) ∧ Below w.heap.size w w' | _ => St3 w' (w.heap.size + 1 + 1) (gvA up ph (uoW lw lt iw it im) (uoT lw lt iw it im)) (gvB up ph (uoW lw lt iw it im) (uoT lw lt iw it im)) (gvM up mk ph (uoW lw lt iw it im) (uoT lw lt iw it im)) ∧ Ck6 w' (w.heap.size + 1 + 1 + 1) (gvW up ph (uoW lw lt iw it im) (uoT lw lt iw it im) lw) (gvT up ph (uoW lw lt iw it im) (uoT lw lt iw it im) lt) off up mk ∧ Below w.heap.size w w') [10, 12] [some 0, none, none, some 0, some 0, some 0, some 0, none, none, none, some 0, none, some 1] [.agg #[.int .i64 lw, .int .u32 lt, .int .u32 0, .int .i64 off, .int .i64 up, .int .u32 mk], .int .i64 ph, .pointer (some ⟨w.heap.size, 0, none⟩), .agg #[.int .i64 lw, .int .u32 lt, .int .u32 0], .agg #[.int .i64 iw, .int .u32 it, .int .u32 im], .agg #[.int .i64 (uoW lw lt iw it im), .int .u32 (uoT lw lt iw it im), .int .u32 (uoM lw lt iw it im)], .tuple #[.agg #[.int .i64 (gvA up ph (uoW lw lt iw it im) (uoT lw lt iw it im)), .int .u32 (gvB up ph (uoW lw lt iw it im) (uoT lw lt iw it im)), .int .u32 (gvM up mk ph (uoW lw lt iw it im) (uoT lw lt iw it im))], .int .i64 (gvE up ph (uoW lw lt iw it im) (uoT lw lt iw it im)), .agg #[.int .i64 (gvW up ph (uoW lw lt iw it im) (uoT lw lt iw it im) lw), .int .u32 (gvT up ph (uoW lw lt iw it im) (uoT lw lt iw it im) lt), .int .u32 0, .int .i64 off, .int .i64 up, .int .u32 mk]], .agg #[.int .i64 (gvA up ph (uoW lw lt iw it im) (uoT lw lt iw it im)), .int .u32 (gvB up ph (uoW lw lt iw it im) (uoT lw lt iw it im)), .int .u32 (gvM up mk ph (uoW lw lt iw it im) (uoT lw lt iw it im))], .int .i64 (gvE up ph (uoW lw lt iw it im) (uoT lw lt iw it im)), .agg #[.int .i64 (gvW up ph (uoW lw lt iw it im) (uoT lw lt iw it im) lw), .int .u32 (gvT up ph (uoW lw lt iw it im) (uoT lw lt iw it im) lt), .int .u32 0, .int .i64 off, .int .i64 up, .int .u32 mk], undef, .int .i64 (gvE up ph (uoW lw lt iw it im) (uoT lw lt iw it im)), undef]
    case hm => kernel_rfl
    case hf => kernel_rfl
    case hp => kernel_rfl
    case hQ => exact (by intro c x y w e h; exact And.intro (e.symm.trans (And.left h)) (And.right h))
    case hF => simp only [putAll, Act.put, List.setIfInBounds_toArray, List.set_cons_zero, List.set_cons_succ, Nat.reduceAdd, List.getD_cons_zero, List.getD_cons_succ]; rfl
    case h0 =>
      exact ⟨⟨m1_0, m1_1, m1_2, m1_3, m1_4, m1_5⟩, ⟨m1_6, m1_7, m1_8⟩, ⟨m1_9, m1_10, m1_11⟩, ⟨m1_12, m1_13, m1_14, m1_15, m1_16, m1_17⟩, HF2.out, HF3.out, lB1.drew⟩
    case hstep =>
      repeat' (first | exact AllOps.nil | apply AllOps.cons)
      · intro wx hS K hK
        replace hK : ∀ (v : Value) (w' : World), v = .agg #[.int .i64 lw, .int .u32 lt, .int .u32 0, .int .i64 off, .int .i64 up, .int .u32 mk] → (Ck6 w' (w.heap.size) lw lt off up mk ∧ St3 w' (w.heap.size + 1) iw it im ∧ St3 w' (w.heap.size + 1 + 1) 0 0 0 ∧ Ck6 w' (w.heap.size + 1 + 1 + 1) 0 0 0 0 0 ∧ Free w' (w.heap.size + 1 + 1) ∧ Free w' (w.heap.size + 1 + 1 + 1) ∧ Below w.heap.size w w') → K _ w' := hK
        replace hS : Ck6 wx (w.heap.size) lw lt off up mk ∧ St3 wx (w.heap.size + 1) iw it im ∧ St3 wx (w.heap.size + 1 + 1) 0 0 0 ∧ Ck6 wx (w.heap.size + 1 + 1 + 1) 0 0 0 0 0 ∧ Free wx (w.heap.size + 1 + 1) ∧ Free wx (w.heap.size + 1 + 1 + 1) ∧ Below w.heap.size w wx := hS
        simp only [Act.put, List.setIfInBounds_toArray, List.set_cons_zero, List.set_cons_succ, Nat.reduceAdd, List.getD_cons_zero, List.getD_cons_succ] at hK ⊢
        have HK := Lib.hid hK
        have HS := Lib.hid hS
        clear hK
        obtain ⟨⟨a0, a1, a2, a3, a4, a5⟩, ⟨b0, b1, b2⟩, ⟨c0, c1, c2⟩, ⟨d0, d1, d2, d3, d4, d5⟩, fc, fd, hB⟩ := hS
        go_simp
        exact HK.out _ _ rfl HS.out
      · intro wx hS K hK
        replace hK : ∀ (v : Value) (w' : World), v = .int .i64 ph → w' = wx → K _ w' := hK
        simp only [Act.put, List.setIfInBounds_toArray, List.set_cons_zero, List.set_cons_succ, Nat.reduceAdd, List.getD_cons_zero, List.getD_cons_succ] at hK ⊢
        have HK := Lib.hid hK
        clear hK hS
        go_simp
        exact HK.out _ _ rfl rfl
      · intro wx hS K hK
        replace hK : ∀ (v : Value) (w' : World), v = .pointer (some ⟨w.heap.size, 0, none⟩) → w' = wx → K _ w' := hK
        simp only [Act.put, List.setIfInBounds_toArray, List.set_cons_zero, List.set_cons_succ, Nat.reduceAdd, List.getD_cons_zero, List.getD_cons_succ] at hK ⊢
        have HK := Lib.hid hK
        clear hK hS
        go_simp
        exact HK.out _ _ rfl rfl
      · intro wx hS K hK
        replace hK : ∀ (v : Value) (w' : World), v = .agg #[.int .i64 lw, .int .u32 lt, .int .u32 0] → (Ck6 w' (w.heap.size) lw lt off up mk ∧ St3 w' (w.heap.size + 1) iw it im ∧ St3 w' (w.heap.size + 1 + 1) 0 0 0 ∧ Ck6 w' (w.heap.size + 1 + 1 + 1) 0 0 0 0 0 ∧ Free w' (w.heap.size + 1 + 1) ∧ Free w' (w.heap.size + 1 + 1 + 1) ∧ Below w.heap.size w w') → K _ w' := hK
        replace hS : Ck6 wx (w.heap.size) lw lt off up mk ∧ St3 wx (w.heap.size + 1) iw it im ∧ St3 wx (w.heap.size + 1 + 1) 0 0 0 ∧ Ck6 wx (w.heap.size + 1 + 1 + 1) 0 0 0 0 0 ∧ Free wx (w.heap.size + 1 + 1) ∧ Free wx (w.heap.size + 1 + 1 + 1) ∧ Below w.heap.size w wx := hS
        simp only [Act.put, List.setIfInBounds_toArray, List.set_cons_zero, List.set_cons_succ, Nat.reduceAdd, List.getD_cons_zero, List.getD_cons_succ] at hK ⊢
        have HK := Lib.hid hK
        have HS := Lib.hid hS
        clear hK
        obtain ⟨⟨a0, a1, a2, a3, a4, a5⟩, ⟨b0, b1, b2⟩, ⟨c0, c1, c2⟩, ⟨d0, d1, d2, d3, d4, d5⟩, fc, fd, hB⟩ := hS
        go_simp
        exact HK.out _ _ rfl HS.out
      · intro wx hS K hK
        replace hK : ∀ (v : Value) (w' : World), v = .agg #[.int .i64 iw, .int .u32 it, .int .u32 im] → (Ck6 w' (w.heap.size) lw lt off up mk ∧ St3 w' (w.heap.size + 1) iw it im ∧ St3 w' (w.heap.size + 1 + 1) 0 0 0 ∧ Ck6 w' (w.heap.size + 1 + 1 + 1) 0 0 0 0 0 ∧ Free w' (w.heap.size + 1 + 1) ∧ Free w' (w.heap.size + 1 + 1 + 1) ∧ Below w.heap.size w w') → K _ w' := hK
        replace hS : Ck6 wx (w.heap.size) lw lt off up mk ∧ St3 wx (w.heap.size + 1) iw it im ∧ St3 wx (w.heap.size + 1 + 1) 0 0 0 ∧ Ck6 wx (w.heap.size + 1 + 1 + 1) 0 0 0 0 0 ∧ Free wx (w.heap.size + 1 + 1) ∧ Free wx (w.heap.size + 1 + 1 + 1) ∧ Below w.heap.size w wx := hS
        simp only [Act.put, List.setIfInBounds_toArray, List.set_cons_zero, List.set_cons_succ, Nat.reduceAdd, List.getD_cons_zero, List.getD_cons_succ] at hK ⊢
        have HK := Lib.hid hK
        have HS := Lib.hid hS
        clear hK
        obtain ⟨⟨a0, a1, a2, a3, a4, a5⟩, ⟨b0, b1, b2⟩, ⟨c0, c1, c2⟩, ⟨d0, d1, d2, d3, d4, d5⟩, fc, fd, hB⟩ := hS
        go_simp
        exact HK.out _ _ rfl HS.out
      · intro wx hS K hK
        replace hK : ∀ (v : Value) (w' : World), v = .agg #[.int .i64 (uoW lw lt iw it im), .int .u32 (uoT lw lt iw it im), .int .u32 (uoM lw lt iw it im)] → (Ck6 w' (w.heap.size) lw lt off up mk ∧ St3 w' (w.heap.size + 1) iw it im ∧ St3 w' (w.heap.size + 1 + 1) 0 0 0 ∧ Ck6 w' (w.heap.size + 1 + 1 + 1) 0 0 0 0 0 ∧ Free w' (w.heap.size + 1 + 1) ∧ Free w' (w.heap.size + 1 + 1 + 1) ∧ Below w.heap.size w w') → K _ w' := hK
        replace hS : Ck6 wx (w.heap.size) lw lt off up mk ∧ St3 wx (w.heap.size + 1) iw it im ∧ St3 wx (w.heap.size + 1 + 1) 0 0 0 ∧ Ck6 wx (w.heap.size + 1 + 1 + 1) 0 0 0 0 0 ∧ Free wx (w.heap.size + 1 + 1) ∧ Free wx (w.heap.size + 1 + 1 + 1) ∧ Below w.heap.size w wx := hS
        simp only [Act.put, List.setIfInBounds_toArray, List.set_cons_zero, List.set_cons_succ, Nat.reduceAdd, List.getD_cons_zero, List.getD_cons_succ] at hK ⊢
        have HK := Lib.hid hK
        have HS := Lib.hid hS
        clear hK
        go_simp
        go_at_call 39
        refine (most_any _ _ _ _ _ _).mono ?_
        rintro e w1 ⟨rfl, hb⟩
        refine HK.out _ _ rfl ?_
        obtain ⟨h0, h1, h2, h3, h4, h5, h6⟩ := HS.out
        exact ⟨h0.below hb, h1.below hb, h2.below hb, h3.below hb, h4.below h2.lt hb, h5.below h3.lt hb, via hb h6 h6.size⟩
      · intro wx hS K hK
        replace hK : ∀ (v : Value) (w' : World), v = .tuple #[.agg #[.int .i64 (gvA up ph (uoW lw lt iw it im) (uoT lw lt iw it im)), .int .u32 (gvB up ph (uoW lw lt iw it im) (uoT lw lt iw it im)), .int .u32 (gvM up mk ph (uoW lw lt iw it im) (uoT lw lt iw it im))], .int .i64 (gvE up ph (uoW lw lt iw it im) (uoT lw lt iw it im)), .agg #[.int .i64 (gvW up ph (uoW lw lt iw it im) (uoT lw lt iw it im) lw), .int .u32 (gvT up ph (uoW lw lt iw it im) (uoT lw lt iw it im) lt), .int .u32 0, .int .i64 off, .int .i64 up, .int .u32 mk]] → (Ck6 w' (w.heap.size) lw lt off up mk ∧ St3 w' (w.heap.size + 1) iw it im ∧ St3 w' (w.heap.size + 1 + 1) 0 0 0 ∧ Ck6 w' (w.heap.size + 1 + 1 + 1) 0 0 0 0 0 ∧ Free w' (w.heap.size + 1 + 1) ∧ Free w' (w.heap.size + 1 + 1 + 1) ∧ Below w.heap.size w w') → K _ w' := hK
        replace hS : Ck6 wx (w.heap.size) lw lt off up mk ∧ St3 wx (w.heap.size + 1) iw it im ∧ St3 wx (w.heap.size + 1 + 1) 0 0 0 ∧ Ck6 wx (w.heap.size + 1 + 1 + 1) 0 0 0 0 0 ∧ Free wx (w.heap.size + 1 + 1) ∧ Free wx (w.heap.size + 1 + 1 + 1) ∧ Below w.heap.size w wx := hS
        simp only [Act.put, List.setIfInBounds_toArray, List.set_cons_zero, List.set_cons_succ, Nat.reduceAdd, List.getD_cons_zero, List.getD_cons_succ] at hK ⊢
        have HK := Lib.hid hK
        have HS := Lib.hid hS
        clear hK
        go_simp
        go_at_call 38
        refine (rgive_any off up mk lw lt ph _ _ _ HU.out.1 HU.out.2.1 HU.out.2.2.1 HU.out.2.2.2 _).mono ?_
        rintro e w1 ⟨rfl, hb⟩
        refine HK.out _ _ rfl ?_
        obtain ⟨h0, h1, h2, h3, h4, h5, h6⟩ := HS.out
        exact ⟨h0.below hb, h1.below hb, h2.below hb, h3.below hb, h4.below h2.lt hb, h5.below h3.lt hb, via hb h6 h6.size⟩
      · intro wx hS K hK
        replace hK : ∀ (v : Value) (w' : World), v = .agg #[.int .i64 (gvA up ph (uoW lw lt iw it im) (uoT lw lt iw it im)), .int .u32 (gvB up ph (uoW lw lt iw it im) (uoT lw lt iw it im)), .int .u32 (gvM up mk ph (uoW lw lt iw it im) (uoT lw lt iw it im))] → w' = wx → K _ w' := hK
        simp only [Act.put, List.setIfInBounds_toArray, List.set_cons_zero, List.set_cons_succ, Nat.reduceAdd, List.getD_cons_zero, List.getD_cons_succ] at hK ⊢
        have HK := Lib.hid hK
        clear hK hS
        go_simp
        exact HK.out _ _ rfl rfl
      · intro wx hS K hK
        replace hK : ∀ (v : Value) (w' : World), v = .int .i64 (gvE up ph (uoW lw lt iw it im) (uoT lw lt iw it im)) → w' = wx → K _ w' := hK
        simp only [Act.put, List.setIfInBounds_toArray, List.set_cons_zero, List.set_cons_succ, Nat.reduceAdd, List.getD_cons_zero, List.getD_cons_succ] at hK ⊢
        have HK := Lib.hid hK
        clear hK hS
        go_simp
        exact HK.out _ _ rfl rfl
      · intro wx hS K hK
        replace hK : ∀ (v : Value) (w' : World), v = .agg #[.int .i64 (gvW up ph (uoW lw lt iw it im) (uoT lw lt iw it im) lw), .int .u32 (gvT up ph (uoW lw lt iw it im) (uoT lw lt iw it im) lt), .int .u32 0, .int .i64 off, .int .i64 up, .int .u32 mk] → w' = wx → K _ w' := hK
        simp only [Act.put, List.setIfInBounds_toArray, List.set_cons_zero, List.set_cons_succ, Nat.reduceAdd, List.getD_cons_zero, List.getD_cons_succ] at hK ⊢
        have HK := Lib.hid hK
        clear hK hS
        go_simp
        exact HK.out _ _ rfl rfl
      · intro wx hS K hK
        replace hK : ∀ (v : Value) (w' : World), v = undef → (St3 w' (w.heap.size + 1 + 1) (gvA up ph (uoW lw lt iw it im) (uoT lw lt iw it im)) (gvB up ph (uoW lw lt iw it im) (uoT lw lt iw it im)) (gvM up mk ph (uoW lw lt iw it im) (uoT lw lt iw it im)) ∧ Ck6 w' (w.heap.size + 1 + 1 + 1) 0 0 0 0 0 ∧ Free w' (w.heap.size + 1 + 1 + 1) ∧ Below w.heap.size w w') → K _ w' := hK
        replace hS : Ck6 wx (w.heap.size) lw lt off up mk ∧ St3 wx (w.heap.size + 1) iw it im ∧ St3 wx (w.heap.size + 1 + 1) 0 0 0 ∧ Ck6 wx (w.heap.size + 1 + 1 + 1) 0 0 0 0 0 ∧ Free wx (w.heap.size + 1 + 1) ∧ Free wx (w.heap.size + 1 + 1 + 1) ∧ Below w.heap.size w wx := hS
        simp only [Act.put, List.setIfInBounds_toArray, List.set_cons_zero, List.set_cons_succ, Nat.reduceAdd, List.getD_cons_zero, List.getD_cons_succ] at hK ⊢
        have HK := Lib.hid hK
        have HS := Lib.hid hS
        clear hK
        obtain ⟨⟨a0, a1, a2, a3, a4, a5⟩, ⟨b0, b1, b2⟩, ⟨c0, c1, c2⟩, ⟨d0, d1, d2, d3, d4, d5⟩, fc, fd, hB⟩ := hS
        have f0 := fc 0
        have f1 := fc 1
        have f2 := fc 2
        go_simp
        refine HK.out _ (set3 wx (w.heap.size + 1 + 1) (.int .i64 (gvA up ph (uoW lw lt iw it im) (uoT lw lt iw it im))) (.int .u32 (gvB up ph (uoW lw lt iw it im) (uoT lw lt iw it im))) (.int .u32 (gvM up mk ph (uoW lw lt iw it im) (uoT lw lt iw it im)))) rfl ?_
        obtain ⟨h0, h1, h2, h3, h4, h5, h6⟩ := HS.out
        exact ⟨h2.put, h3.s3 (by omega), h5.s3, set3_below h6 (by omega)⟩
      · intro wx hS K hK
        replace hK : ∀ (v : Value) (w' : World), v = .int .i64 (gvE up ph (uoW lw lt iw it im) (uoT lw lt iw it im)) → w' = wx → K _ w' := hK
        simp only [Act.put, List.setIfInBounds_toArray, List.set_cons_zero, List.set_cons_succ, Nat.reduceAdd, List.getD_cons_zero, List.getD_cons_succ] at hK ⊢
        have HK := Lib.hid hK
        clear hK hS
        go_simp
        exact HK.out _ _ rfl rfl
      · intro wx hS K hK
        replace hK : ∀ (v : Value) (w' : World), v = undef → (St3 w' (w.heap.size + 1 + 1) (gvA up ph (uoW lw lt iw it im) (uoT lw lt iw it im)) (gvB up ph (uoW lw lt iw it im) (uoT lw lt iw it im)) (gvM up mk ph (uoW lw lt iw it im) (uoT lw lt iw it im)) ∧ Ck6 w' (w.heap.size + 1 + 1 + 1) (gvW up ph (uoW lw lt iw it im) (uoT lw lt iw it im) lw) (gvT up ph (uoW lw lt iw it im) (uoT lw lt iw it im) lt) off up mk ∧ Below w.heap.size w w') → K _ w' := hK
        replace hS : St3 wx (w.heap.size + 1 + 1) (gvA up ph (uoW lw lt iw it im) (uoT lw lt iw it im)) (gvB up ph (uoW lw lt iw it im) (uoT lw lt iw it im)) (gvM up mk ph (uoW lw lt iw it im) (uoT lw lt iw it im)) ∧ Ck6 wx (w.heap.size + 1 + 1 + 1) 0 0 0 0 0 ∧ Free wx (w.heap.size + 1 + 1 + 1) ∧ Below w.heap.size w wx := hS
        simp only [Act.put, List.setIfInBounds_toArray, List.set_cons_zero, List.set_cons_succ, Nat.reduceAdd, List.getD_cons_zero, List.getD_cons_succ] at hK ⊢
        have HK := Lib.hid hK
        have HS := Lib.hid hS
        clear hK
        obtain ⟨hR, ⟨d0, d1, d2, d3, d4, d5⟩, fd, hB⟩ := hS
        have f0 := fd 0
        have f1 := fd 1
        have f2 := fd 2
        have f3 := fd 3
        have f4 := fd 4
        have f5 := fd 5
        go_simp
        refine HK.out _ (set6 wx (w.heap.size + 1 + 1 + 1) (gvW up ph (uoW lw lt iw it im) (uoT lw lt iw it im) lw) (gvT up ph (uoW lw lt iw it im) (uoT lw lt iw it im) lt) off up mk) rfl ?_
        obtain ⟨h0, h1, h2, h3⟩ := HS.out
        exact ⟨h0.s6 (by omega), h1.put, set6_below h3 (by omega)⟩
    case hend =>
      intro wy hS
      replace hS : St3 wy (w.heap.size + 1 + 1) (gvA up ph (uoW lw lt iw it im) (uoT lw lt iw it im)) (gvB up ph (uoW lw lt iw it im) (uoT lw lt iw it im)) (gvM up mk ph (uoW lw lt iw it im) (uoT lw lt iw it im)) ∧ Ck6 wy (w.heap.size + 1 + 1 + 1) (gvW up ph (uoW lw lt iw it im) (uoT lw lt iw it im) lw) (gvT up ph (uoW lw lt iw it im) (uoT lw lt iw it im) lt) off up mk ∧ Below w.heap.size w wy := hS
      obtain ⟨⟨r0, r1, r2⟩, ⟨d0, d1, d2, d3, d4, d5⟩, hB⟩ := hS
      go_wp2
      exact bodyPost_ret (v := .tuple #[.agg #[.int .i64 (gvA up ph (uoW lw lt iw it im) (uoT lw lt iw it im)), .int .u32 (gvB up ph (uoW lw lt iw it im) (uoT lw lt iw it im)), .int .u32 (gvM up mk ph (uoW lw lt iw it im) (uoT lw lt iw it im))], .int .i64 (gvE up ph (uoW lw lt iw it im) (uoT lw lt iw it im)), .agg #[.int .i64 (gvW up ph (uoW lw lt iw it im) (uoT lw lt iw it im) lw), .int .u32 (gvT up ph (uoW lw lt iw it im) (uoT lw lt iw it im) lt), .int .u32 0, .int .i64 off, .int .i64 up, .int .u32 mk]]) (by simp [results, Try.results28, go_sem, r0, r1, r2, d0, d1, d2, d3, d4, d5]) rfl ⟨rfl, hB⟩

end Go.Proofs.Yteibigiehpkdjaa
