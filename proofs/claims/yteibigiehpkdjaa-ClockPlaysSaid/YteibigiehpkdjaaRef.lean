/- The document's clock. -/
import Derived.Test.YteibigiehpkdjaaClkG
namespace Go.Proofs.Yteibigiehpkdjaa
open Go.RowKit


theorem fits_any (off up : Int) (w : World) :
    Calls Try.prog 22 #[.int .i64 off, .int .i64 up] w fun e w' => e = .returned (.bool (newOk off up)) ∧ w = w' := by
  by_cases h : newOk off up = true
  · have h' : 0 ≤ off ∧ off ≤ 1099511627776 ∧ 0 ≤ up ∧ up ≤ 4611686018427387904 := by simpa [newOk] using h
    obtain ⟨h1, h2, h3, h4⟩ := h'
    rw [h]
    clear h
    go_enter Try.func22, Try.ntmps22
    go_wp2
    go_ret
    exact ⟨rfl, rfl⟩
  · have h : newOk off up = false := by simpa using h
    have h' : off < 0 ∨ 1099511627776 < off ∨ up < 0 ∨ 4611686018427387904 < up := by simp [newOk] at h; omega
    have H := Lib.hid h'
    rw [h]
    clear h h'
    by_cases c1 : 0 ≤ off <;> by_cases c2 : off ≤ 1099511627776 <;> by_cases c3 : 0 ≤ up <;> by_cases c4 : up ≤ 4611686018427387904
    all_goals first
      | (exfalso; have := H.out; omega)
      | (go_enter Try.func22, Try.ntmps22; go_wp2; go_ret; exact ⟨rfl, rfl⟩)

theorem rnew_any (off up mk : Int) (w : World) :
    Calls Try.prog 24 #[.int .i64 off, .int .i64 up, .int .u32 mk] w fun e w' => e = .returned (.agg #[.int .i64 up, .int .u32 4294967295, .int .u32 0, .int .i64 off, .int .i64 up, .int .u32 mk]) ∧ Below w.heap.size w w' := by
  go_enter Try.func24, Try.ntmps24
  go_wp2
  exact bodyPost_ret (v := .agg #[.int .i64 up, .int .u32 4294967295, .int .u32 0, .int .i64 off, .int .i64 up, .int .u32 mk]) (by simp [results, Try.results24, go_sem]) rfl ⟨rfl, by go_grown⟩

theorem rlow_no (off up mk lw lt ph tw tt tm : Int) (w : World) (h : tw < ph) (hu : up < ph) :
    Calls Try.prog 38 #[.agg #[.int .i64 lw, .int .u32 lt, .int .u32 0, .int .i64 off, .int .i64 up, .int .u32 mk], .int .i64 ph, .agg #[.int .i64 tw, .int .u32 tt, .int .u32 tm]] w fun e w' => e = .returned (.tuple #[.agg #[.int .i64 0, .int .u32 0, .int .u32 0], .int .i64 22, .agg #[.int .i64 lw, .int .u32 lt, .int .u32 0, .int .i64 off, .int .i64 up, .int .u32 mk]]) ∧ Below w.heap.size w w' := by
  go_enter Try.func38, Try.ntmps38
  go_wp2
  go_region
  all_goals go_wp2
  all_goals exact bodyPost_ret (v := .tuple #[.agg #[.int .i64 0, .int .u32 0, .int .u32 0], .int .i64 22, .agg #[.int .i64 lw, .int .u32 lt, .int .u32 0, .int .i64 off, .int .i64 up, .int .u32 mk]]) (by simp [results, Try.results38, go_sem]) rfl ⟨rfl, by go_grown⟩

set_option maxHeartbeats 1000000 in
theorem rlow_yes (off up mk lw lt ph tw tt tm : Int) (w : World) (h : tw < ph) (hu : ph ≤ up) :
    Calls Try.prog 38 #[.agg #[.int .i64 lw, .int .u32 lt, .int .u32 0, .int .i64 off, .int .i64 up, .int .u32 mk], .int .i64 ph, .agg #[.int .i64 tw, .int .u32 tt, .int .u32 tm]] w fun e w' => e = .returned (.tuple #[.agg #[.int .i64 ph, .int .u32 0, .int .u32 mk], .int .i64 0, .agg #[.int .i64 ph, .int .u32 0, .int .u32 0, .int .i64 off, .int .i64 up, .int .u32 mk]]) ∧ Below w.heap.size w w' := by
  go_enter Try.func38, Try.ntmps38
  go_wp2
  go_region
  all_goals go_wp2
  all_goals exact bodyPost_ret (v := .tuple #[.agg #[.int .i64 ph, .int .u32 0, .int .u32 mk], .int .i64 0, .agg #[.int .i64 ph, .int .u32 0, .int .u32 0, .int .i64 off, .int .i64 up, .int .u32 mk]]) (by simp [results, Try.results38, go_sem]) rfl ⟨rfl, by go_grown⟩


set_option maxHeartbeats 2000000 in
theorem rnx_bad (off up mk lw lt ph tw tt tm : Int) (ht0 : 0 ≤ tt) (ht1 : tt ≤ 4294967295) (w : World) (h : ph ≤ tw) (hE : nxE tw tt ≠ 0) :
    Calls Try.prog 38 #[.agg #[.int .i64 lw, .int .u32 lt, .int .u32 0, .int .i64 off, .int .i64 up, .int .u32 mk], .int .i64 ph, .agg #[.int .i64 tw, .int .u32 tt, .int .u32 tm]] w fun e w' => e = .returned (.tuple #[.agg #[.int .i64 0, .int .u32 0, .int .u32 0], .int .i64 20, .agg #[.int .i64 lw, .int .u32 lt, .int .u32 0, .int .i64 off, .int .i64 up, .int .u32 mk]]) ∧ Below w.heap.size w w' := by
  have h1 : (nxE tw tt == 0) = false := by simpa using hE
  have h2 : (nxE tw tt != 0) = true := by simpa using hE
  clear hE
  go_enter Try.func38, Try.ntmps38
  go_wp2_with fail
  refine (rnext_any tw tt tm ht0 ht1 _).mono ?_
  rintro e w1 ⟨rfl, lb1⟩
  have lz1 := lb1.size
  (try simp at lz1)
  have lB1 : Below w.heap.size w w1 := via lb1 (by go_grown) (by go_size)
  have m1_0 : w1.cell? ⟨w.heap.size, 0, none⟩ = some (.int .i64 lw) := kept lb1 (by repeat' (first | (with_reducible assumption) | (simp; done) | (simp [go_sem]; done) | with_reducible apply keptD | with_reducible apply keptA))
  have m1_1 : w1.cell? ⟨w.heap.size, 1, none⟩ = some (.int .u32 lt) := kept lb1 (by repeat' (first | (with_reducible assumption) | (simp; done) | (simp [go_sem]; done) | with_reducible apply keptD | with_reducible apply keptA))
  have m1_2 : w1.cell? ⟨w.heap.size, 2, none⟩ = some (.int .u32 0) := kept lb1 (by repeat' (first | (with_reducible assumption) | (simp; done) | (simp [go_sem]; done) | with_reducible apply keptD | with_reducible apply keptA))
  have m1_3 : w1.cell? ⟨w.heap.size, 3, none⟩ = some (.int .i64 off) := kept lb1 (by repeat' (first | (with_reducible assumption) | (simp; done) | (simp [go_sem]; done) | with_reducible apply keptD | with_reducible apply keptA))
  have m1_4 : w1.cell? ⟨w.heap.size, 4, none⟩ = some (.int .i64 up) := kept lb1 (by repeat' (first | (with_reducible assumption) | (simp; done) | (simp [go_sem]; done) | with_reducible apply keptD | with_reducible apply keptA))
  have m1_5 : w1.cell? ⟨w.heap.size, 5, none⟩ = some (.int .u32 mk) := kept lb1 (by repeat' (first | (with_reducible assumption) | (simp; done) | (simp [go_sem]; done) | with_reducible apply keptD | with_reducible apply keptA))
  have m1_6 : w1.cell? ⟨w.heap.size + 1, 0, none⟩ = some (.int .i64 tw) := kept lb1 (by repeat' (first | (with_reducible assumption) | (simp; done) | (simp [go_sem]; done) | with_reducible apply keptD | with_reducible apply keptA))
  have m1_7 : w1.cell? ⟨w.heap.size + 1, 1, none⟩ = some (.int .u32 tt) := kept lb1 (by repeat' (first | (with_reducible assumption) | (simp; done) | (simp [go_sem]; done) | with_reducible apply keptD | with_reducible apply keptA))
  have m1_8 : w1.cell? ⟨w.heap.size + 1, 2, none⟩ = some (.int .u32 tm) := kept lb1 (by repeat' (first | (with_reducible assumption) | (simp; done) | (simp [go_sem]; done) | with_reducible apply keptD | with_reducible apply keptA))
  have m1_9 : w1.cell? ⟨w.heap.size + 1 + 1, 0, none⟩ = some (.int .i64 0) := kept lb1 (by repeat' (first | (with_reducible assumption) | (simp; done) | (simp [go_sem]; done) | with_reducible apply keptD | with_reducible apply keptA))
  have m1_10 : w1.cell? ⟨w.heap.size + 1 + 1, 1, none⟩ = some (.int .u32 0) := kept lb1 (by repeat' (first | (with_reducible assumption) | (simp; done) | (simp [go_sem]; done) | with_reducible apply keptD | with_reducible apply keptA))
  have m1_11 : w1.cell? ⟨w.heap.size + 1 + 1, 2, none⟩ = some (.int .u32 0) := kept lb1 (by repeat' (first | (with_reducible assumption) | (simp; done) | (simp [go_sem]; done) | with_reducible apply keptD | with_reducible apply keptA))
  have m1_12 : w1.cell? ⟨w.heap.size + 1 + 1 + 1, 0, none⟩ = some (.int .i64 0) := kept lb1 (by repeat' (first | (with_reducible assumption) | (simp; done) | (simp [go_sem]; done) | with_reducible apply keptD | with_reducible apply keptA))
  have m1_13 : w1.cell? ⟨w.heap.size + 1 + 1 + 1, 1, none⟩ = some (.int .u32 0) := kept lb1 (by repeat' (first | (with_reducible assumption) | (simp; done) | (simp [go_sem]; done) | with_reducible apply keptD | with_reducible apply keptA))
  have m1_14 : w1.cell? ⟨w.heap.size + 1 + 1 + 1, 2, none⟩ = some (.int .u32 0) := kept lb1 (by repeat' (first | (with_reducible assumption) | (simp; done) | (simp [go_sem]; done) | with_reducible apply keptD | with_reducible apply keptA))
  have m1_15 : w1.cell? ⟨w.heap.size + 1 + 1 + 1, 3, none⟩ = some (.int .i64 0) := kept lb1 (by repeat' (first | (with_reducible assumption) | (simp; done) | (simp [go_sem]; done) | with_reducible apply keptD | with_reducible apply keptA))
  have m1_16 : w1.cell? ⟨w.heap.size + 1 + 1 + 1, 4, none⟩ = some (.int .i64 0) := kept lb1 (by repeat' (first | (with_reducible assumption) | (simp; done) | (simp [go_sem]; done) | with_reducible apply keptD | with_reducible apply keptA))
  have m1_17 : w1.cell? ⟨w.heap.size + 1 + 1 + 1, 5, none⟩ = some (.int .u32 0) := kept lb1 (by repeat' (first | (with_reducible assumption) | (simp; done) | (simp [go_sem]; done) | with_reducible apply keptD | with_reducible apply keptA))
  have m1_18 : w1.cell? ⟨w.heap.size + 1 + 1 + 1 + 1, 0, none⟩ = some (.int .i64 ph) := kept lb1 (by repeat' (first | (with_reducible assumption) | (simp; done) | (simp [go_sem]; done) | with_reducible apply keptD | with_reducible apply keptA))
  have m1_19 : w1.cell? ⟨w.heap.size + 1 + 1 + 1 + 1, 1, none⟩ = some (.int .u32 0) := kept lb1 (by repeat' (first | (with_reducible assumption) | (simp; done) | (simp [go_sem]; done) | with_reducible apply keptD | with_reducible apply keptA))
  have m1_20 : w1.cell? ⟨w.heap.size + 1 + 1 + 1 + 1, 2, none⟩ = some (.int .u32 0) := kept lb1 (by repeat' (first | (with_reducible assumption) | (simp; done) | (simp [go_sem]; done) | with_reducible apply keptD | with_reducible apply keptA))
  have s1_0 : w.heap.size < w1.heap.size := by omega
  have s1_1 : w.heap.size + 1 < w1.heap.size := by omega
  have s1_2 : w.heap.size + 1 + 1 < w1.heap.size := by omega
  have s1_3 : w.heap.size + 1 + 1 + 1 < w1.heap.size := by omega
  have s1_4 : w.heap.size + 1 + 1 + 1 + 1 < w1.heap.size := by omega
  have z1_0 : w1.frozen? ⟨w.heap.size, 0, none⟩ = false := keptF lb1 (by first | (simp; done) | (simp; omega)) (by first | (simp; done) | (simp [go_sem]; done))
  have z1_1 : w1.frozen? ⟨w.heap.size, 1, none⟩ = false := keptF lb1 (by first | (simp; done) | (simp; omega)) (by first | (simp; done) | (simp [go_sem]; done))
  have z1_2 : w1.frozen? ⟨w.heap.size, 2, none⟩ = false := keptF lb1 (by first | (simp; done) | (simp; omega)) (by first | (simp; done) | (simp [go_sem]; done))
  have z1_3 : w1.frozen? ⟨w.heap.size + 1 + 1, 0, none⟩ = false := keptF lb1 (by first | (simp; done) | (simp; omega)) (by first | (simp; done) | (simp [go_sem]; done))
  have z1_4 : w1.frozen? ⟨w.heap.size + 1 + 1, 1, none⟩ = false := keptF lb1 (by first | (simp; done) | (simp; omega)) (by first | (simp; done) | (simp [go_sem]; done))
  have z1_5 : w1.frozen? ⟨w.heap.size + 1 + 1, 2, none⟩ = false := keptF lb1 (by first | (simp; done) | (simp; omega)) (by first | (simp; done) | (simp [go_sem]; done))
  have z1_6 : w1.frozen? ⟨w.heap.size + 1 + 1 + 1, 0, none⟩ = false := keptF lb1 (by first | (simp; done) | (simp; omega)) (by first | (simp; done) | (simp [go_sem]; done))
  have z1_7 : w1.frozen? ⟨w.heap.size + 1 + 1 + 1, 1, none⟩ = false := keptF lb1 (by first | (simp; done) | (simp; omega)) (by first | (simp; done) | (simp [go_sem]; done))
  have z1_8 : w1.frozen? ⟨w.heap.size + 1 + 1 + 1, 2, none⟩ = false := keptF lb1 (by first | (simp; done) | (simp; omega)) (by first | (simp; done) | (simp [go_sem]; done))
  have z1_9 : w1.frozen? ⟨w.heap.size + 1 + 1 + 1, 3, none⟩ = false := keptF lb1 (by first | (simp; done) | (simp; omega)) (by first | (simp; done) | (simp [go_sem]; done))
  have z1_10 : w1.frozen? ⟨w.heap.size + 1 + 1 + 1, 4, none⟩ = false := keptF lb1 (by first | (simp; done) | (simp; omega)) (by first | (simp; done) | (simp [go_sem]; done))
  have z1_11 : w1.frozen? ⟨w.heap.size + 1 + 1 + 1, 5, none⟩ = false := keptF lb1 (by first | (simp; done) | (simp; omega)) (by first | (simp; done) | (simp [go_sem]; done))
  have z1_12 : w1.frozen? ⟨w.heap.size + 1 + 1 + 1 + 1, 0, none⟩ = false := keptF lb1 (by first | (simp; done) | (simp; omega)) (by first | (simp; done) | (simp [go_sem]; done))
  have z1_13 : w1.frozen? ⟨w.heap.size + 1 + 1 + 1 + 1, 1, none⟩ = false := keptF lb1 (by first | (simp; done) | (simp; omega)) (by first | (simp; done) | (simp [go_sem]; done))
  have z1_14 : w1.frozen? ⟨w.heap.size + 1 + 1 + 1 + 1, 2, none⟩ = false := keptF lb1 (by first | (simp; done) | (simp; omega)) (by first | (simp; done) | (simp [go_sem]; done))
  clear lb1
  go_wp2
  go_region
  all_goals generalize hW : (World.setCell _ _ _ : World) = W'
  all_goals have r0 : W'.cell? ⟨w.heap.size + 1 + 1, 0, none⟩ = some (.int .i64 0) := by rw [← hW]; (repeat' (first | (with_reducible assumption) | (with_reducible apply cellS) | ((with_reducible refine cellO ?_ ?_); focus (first | (intro hh; simp at hh; done) | (intro hh; simp at hh; omega))) | (with_reducible apply cellN) | (with_reducible apply keptA) | (with_reducible apply isS) | (with_reducible apply isN) | (with_reducible apply isA) | (with_reducible apply isOf; with_reducible assumption)))
  all_goals have r1 : W'.cell? ⟨w.heap.size + 1 + 1, 1, none⟩ = some (.int .u32 0) := by rw [← hW]; (repeat' (first | (with_reducible assumption) | (with_reducible apply cellS) | ((with_reducible refine cellO ?_ ?_); focus (first | (intro hh; simp at hh; done) | (intro hh; simp at hh; omega))) | (with_reducible apply cellN) | (with_reducible apply keptA) | (with_reducible apply isS) | (with_reducible apply isN) | (with_reducible apply isA) | (with_reducible apply isOf; with_reducible assumption)))
  all_goals have r2 : W'.cell? ⟨w.heap.size + 1 + 1, 2, none⟩ = some (.int .u32 0) := by rw [← hW]; (repeat' (first | (with_reducible assumption) | (with_reducible apply cellS) | ((with_reducible refine cellO ?_ ?_); focus (first | (intro hh; simp at hh; done) | (intro hh; simp at hh; omega))) | (with_reducible apply cellN) | (with_reducible apply keptA) | (with_reducible apply isS) | (with_reducible apply isN) | (with_reducible apply isA) | (with_reducible apply isOf; with_reducible assumption)))
  all_goals have r3 : W'.cell? ⟨w.heap.size + 1 + 1 + 1, 0, none⟩ = some (.int .i64 lw) := by rw [← hW]; (repeat' (first | (with_reducible assumption) | (with_reducible apply cellS) | ((with_reducible refine cellO ?_ ?_); focus (first | (intro hh; simp at hh; done) | (intro hh; simp at hh; omega))) | (with_reducible apply cellN) | (with_reducible apply keptA) | (with_reducible apply isS) | (with_reducible apply isN) | (with_reducible apply isA) | (with_reducible apply isOf; with_reducible assumption)))
  all_goals have r4 : W'.cell? ⟨w.heap.size + 1 + 1 + 1, 1, none⟩ = some (.int .u32 lt) := by rw [← hW]; (repeat' (first | (with_reducible assumption) | (with_reducible apply cellS) | ((with_reducible refine cellO ?_ ?_); focus (first | (intro hh; simp at hh; done) | (intro hh; simp at hh; omega))) | (with_reducible apply cellN) | (with_reducible apply keptA) | (with_reducible apply isS) | (with_reducible apply isN) | (with_reducible apply isA) | (with_reducible apply isOf; with_reducible assumption)))
  all_goals have r5 : W'.cell? ⟨w.heap.size + 1 + 1 + 1, 2, none⟩ = some (.int .u32 0) := by rw [← hW]; (repeat' (first | (with_reducible assumption) | (with_reducible apply cellS) | ((with_reducible refine cellO ?_ ?_); focus (first | (intro hh; simp at hh; done) | (intro hh; simp at hh; omega))) | (with_reducible apply cellN) | (with_reducible apply keptA) | (with_reducible apply isS) | (with_reducible apply isN) | (with_reducible apply isA) | (with_reducible apply isOf; with_reducible assumption)))
  all_goals have r6 : W'.cell? ⟨w.heap.size + 1 + 1 + 1, 3, none⟩ = some (.int .i64 off) := by rw [← hW]; (repeat' (first | (with_reducible assumption) | (with_reducible apply cellS) | ((with_reducible refine cellO ?_ ?_); focus (first | (intro hh; simp at hh; done) | (intro hh; simp at hh; omega))) | (with_reducible apply cellN) | (with_reducible apply keptA) | (with_reducible apply isS) | (with_reducible apply isN) | (with_reducible apply isA) | (with_reducible apply isOf; with_reducible assumption)))
  all_goals have r7 : W'.cell? ⟨w.heap.size + 1 + 1 + 1, 4, none⟩ = some (.int .i64 up) := by rw [← hW]; (repeat' (first | (with_reducible assumption) | (with_reducible apply cellS) | ((with_reducible refine cellO ?_ ?_); focus (first | (intro hh; simp at hh; done) | (intro hh; simp at hh; omega))) | (with_reducible apply cellN) | (with_reducible apply keptA) | (with_reducible apply isS) | (with_reducible apply isN) | (with_reducible apply isA) | (with_reducible apply isOf; with_reducible assumption)))
  all_goals have r8 : W'.cell? ⟨w.heap.size + 1 + 1 + 1, 5, none⟩ = some (.int .u32 mk) := by rw [← hW]; (repeat' (first | (with_reducible assumption) | (with_reducible apply cellS) | ((with_reducible refine cellO ?_ ?_); focus (first | (intro hh; simp at hh; done) | (intro hh; simp at hh; omega))) | (with_reducible apply cellN) | (with_reducible apply keptA) | (with_reducible apply isS) | (with_reducible apply isN) | (with_reducible apply isA) | (with_reducible apply isOf; with_reducible assumption)))
  all_goals have q0 : w.heap.size < W'.heap.size := by rw [← hW]; simp; omega
  all_goals have q1 : w.heap.size + 1 < W'.heap.size := by rw [← hW]; simp; omega
  all_goals have q2 : w.heap.size + 1 + 1 < W'.heap.size := by rw [← hW]; simp; omega
  all_goals have q3 : w.heap.size + 1 + 1 + 1 < W'.heap.size := by rw [← hW]; simp; omega
  all_goals have rB : Below w.heap.size w W' := by rw [← hW]; go_grown
  all_goals clear hW
  all_goals go_wp2
  all_goals exact bodyPost_ret (v := .tuple #[.agg #[.int .i64 0, .int .u32 0, .int .u32 0], .int .i64 20, .agg #[.int .i64 lw, .int .u32 lt, .int .u32 0, .int .i64 off, .int .i64 up, .int .u32 mk]]) (by simp [results, Try.results38, go_sem, r0, r1, r2, r3, r4, r5, r6, r7, r8, q0, q1, q2, q3]) rfl ⟨rfl, by go_grown⟩

set_option maxHeartbeats 2000000 in
theorem rnx_no (off up mk lw lt ph tw tt tm : Int) (ht0 : 0 ≤ tt) (ht1 : tt ≤ 4294967295) (w : World) (h : ph ≤ tw) (hE : nxE tw tt = 0) (hu : up < nxA tw tt) :
    Calls Try.prog 38 #[.agg #[.int .i64 lw, .int .u32 lt, .int .u32 0, .int .i64 off, .int .i64 up, .int .u32 mk], .int .i64 ph, .agg #[.int .i64 tw, .int .u32 tt, .int .u32 tm]] w fun e w' => e = .returned (.tuple #[.agg #[.int .i64 0, .int .u32 0, .int .u32 0], .int .i64 22, .agg #[.int .i64 lw, .int .u32 lt, .int .u32 0, .int .i64 off, .int .i64 up, .int .u32 mk]]) ∧ Below w.heap.size w w' := by
  go_enter Try.func38, Try.ntmps38
  go_wp2_with fail
  refine (rnext_any tw tt tm ht0 ht1 _).mono ?_
  rintro e w1 ⟨rfl, lb1⟩
  have lz1 := lb1.size
  (try simp at lz1)
  have lB1 : Below w.heap.size w w1 := via lb1 (by go_grown) (by go_size)
  have m1_0 : w1.cell? ⟨w.heap.size, 0, none⟩ = some (.int .i64 lw) := kept lb1 (by repeat' (first | (with_reducible assumption) | (simp; done) | (simp [go_sem]; done) | with_reducible apply keptD | with_reducible apply keptA))
  have m1_1 : w1.cell? ⟨w.heap.size, 1, none⟩ = some (.int .u32 lt) := kept lb1 (by repeat' (first | (with_reducible assumption) | (simp; done) | (simp [go_sem]; done) | with_reducible apply keptD | with_reducible apply keptA))
  have m1_2 : w1.cell? ⟨w.heap.size, 2, none⟩ = some (.int .u32 0) := kept lb1 (by repeat' (first | (with_reducible assumption) | (simp; done) | (simp [go_sem]; done) | with_reducible apply keptD | with_reducible apply keptA))
  have m1_3 : w1.cell? ⟨w.heap.size, 3, none⟩ = some (.int .i64 off) := kept lb1 (by repeat' (first | (with_reducible assumption) | (simp; done) | (simp [go_sem]; done) | with_reducible apply keptD | with_reducible apply keptA))
  have m1_4 : w1.cell? ⟨w.heap.size, 4, none⟩ = some (.int .i64 up) := kept lb1 (by repeat' (first | (with_reducible assumption) | (simp; done) | (simp [go_sem]; done) | with_reducible apply keptD | with_reducible apply keptA))
  have m1_5 : w1.cell? ⟨w.heap.size, 5, none⟩ = some (.int .u32 mk) := kept lb1 (by repeat' (first | (with_reducible assumption) | (simp; done) | (simp [go_sem]; done) | with_reducible apply keptD | with_reducible apply keptA))
  have m1_6 : w1.cell? ⟨w.heap.size + 1, 0, none⟩ = some (.int .i64 tw) := kept lb1 (by repeat' (first | (with_reducible assumption) | (simp; done) | (simp [go_sem]; done) | with_reducible apply keptD | with_reducible apply keptA))
  have m1_7 : w1.cell? ⟨w.heap.size + 1, 1, none⟩ = some (.int .u32 tt) := kept lb1 (by repeat' (first | (with_reducible assumption) | (simp; done) | (simp [go_sem]; done) | with_reducible apply keptD | with_reducible apply keptA))
  have m1_8 : w1.cell? ⟨w.heap.size + 1, 2, none⟩ = some (.int .u32 tm) := kept lb1 (by repeat' (first | (with_reducible assumption) | (simp; done) | (simp [go_sem]; done) | with_reducible apply keptD | with_reducible apply keptA))
  have m1_9 : w1.cell? ⟨w.heap.size + 1 + 1, 0, none⟩ = some (.int .i64 0) := kept lb1 (by repeat' (first | (with_reducible assumption) | (simp; done) | (simp [go_sem]; done) | with_reducible apply keptD | with_reducible apply keptA))
  have m1_10 : w1.cell? ⟨w.heap.size + 1 + 1, 1, none⟩ = some (.int .u32 0) := kept lb1 (by repeat' (first | (with_reducible assumption) | (simp; done) | (simp [go_sem]; done) | with_reducible apply keptD | with_reducible apply keptA))
  have m1_11 : w1.cell? ⟨w.heap.size + 1 + 1, 2, none⟩ = some (.int .u32 0) := kept lb1 (by repeat' (first | (with_reducible assumption) | (simp; done) | (simp [go_sem]; done) | with_reducible apply keptD | with_reducible apply keptA))
  have m1_12 : w1.cell? ⟨w.heap.size + 1 + 1 + 1, 0, none⟩ = some (.int .i64 0) := kept lb1 (by repeat' (first | (with_reducible assumption) | (simp; done) | (simp [go_sem]; done) | with_reducible apply keptD | with_reducible apply keptA))
  have m1_13 : w1.cell? ⟨w.heap.size + 1 + 1 + 1, 1, none⟩ = some (.int .u32 0) := kept lb1 (by repeat' (first | (with_reducible assumption) | (simp; done) | (simp [go_sem]; done) | with_reducible apply keptD | with_reducible apply keptA))
  have m1_14 : w1.cell? ⟨w.heap.size + 1 + 1 + 1, 2, none⟩ = some (.int .u32 0) := kept lb1 (by repeat' (first | (with_reducible assumption) | (simp; done) | (simp [go_sem]; done) | with_reducible apply keptD | with_reducible apply keptA))
  have m1_15 : w1.cell? ⟨w.heap.size + 1 + 1 + 1, 3, none⟩ = some (.int .i64 0) := kept lb1 (by repeat' (first | (with_reducible assumption) | (simp; done) | (simp [go_sem]; done) | with_reducible apply keptD | with_reducible apply keptA))
  have m1_16 : w1.cell? ⟨w.heap.size + 1 + 1 + 1, 4, none⟩ = some (.int .i64 0) := kept lb1 (by repeat' (first | (with_reducible assumption) | (simp; done) | (simp [go_sem]; done) | with_reducible apply keptD | with_reducible apply keptA))
  have m1_17 : w1.cell? ⟨w.heap.size + 1 + 1 + 1, 5, none⟩ = some (.int .u32 0) := kept lb1 (by repeat' (first | (with_reducible assumption) | (simp; done) | (simp [go_sem]; done) | with_reducible apply keptD | with_reducible apply keptA))
  have m1_18 : w1.cell? ⟨w.heap.size + 1 + 1 + 1 + 1, 0, none⟩ = some (.int .i64 ph) := kept lb1 (by repeat' (first | (with_reducible assumption) | (simp; done) | (simp [go_sem]; done) | with_reducible apply keptD | with_reducible apply keptA))
  have m1_19 : w1.cell? ⟨w.heap.size + 1 + 1 + 1 + 1, 1, none⟩ = some (.int .u32 0) := kept lb1 (by repeat' (first | (with_reducible assumption) | (simp; done) | (simp [go_sem]; done) | with_reducible apply keptD | with_reducible apply keptA))
  have m1_20 : w1.cell? ⟨w.heap.size + 1 + 1 + 1 + 1, 2, none⟩ = some (.int .u32 0) := kept lb1 (by repeat' (first | (with_reducible assumption) | (simp; done) | (simp [go_sem]; done) | with_reducible apply keptD | with_reducible apply keptA))
  have s1_0 : w.heap.size < w1.heap.size := by omega
  have s1_1 : w.heap.size + 1 < w1.heap.size := by omega
  have s1_2 : w.heap.size + 1 + 1 < w1.heap.size := by omega
  have s1_3 : w.heap.size + 1 + 1 + 1 < w1.heap.size := by omega
  have s1_4 : w.heap.size + 1 + 1 + 1 + 1 < w1.heap.size := by omega
  have z1_0 : w1.frozen? ⟨w.heap.size, 0, none⟩ = false := keptF lb1 (by first | (simp; done) | (simp; omega)) (by first | (simp; done) | (simp [go_sem]; done))
  have z1_1 : w1.frozen? ⟨w.heap.size, 1, none⟩ = false := keptF lb1 (by first | (simp; done) | (simp; omega)) (by first | (simp; done) | (simp [go_sem]; done))
  have z1_2 : w1.frozen? ⟨w.heap.size, 2, none⟩ = false := keptF lb1 (by first | (simp; done) | (simp; omega)) (by first | (simp; done) | (simp [go_sem]; done))
  have z1_3 : w1.frozen? ⟨w.heap.size + 1 + 1, 0, none⟩ = false := keptF lb1 (by first | (simp; done) | (simp; omega)) (by first | (simp; done) | (simp [go_sem]; done))
  have z1_4 : w1.frozen? ⟨w.heap.size + 1 + 1, 1, none⟩ = false := keptF lb1 (by first | (simp; done) | (simp; omega)) (by first | (simp; done) | (simp [go_sem]; done))
  have z1_5 : w1.frozen? ⟨w.heap.size + 1 + 1, 2, none⟩ = false := keptF lb1 (by first | (simp; done) | (simp; omega)) (by first | (simp; done) | (simp [go_sem]; done))
  have z1_6 : w1.frozen? ⟨w.heap.size + 1 + 1 + 1, 0, none⟩ = false := keptF lb1 (by first | (simp; done) | (simp; omega)) (by first | (simp; done) | (simp [go_sem]; done))
  have z1_7 : w1.frozen? ⟨w.heap.size + 1 + 1 + 1, 1, none⟩ = false := keptF lb1 (by first | (simp; done) | (simp; omega)) (by first | (simp; done) | (simp [go_sem]; done))
  have z1_8 : w1.frozen? ⟨w.heap.size + 1 + 1 + 1, 2, none⟩ = false := keptF lb1 (by first | (simp; done) | (simp; omega)) (by first | (simp; done) | (simp [go_sem]; done))
  have z1_9 : w1.frozen? ⟨w.heap.size + 1 + 1 + 1, 3, none⟩ = false := keptF lb1 (by first | (simp; done) | (simp; omega)) (by first | (simp; done) | (simp [go_sem]; done))
  have z1_10 : w1.frozen? ⟨w.heap.size + 1 + 1 + 1, 4, none⟩ = false := keptF lb1 (by first | (simp; done) | (simp; omega)) (by first | (simp; done) | (simp [go_sem]; done))
  have z1_11 : w1.frozen? ⟨w.heap.size + 1 + 1 + 1, 5, none⟩ = false := keptF lb1 (by first | (simp; done) | (simp; omega)) (by first | (simp; done) | (simp [go_sem]; done))
  have z1_12 : w1.frozen? ⟨w.heap.size + 1 + 1 + 1 + 1, 0, none⟩ = false := keptF lb1 (by first | (simp; done) | (simp; omega)) (by first | (simp; done) | (simp [go_sem]; done))
  have z1_13 : w1.frozen? ⟨w.heap.size + 1 + 1 + 1 + 1, 1, none⟩ = false := keptF lb1 (by first | (simp; done) | (simp; omega)) (by first | (simp; done) | (simp [go_sem]; done))
  have z1_14 : w1.frozen? ⟨w.heap.size + 1 + 1 + 1 + 1, 2, none⟩ = false := keptF lb1 (by first | (simp; done) | (simp; omega)) (by first | (simp; done) | (simp [go_sem]; done))
  clear lb1
  go_wp2
  go_region
  all_goals generalize hW : (World.setCell _ _ _ : World) = W'
  all_goals have r0 : W'.cell? ⟨w.heap.size + 1 + 1, 0, none⟩ = some (.int .i64 0) := by rw [← hW]; (repeat' (first | (with_reducible assumption) | (with_reducible apply cellS) | ((with_reducible refine cellO ?_ ?_); focus (first | (intro hh; simp at hh; done) | (intro hh; simp at hh; omega))) | (with_reducible apply cellN) | (with_reducible apply keptA) | (with_reducible apply isS) | (with_reducible apply isN) | (with_reducible apply isA) | (with_reducible apply isOf; with_reducible assumption)))
  all_goals have r1 : W'.cell? ⟨w.heap.size + 1 + 1, 1, none⟩ = some (.int .u32 0) := by rw [← hW]; (repeat' (first | (with_reducible assumption) | (with_reducible apply cellS) | ((with_reducible refine cellO ?_ ?_); focus (first | (intro hh; simp at hh; done) | (intro hh; simp at hh; omega))) | (with_reducible apply cellN) | (with_reducible apply keptA) | (with_reducible apply isS) | (with_reducible apply isN) | (with_reducible apply isA) | (with_reducible apply isOf; with_reducible assumption)))
  all_goals have r2 : W'.cell? ⟨w.heap.size + 1 + 1, 2, none⟩ = some (.int .u32 0) := by rw [← hW]; (repeat' (first | (with_reducible assumption) | (with_reducible apply cellS) | ((with_reducible refine cellO ?_ ?_); focus (first | (intro hh; simp at hh; done) | (intro hh; simp at hh; omega))) | (with_reducible apply cellN) | (with_reducible apply keptA) | (with_reducible apply isS) | (with_reducible apply isN) | (with_reducible apply isA) | (with_reducible apply isOf; with_reducible assumption)))
  all_goals have r3 : W'.cell? ⟨w.heap.size + 1 + 1 + 1, 0, none⟩ = some (.int .i64 lw) := by rw [← hW]; (repeat' (first | (with_reducible assumption) | (with_reducible apply cellS) | ((with_reducible refine cellO ?_ ?_); focus (first | (intro hh; simp at hh; done) | (intro hh; simp at hh; omega))) | (with_reducible apply cellN) | (with_reducible apply keptA) | (with_reducible apply isS) | (with_reducible apply isN) | (with_reducible apply isA) | (with_reducible apply isOf; with_reducible assumption)))
  all_goals have r4 : W'.cell? ⟨w.heap.size + 1 + 1 + 1, 1, none⟩ = some (.int .u32 lt) := by rw [← hW]; (repeat' (first | (with_reducible assumption) | (with_reducible apply cellS) | ((with_reducible refine cellO ?_ ?_); focus (first | (intro hh; simp at hh; done) | (intro hh; simp at hh; omega))) | (with_reducible apply cellN) | (with_reducible apply keptA) | (with_reducible apply isS) | (with_reducible apply isN) | (with_reducible apply isA) | (with_reducible apply isOf; with_reducible assumption)))
  all_goals have r5 : W'.cell? ⟨w.heap.size + 1 + 1 + 1, 2, none⟩ = some (.int .u32 0) := by rw [← hW]; (repeat' (first | (with_reducible assumption) | (with_reducible apply cellS) | ((with_reducible refine cellO ?_ ?_); focus (first | (intro hh; simp at hh; done) | (intro hh; simp at hh; omega))) | (with_reducible apply cellN) | (with_reducible apply keptA) | (with_reducible apply isS) | (with_reducible apply isN) | (with_reducible apply isA) | (with_reducible apply isOf; with_reducible assumption)))
  all_goals have r6 : W'.cell? ⟨w.heap.size + 1 + 1 + 1, 3, none⟩ = some (.int .i64 off) := by rw [← hW]; (repeat' (first | (with_reducible assumption) | (with_reducible apply cellS) | ((with_reducible refine cellO ?_ ?_); focus (first | (intro hh; simp at hh; done) | (intro hh; simp at hh; omega))) | (with_reducible apply cellN) | (with_reducible apply keptA) | (with_reducible apply isS) | (with_reducible apply isN) | (with_reducible apply isA) | (with_reducible apply isOf; with_reducible assumption)))
  all_goals have r7 : W'.cell? ⟨w.heap.size + 1 + 1 + 1, 4, none⟩ = some (.int .i64 up) := by rw [← hW]; (repeat' (first | (with_reducible assumption) | (with_reducible apply cellS) | ((with_reducible refine cellO ?_ ?_); focus (first | (intro hh; simp at hh; done) | (intro hh; simp at hh; omega))) | (with_reducible apply cellN) | (with_reducible apply keptA) | (with_reducible apply isS) | (with_reducible apply isN) | (with_reducible apply isA) | (with_reducible apply isOf; with_reducible assumption)))
  all_goals have r8 : W'.cell? ⟨w.heap.size + 1 + 1 + 1, 5, none⟩ = some (.int .u32 mk) := by rw [← hW]; (repeat' (first | (with_reducible assumption) | (with_reducible apply cellS) | ((with_reducible refine cellO ?_ ?_); focus (first | (intro hh; simp at hh; done) | (intro hh; simp at hh; omega))) | (with_reducible apply cellN) | (with_reducible apply keptA) | (with_reducible apply isS) | (with_reducible apply isN) | (with_reducible apply isA) | (with_reducible apply isOf; with_reducible assumption)))
  all_goals have q0 : w.heap.size < W'.heap.size := by rw [← hW]; simp; omega
  all_goals have q1 : w.heap.size + 1 < W'.heap.size := by rw [← hW]; simp; omega
  all_goals have q2 : w.heap.size + 1 + 1 < W'.heap.size := by rw [← hW]; simp; omega
  all_goals have q3 : w.heap.size + 1 + 1 + 1 < W'.heap.size := by rw [← hW]; simp; omega
  all_goals have rB : Below w.heap.size w W' := by rw [← hW]; go_grown
  all_goals clear hW
  all_goals go_wp2
  all_goals exact bodyPost_ret (v := .tuple #[.agg #[.int .i64 0, .int .u32 0, .int .u32 0], .int .i64 22, .agg #[.int .i64 lw, .int .u32 lt, .int .u32 0, .int .i64 off, .int .i64 up, .int .u32 mk]]) (by simp [results, Try.results38, go_sem, r0, r1, r2, r3, r4, r5, r6, r7, r8, q0, q1, q2, q3]) rfl ⟨rfl, by go_grown⟩

set_option maxHeartbeats 2000000 in
theorem rnx_yes (off up mk lw lt ph tw tt tm : Int) (ht0 : 0 ≤ tt) (ht1 : tt ≤ 4294967295) (w : World) (h : ph ≤ tw) (hE : nxE tw tt = 0) (hu : nxA tw tt ≤ up) :
    Calls Try.prog 38 #[.agg #[.int .i64 lw, .int .u32 lt, .int .u32 0, .int .i64 off, .int .i64 up, .int .u32 mk], .int .i64 ph, .agg #[.int .i64 tw, .int .u32 tt, .int .u32 tm]] w fun e w' => e = .returned (.tuple #[.agg #[.int .i64 (nxA tw tt), .int .u32 (nxB tw tt), .int .u32 mk], .int .i64 0, .agg #[.int .i64 (nxA tw tt), .int .u32 (nxB tw tt), .int .u32 0, .int .i64 off, .int .i64 up, .int .u32 mk]]) ∧ Below w.heap.size w w' := by
  go_enter Try.func38, Try.ntmps38
  go_wp2_with fail
  refine (rnext_any tw tt tm ht0 ht1 _).mono ?_
  rintro e w1 ⟨rfl, lb1⟩
  have lz1 := lb1.size
  (try simp at lz1)
  have lB1 : Below w.heap.size w w1 := via lb1 (by go_grown) (by go_size)
  have m1_0 : w1.cell? ⟨w.heap.size, 0, none⟩ = some (.int .i64 lw) := kept lb1 (by repeat' (first | (with_reducible assumption) | (simp; done) | (simp [go_sem]; done) | with_reducible apply keptD | with_reducible apply keptA))
  have m1_1 : w1.cell? ⟨w.heap.size, 1, none⟩ = some (.int .u32 lt) := kept lb1 (by repeat' (first | (with_reducible assumption) | (simp; done) | (simp [go_sem]; done) | with_reducible apply keptD | with_reducible apply keptA))
  have m1_2 : w1.cell? ⟨w.heap.size, 2, none⟩ = some (.int .u32 0) := kept lb1 (by repeat' (first | (with_reducible assumption) | (simp; done) | (simp [go_sem]; done) | with_reducible apply keptD | with_reducible apply keptA))
  have m1_3 : w1.cell? ⟨w.heap.size, 3, none⟩ = some (.int .i64 off) := kept lb1 (by repeat' (first | (with_reducible assumption) | (simp; done) | (simp [go_sem]; done) | with_reducible apply keptD | with_reducible apply keptA))
  have m1_4 : w1.cell? ⟨w.heap.size, 4, none⟩ = some (.int .i64 up) := kept lb1 (by repeat' (first | (with_reducible assumption) | (simp; done) | (simp [go_sem]; done) | with_reducible apply keptD | with_reducible apply keptA))
  have m1_5 : w1.cell? ⟨w.heap.size, 5, none⟩ = some (.int .u32 mk) := kept lb1 (by repeat' (first | (with_reducible assumption) | (simp; done) | (simp [go_sem]; done) | with_reducible apply keptD | with_reducible apply keptA))
  have m1_6 : w1.cell? ⟨w.heap.size + 1, 0, none⟩ = some (.int .i64 tw) := kept lb1 (by repeat' (first | (with_reducible assumption) | (simp; done) | (simp [go_sem]; done) | with_reducible apply keptD | with_reducible apply keptA))
  have m1_7 : w1.cell? ⟨w.heap.size + 1, 1, none⟩ = some (.int .u32 tt) := kept lb1 (by repeat' (first | (with_reducible assumption) | (simp; done) | (simp [go_sem]; done) | with_reducible apply keptD | with_reducible apply keptA))
  have m1_8 : w1.cell? ⟨w.heap.size + 1, 2, none⟩ = some (.int .u32 tm) := kept lb1 (by repeat' (first | (with_reducible assumption) | (simp; done) | (simp [go_sem]; done) | with_reducible apply keptD | with_reducible apply keptA))
  have m1_9 : w1.cell? ⟨w.heap.size + 1 + 1, 0, none⟩ = some (.int .i64 0) := kept lb1 (by repeat' (first | (with_reducible assumption) | (simp; done) | (simp [go_sem]; done) | with_reducible apply keptD | with_reducible apply keptA))
  have m1_10 : w1.cell? ⟨w.heap.size + 1 + 1, 1, none⟩ = some (.int .u32 0) := kept lb1 (by repeat' (first | (with_reducible assumption) | (simp; done) | (simp [go_sem]; done) | with_reducible apply keptD | with_reducible apply keptA))
  have m1_11 : w1.cell? ⟨w.heap.size + 1 + 1, 2, none⟩ = some (.int .u32 0) := kept lb1 (by repeat' (first | (with_reducible assumption) | (simp; done) | (simp [go_sem]; done) | with_reducible apply keptD | with_reducible apply keptA))
  have m1_12 : w1.cell? ⟨w.heap.size + 1 + 1 + 1, 0, none⟩ = some (.int .i64 0) := kept lb1 (by repeat' (first | (with_reducible assumption) | (simp; done) | (simp [go_sem]; done) | with_reducible apply keptD | with_reducible apply keptA))
  have m1_13 : w1.cell? ⟨w.heap.size + 1 + 1 + 1, 1, none⟩ = some (.int .u32 0) := kept lb1 (by repeat' (first | (with_reducible assumption) | (simp; done) | (simp [go_sem]; done) | with_reducible apply keptD | with_reducible apply keptA))
  have m1_14 : w1.cell? ⟨w.heap.size + 1 + 1 + 1, 2, none⟩ = some (.int .u32 0) := kept lb1 (by repeat' (first | (with_reducible assumption) | (simp; done) | (simp [go_sem]; done) | with_reducible apply keptD | with_reducible apply keptA))
  have m1_15 : w1.cell? ⟨w.heap.size + 1 + 1 + 1, 3, none⟩ = some (.int .i64 0) := kept lb1 (by repeat' (first | (with_reducible assumption) | (simp; done) | (simp [go_sem]; done) | with_reducible apply keptD | with_reducible apply keptA))
  have m1_16 : w1.cell? ⟨w.heap.size + 1 + 1 + 1, 4, none⟩ = some (.int .i64 0) := kept lb1 (by repeat' (first | (with_reducible assumption) | (simp; done) | (simp [go_sem]; done) | with_reducible apply keptD | with_reducible apply keptA))
  have m1_17 : w1.cell? ⟨w.heap.size + 1 + 1 + 1, 5, none⟩ = some (.int .u32 0) := kept lb1 (by repeat' (first | (with_reducible assumption) | (simp; done) | (simp [go_sem]; done) | with_reducible apply keptD | with_reducible apply keptA))
  have m1_18 : w1.cell? ⟨w.heap.size + 1 + 1 + 1 + 1, 0, none⟩ = some (.int .i64 ph) := kept lb1 (by repeat' (first | (with_reducible assumption) | (simp; done) | (simp [go_sem]; done) | with_reducible apply keptD | with_reducible apply keptA))
  have m1_19 : w1.cell? ⟨w.heap.size + 1 + 1 + 1 + 1, 1, none⟩ = some (.int .u32 0) := kept lb1 (by repeat' (first | (with_reducible assumption) | (simp; done) | (simp [go_sem]; done) | with_reducible apply keptD | with_reducible apply keptA))
  have m1_20 : w1.cell? ⟨w.heap.size + 1 + 1 + 1 + 1, 2, none⟩ = some (.int .u32 0) := kept lb1 (by repeat' (first | (with_reducible assumption) | (simp; done) | (simp [go_sem]; done) | with_reducible apply keptD | with_reducible apply keptA))
  have s1_0 : w.heap.size < w1.heap.size := by omega
  have s1_1 : w.heap.size + 1 < w1.heap.size := by omega
  have s1_2 : w.heap.size + 1 + 1 < w1.heap.size := by omega
  have s1_3 : w.heap.size + 1 + 1 + 1 < w1.heap.size := by omega
  have s1_4 : w.heap.size + 1 + 1 + 1 + 1 < w1.heap.size := by omega
  have z1_0 : w1.frozen? ⟨w.heap.size, 0, none⟩ = false := keptF lb1 (by first | (simp; done) | (simp; omega)) (by first | (simp; done) | (simp [go_sem]; done))
  have z1_1 : w1.frozen? ⟨w.heap.size, 1, none⟩ = false := keptF lb1 (by first | (simp; done) | (simp; omega)) (by first | (simp; done) | (simp [go_sem]; done))
  have z1_2 : w1.frozen? ⟨w.heap.size, 2, none⟩ = false := keptF lb1 (by first | (simp; done) | (simp; omega)) (by first | (simp; done) | (simp [go_sem]; done))
  have z1_3 : w1.frozen? ⟨w.heap.size + 1 + 1, 0, none⟩ = false := keptF lb1 (by first | (simp; done) | (simp; omega)) (by first | (simp; done) | (simp [go_sem]; done))
  have z1_4 : w1.frozen? ⟨w.heap.size + 1 + 1, 1, none⟩ = false := keptF lb1 (by first | (simp; done) | (simp; omega)) (by first | (simp; done) | (simp [go_sem]; done))
  have z1_5 : w1.frozen? ⟨w.heap.size + 1 + 1, 2, none⟩ = false := keptF lb1 (by first | (simp; done) | (simp; omega)) (by first | (simp; done) | (simp [go_sem]; done))
  have z1_6 : w1.frozen? ⟨w.heap.size + 1 + 1 + 1, 0, none⟩ = false := keptF lb1 (by first | (simp; done) | (simp; omega)) (by first | (simp; done) | (simp [go_sem]; done))
  have z1_7 : w1.frozen? ⟨w.heap.size + 1 + 1 + 1, 1, none⟩ = false := keptF lb1 (by first | (simp; done) | (simp; omega)) (by first | (simp; done) | (simp [go_sem]; done))
  have z1_8 : w1.frozen? ⟨w.heap.size + 1 + 1 + 1, 2, none⟩ = false := keptF lb1 (by first | (simp; done) | (simp; omega)) (by first | (simp; done) | (simp [go_sem]; done))
  have z1_9 : w1.frozen? ⟨w.heap.size + 1 + 1 + 1, 3, none⟩ = false := keptF lb1 (by first | (simp; done) | (simp; omega)) (by first | (simp; done) | (simp [go_sem]; done))
  have z1_10 : w1.frozen? ⟨w.heap.size + 1 + 1 + 1, 4, none⟩ = false := keptF lb1 (by first | (simp; done) | (simp; omega)) (by first | (simp; done) | (simp [go_sem]; done))
  have z1_11 : w1.frozen? ⟨w.heap.size + 1 + 1 + 1, 5, none⟩ = false := keptF lb1 (by first | (simp; done) | (simp; omega)) (by first | (simp; done) | (simp [go_sem]; done))
  have z1_12 : w1.frozen? ⟨w.heap.size + 1 + 1 + 1 + 1, 0, none⟩ = false := keptF lb1 (by first | (simp; done) | (simp; omega)) (by first | (simp; done) | (simp [go_sem]; done))
  have z1_13 : w1.frozen? ⟨w.heap.size + 1 + 1 + 1 + 1, 1, none⟩ = false := keptF lb1 (by first | (simp; done) | (simp; omega)) (by first | (simp; done) | (simp [go_sem]; done))
  have z1_14 : w1.frozen? ⟨w.heap.size + 1 + 1 + 1 + 1, 2, none⟩ = false := keptF lb1 (by first | (simp; done) | (simp; omega)) (by first | (simp; done) | (simp [go_sem]; done))
  clear lb1
  go_wp2
  generalize hV : (World.setCell _ _ _ : World) = V
  have v0 : V.cell? ⟨w.heap.size, 0, none⟩ = some (.int .i64 (nxA tw tt)) := by rw [← hV]; (repeat' (first | (with_reducible assumption) | (with_reducible apply cellS) | ((with_reducible refine cellO ?_ ?_); focus (first | (intro hh; simp at hh; done) | (intro hh; simp at hh; omega))) | (with_reducible apply cellN) | (with_reducible apply keptA) | (with_reducible apply isS) | (with_reducible apply isN) | (with_reducible apply isA) | (with_reducible apply isOf; with_reducible assumption)))
  have v1 : V.cell? ⟨w.heap.size, 1, none⟩ = some (.int .u32 (nxB tw tt)) := by rw [← hV]; (repeat' (first | (with_reducible assumption) | (with_reducible apply cellS) | ((with_reducible refine cellO ?_ ?_); focus (first | (intro hh; simp at hh; done) | (intro hh; simp at hh; omega))) | (with_reducible apply cellN) | (with_reducible apply keptA) | (with_reducible apply isS) | (with_reducible apply isN) | (with_reducible apply isA) | (with_reducible apply isOf; with_reducible assumption)))
  have v2 : V.cell? ⟨w.heap.size, 2, none⟩ = some (.int .u32 0) := by rw [← hV]; (repeat' (first | (with_reducible assumption) | (with_reducible apply cellS) | ((with_reducible refine cellO ?_ ?_); focus (first | (intro hh; simp at hh; done) | (intro hh; simp at hh; omega))) | (with_reducible apply cellN) | (with_reducible apply keptA) | (with_reducible apply isS) | (with_reducible apply isN) | (with_reducible apply isA) | (with_reducible apply isOf; with_reducible assumption)))
  have v3 : V.cell? ⟨w.heap.size, 3, none⟩ = some (.int .i64 off) := by rw [← hV]; (repeat' (first | (with_reducible assumption) | (with_reducible apply cellS) | ((with_reducible refine cellO ?_ ?_); focus (first | (intro hh; simp at hh; done) | (intro hh; simp at hh; omega))) | (with_reducible apply cellN) | (with_reducible apply keptA) | (with_reducible apply isS) | (with_reducible apply isN) | (with_reducible apply isA) | (with_reducible apply isOf; with_reducible assumption)))
  have v4 : V.cell? ⟨w.heap.size, 4, none⟩ = some (.int .i64 up) := by rw [← hV]; (repeat' (first | (with_reducible assumption) | (with_reducible apply cellS) | ((with_reducible refine cellO ?_ ?_); focus (first | (intro hh; simp at hh; done) | (intro hh; simp at hh; omega))) | (with_reducible apply cellN) | (with_reducible apply keptA) | (with_reducible apply isS) | (with_reducible apply isN) | (with_reducible apply isA) | (with_reducible apply isOf; with_reducible assumption)))
  have v5 : V.cell? ⟨w.heap.size, 5, none⟩ = some (.int .u32 mk) := by rw [← hV]; (repeat' (first | (with_reducible assumption) | (with_reducible apply cellS) | ((with_reducible refine cellO ?_ ?_); focus (first | (intro hh; simp at hh; done) | (intro hh; simp at hh; omega))) | (with_reducible apply cellN) | (with_reducible apply keptA) | (with_reducible apply isS) | (with_reducible apply isN) | (with_reducible apply isA) | (with_reducible apply isOf; with_reducible assumption)))
  have v6 : V.cell? ⟨w.heap.size + 1 + 1, 0, none⟩ = some (.int .i64 0) := by rw [← hV]; (repeat' (first | (with_reducible assumption) | (with_reducible apply cellS) | ((with_reducible refine cellO ?_ ?_); focus (first | (intro hh; simp at hh; done) | (intro hh; simp at hh; omega))) | (with_reducible apply cellN) | (with_reducible apply keptA) | (with_reducible apply isS) | (with_reducible apply isN) | (with_reducible apply isA) | (with_reducible apply isOf; with_reducible assumption)))
  have v7 : V.cell? ⟨w.heap.size + 1 + 1, 1, none⟩ = some (.int .u32 0) := by rw [← hV]; (repeat' (first | (with_reducible assumption) | (with_reducible apply cellS) | ((with_reducible refine cellO ?_ ?_); focus (first | (intro hh; simp at hh; done) | (intro hh; simp at hh; omega))) | (with_reducible apply cellN) | (with_reducible apply keptA) | (with_reducible apply isS) | (with_reducible apply isN) | (with_reducible apply isA) | (with_reducible apply isOf; with_reducible assumption)))
  have v8 : V.cell? ⟨w.heap.size + 1 + 1, 2, none⟩ = some (.int .u32 0) := by rw [← hV]; (repeat' (first | (with_reducible assumption) | (with_reducible apply cellS) | ((with_reducible refine cellO ?_ ?_); focus (first | (intro hh; simp at hh; done) | (intro hh; simp at hh; omega))) | (with_reducible apply cellN) | (with_reducible apply keptA) | (with_reducible apply isS) | (with_reducible apply isN) | (with_reducible apply isA) | (with_reducible apply isOf; with_reducible assumption)))
  have v9 : V.cell? ⟨w.heap.size + 1 + 1 + 1, 0, none⟩ = some (.int .i64 0) := by rw [← hV]; (repeat' (first | (with_reducible assumption) | (with_reducible apply cellS) | ((with_reducible refine cellO ?_ ?_); focus (first | (intro hh; simp at hh; done) | (intro hh; simp at hh; omega))) | (with_reducible apply cellN) | (with_reducible apply keptA) | (with_reducible apply isS) | (with_reducible apply isN) | (with_reducible apply isA) | (with_reducible apply isOf; with_reducible assumption)))
  have v10 : V.cell? ⟨w.heap.size + 1 + 1 + 1, 1, none⟩ = some (.int .u32 0) := by rw [← hV]; (repeat' (first | (with_reducible assumption) | (with_reducible apply cellS) | ((with_reducible refine cellO ?_ ?_); focus (first | (intro hh; simp at hh; done) | (intro hh; simp at hh; omega))) | (with_reducible apply cellN) | (with_reducible apply keptA) | (with_reducible apply isS) | (with_reducible apply isN) | (with_reducible apply isA) | (with_reducible apply isOf; with_reducible assumption)))
  have v11 : V.cell? ⟨w.heap.size + 1 + 1 + 1, 2, none⟩ = some (.int .u32 0) := by rw [← hV]; (repeat' (first | (with_reducible assumption) | (with_reducible apply cellS) | ((with_reducible refine cellO ?_ ?_); focus (first | (intro hh; simp at hh; done) | (intro hh; simp at hh; omega))) | (with_reducible apply cellN) | (with_reducible apply keptA) | (with_reducible apply isS) | (with_reducible apply isN) | (with_reducible apply isA) | (with_reducible apply isOf; with_reducible assumption)))
  have v12 : V.cell? ⟨w.heap.size + 1 + 1 + 1, 3, none⟩ = some (.int .i64 0) := by rw [← hV]; (repeat' (first | (with_reducible assumption) | (with_reducible apply cellS) | ((with_reducible refine cellO ?_ ?_); focus (first | (intro hh; simp at hh; done) | (intro hh; simp at hh; omega))) | (with_reducible apply cellN) | (with_reducible apply keptA) | (with_reducible apply isS) | (with_reducible apply isN) | (with_reducible apply isA) | (with_reducible apply isOf; with_reducible assumption)))
  have v13 : V.cell? ⟨w.heap.size + 1 + 1 + 1, 4, none⟩ = some (.int .i64 0) := by rw [← hV]; (repeat' (first | (with_reducible assumption) | (with_reducible apply cellS) | ((with_reducible refine cellO ?_ ?_); focus (first | (intro hh; simp at hh; done) | (intro hh; simp at hh; omega))) | (with_reducible apply cellN) | (with_reducible apply keptA) | (with_reducible apply isS) | (with_reducible apply isN) | (with_reducible apply isA) | (with_reducible apply isOf; with_reducible assumption)))
  have v14 : V.cell? ⟨w.heap.size + 1 + 1 + 1, 5, none⟩ = some (.int .u32 0) := by rw [← hV]; (repeat' (first | (with_reducible assumption) | (with_reducible apply cellS) | ((with_reducible refine cellO ?_ ?_); focus (first | (intro hh; simp at hh; done) | (intro hh; simp at hh; omega))) | (with_reducible apply cellN) | (with_reducible apply keptA) | (with_reducible apply isS) | (with_reducible apply isN) | (with_reducible apply isA) | (with_reducible apply isOf; with_reducible assumption)))
  have v15 : V.cell? ⟨w.heap.size + 1 + 1 + 1 + 1, 0, none⟩ = some (.int .i64 (nxA tw tt)) := by rw [← hV]; (repeat' (first | (with_reducible assumption) | (with_reducible apply cellS) | ((with_reducible refine cellO ?_ ?_); focus (first | (intro hh; simp at hh; done) | (intro hh; simp at hh; omega))) | (with_reducible apply cellN) | (with_reducible apply keptA) | (with_reducible apply isS) | (with_reducible apply isN) | (with_reducible apply isA) | (with_reducible apply isOf; with_reducible assumption)))
  have v16 : V.cell? ⟨w.heap.size + 1 + 1 + 1 + 1, 1, none⟩ = some (.int .u32 (nxB tw tt)) := by rw [← hV]; (repeat' (first | (with_reducible assumption) | (with_reducible apply cellS) | ((with_reducible refine cellO ?_ ?_); focus (first | (intro hh; simp at hh; done) | (intro hh; simp at hh; omega))) | (with_reducible apply cellN) | (with_reducible apply keptA) | (with_reducible apply isS) | (with_reducible apply isN) | (with_reducible apply isA) | (with_reducible apply isOf; with_reducible assumption)))
  have v17 : V.cell? ⟨w.heap.size + 1 + 1 + 1 + 1, 2, none⟩ = some (.int .u32 mk) := by rw [← hV]; (repeat' (first | (with_reducible assumption) | (with_reducible apply cellS) | ((with_reducible refine cellO ?_ ?_); focus (first | (intro hh; simp at hh; done) | (intro hh; simp at hh; omega))) | (with_reducible apply cellN) | (with_reducible apply keptA) | (with_reducible apply isS) | (with_reducible apply isN) | (with_reducible apply isA) | (with_reducible apply isOf; with_reducible assumption)))
  have vf0 : V.frozen? ⟨w.heap.size + 1 + 1, 0, none⟩ = false := by rw [← hV]; (repeat' (first | (with_reducible assumption) | (with_reducible apply frS) | (with_reducible apply frN)))
  have vf1 : V.frozen? ⟨w.heap.size + 1 + 1, 1, none⟩ = false := by rw [← hV]; (repeat' (first | (with_reducible assumption) | (with_reducible apply frS) | (with_reducible apply frN)))
  have vf2 : V.frozen? ⟨w.heap.size + 1 + 1, 2, none⟩ = false := by rw [← hV]; (repeat' (first | (with_reducible assumption) | (with_reducible apply frS) | (with_reducible apply frN)))
  have vf3 : V.frozen? ⟨w.heap.size + 1 + 1 + 1, 0, none⟩ = false := by rw [← hV]; (repeat' (first | (with_reducible assumption) | (with_reducible apply frS) | (with_reducible apply frN)))
  have vf4 : V.frozen? ⟨w.heap.size + 1 + 1 + 1, 1, none⟩ = false := by rw [← hV]; (repeat' (first | (with_reducible assumption) | (with_reducible apply frS) | (with_reducible apply frN)))
  have vf5 : V.frozen? ⟨w.heap.size + 1 + 1 + 1, 2, none⟩ = false := by rw [← hV]; (repeat' (first | (with_reducible assumption) | (with_reducible apply frS) | (with_reducible apply frN)))
  have vf6 : V.frozen? ⟨w.heap.size + 1 + 1 + 1, 3, none⟩ = false := by rw [← hV]; (repeat' (first | (with_reducible assumption) | (with_reducible apply frS) | (with_reducible apply frN)))
  have vf7 : V.frozen? ⟨w.heap.size + 1 + 1 + 1, 4, none⟩ = false := by rw [← hV]; (repeat' (first | (with_reducible assumption) | (with_reducible apply frS) | (with_reducible apply frN)))
  have vf8 : V.frozen? ⟨w.heap.size + 1 + 1 + 1, 5, none⟩ = false := by rw [← hV]; (repeat' (first | (with_reducible assumption) | (with_reducible apply frS) | (with_reducible apply frN)))
  have vs0 : w.heap.size < V.heap.size := by rw [← hV]; simp; omega
  have vs1 : w.heap.size + 1 < V.heap.size := by rw [← hV]; simp; omega
  have vs2 : w.heap.size + 1 + 1 < V.heap.size := by rw [← hV]; simp; omega
  have vs3 : w.heap.size + 1 + 1 + 1 < V.heap.size := by rw [← hV]; simp; omega
  have vs4 : w.heap.size + 1 + 1 + 1 + 1 < V.heap.size := by rw [← hV]; simp; omega
  have vB : Below w.heap.size w V := by rw [← hV]; go_grown
  clear hV
  clear m1_0 m1_1 m1_2 m1_3 m1_4 m1_5 m1_6 m1_7 m1_8 m1_9 m1_10 m1_11 m1_12 m1_13 m1_14 m1_15 m1_16 m1_17 m1_18 m1_19 m1_20 z1_0 z1_1 z1_2 z1_3 z1_4 z1_5 z1_6 z1_7 z1_8 z1_9 z1_10 z1_11 z1_12 z1_13 z1_14
  go_region
  all_goals generalize hW : (World.setCell _ _ _ : World) = W'
  all_goals have r0 : W'.cell? ⟨w.heap.size + 1 + 1, 0, none⟩ = some (.int .i64 (nxA tw tt)) := by rw [← hW]; (repeat' (first | (with_reducible assumption) | (with_reducible apply cellS) | ((with_reducible refine cellO ?_ ?_); focus (first | (intro hh; simp at hh; done) | (intro hh; simp at hh; omega))) | (with_reducible apply cellN) | (with_reducible apply keptA) | (with_reducible apply isS) | (with_reducible apply isN) | (with_reducible apply isA) | (with_reducible apply isOf; with_reducible assumption)))
  all_goals have r1 : W'.cell? ⟨w.heap.size + 1 + 1, 1, none⟩ = some (.int .u32 (nxB tw tt)) := by rw [← hW]; (repeat' (first | (with_reducible assumption) | (with_reducible apply cellS) | ((with_reducible refine cellO ?_ ?_); focus (first | (intro hh; simp at hh; done) | (intro hh; simp at hh; omega))) | (with_reducible apply cellN) | (with_reducible apply keptA) | (with_reducible apply isS) | (with_reducible apply isN) | (with_reducible apply isA) | (with_reducible apply isOf; with_reducible assumption)))
  all_goals have r2 : W'.cell? ⟨w.heap.size + 1 + 1, 2, none⟩ = some (.int .u32 mk) := by rw [← hW]; (repeat' (first | (with_reducible assumption) | (with_reducible apply cellS) | ((with_reducible refine cellO ?_ ?_); focus (first | (intro hh; simp at hh; done) | (intro hh; simp at hh; omega))) | (with_reducible apply cellN) | (with_reducible apply keptA) | (with_reducible apply isS) | (with_reducible apply isN) | (with_reducible apply isA) | (with_reducible apply isOf; with_reducible assumption)))
  all_goals have r3 : W'.cell? ⟨w.heap.size + 1 + 1 + 1, 0, none⟩ = some (.int .i64 (nxA tw tt)) := by rw [← hW]; (repeat' (first | (with_reducible assumption) | (with_reducible apply cellS) | ((with_reducible refine cellO ?_ ?_); focus (first | (intro hh; simp at hh; done) | (intro hh; simp at hh; omega))) | (with_reducible apply cellN) | (with_reducible apply keptA) | (with_reducible apply isS) | (with_reducible apply isN) | (with_reducible apply isA) | (with_reducible apply isOf; with_reducible assumption)))
  all_goals have r4 : W'.cell? ⟨w.heap.size + 1 + 1 + 1, 1, none⟩ = some (.int .u32 (nxB tw tt)) := by rw [← hW]; (repeat' (first | (with_reducible assumption) | (with_reducible apply cellS) | ((with_reducible refine cellO ?_ ?_); focus (first | (intro hh; simp at hh; done) | (intro hh; simp at hh; omega))) | (with_reducible apply cellN) | (with_reducible apply keptA) | (with_reducible apply isS) | (with_reducible apply isN) | (with_reducible apply isA) | (with_reducible apply isOf; with_reducible assumption)))
  all_goals have r5 : W'.cell? ⟨w.heap.size + 1 + 1 + 1, 2, none⟩ = some (.int .u32 0) := by rw [← hW]; (repeat' (first | (with_reducible assumption) | (with_reducible apply cellS) | ((with_reducible refine cellO ?_ ?_); focus (first | (intro hh; simp at hh; done) | (intro hh; simp at hh; omega))) | (with_reducible apply cellN) | (with_reducible apply keptA) | (with_reducible apply isS) | (with_reducible apply isN) | (with_reducible apply isA) | (with_reducible apply isOf; with_reducible assumption)))
  all_goals have r6 : W'.cell? ⟨w.heap.size + 1 + 1 + 1, 3, none⟩ = some (.int .i64 off) := by rw [← hW]; (repeat' (first | (with_reducible assumption) | (with_reducible apply cellS) | ((with_reducible refine cellO ?_ ?_); focus (first | (intro hh; simp at hh; done) | (intro hh; simp at hh; omega))) | (with_reducible apply cellN) | (with_reducible apply keptA) | (with_reducible apply isS) | (with_reducible apply isN) | (with_reducible apply isA) | (with_reducible apply isOf; with_reducible assumption)))
  all_goals have r7 : W'.cell? ⟨w.heap.size + 1 + 1 + 1, 4, none⟩ = some (.int .i64 up) := by rw [← hW]; (repeat' (first | (with_reducible assumption) | (with_reducible apply cellS) | ((with_reducible refine cellO ?_ ?_); focus (first | (intro hh; simp at hh; done) | (intro hh; simp at hh; omega))) | (with_reducible apply cellN) | (with_reducible apply keptA) | (with_reducible apply isS) | (with_reducible apply isN) | (with_reducible apply isA) | (with_reducible apply isOf; with_reducible assumption)))
  all_goals have r8 : W'.cell? ⟨w.heap.size + 1 + 1 + 1, 5, none⟩ = some (.int .u32 mk) := by rw [← hW]; (repeat' (first | (with_reducible assumption) | (with_reducible apply cellS) | ((with_reducible refine cellO ?_ ?_); focus (first | (intro hh; simp at hh; done) | (intro hh; simp at hh; omega))) | (with_reducible apply cellN) | (with_reducible apply keptA) | (with_reducible apply isS) | (with_reducible apply isN) | (with_reducible apply isA) | (with_reducible apply isOf; with_reducible assumption)))
  all_goals have q0 : w.heap.size < W'.heap.size := by rw [← hW]; simp; omega
  all_goals have q1 : w.heap.size + 1 < W'.heap.size := by rw [← hW]; simp; omega
  all_goals have q2 : w.heap.size + 1 + 1 < W'.heap.size := by rw [← hW]; simp; omega
  all_goals have q3 : w.heap.size + 1 + 1 + 1 < W'.heap.size := by rw [← hW]; simp; omega
  all_goals have rB : Below w.heap.size w W' := by rw [← hW]; go_grown
  all_goals clear hW
  all_goals go_wp2
  all_goals exact bodyPost_ret (v := .tuple #[.agg #[.int .i64 (nxA tw tt), .int .u32 (nxB tw tt), .int .u32 mk], .int .i64 0, .agg #[.int .i64 (nxA tw tt), .int .u32 (nxB tw tt), .int .u32 0, .int .i64 off, .int .i64 up, .int .u32 mk]]) (by simp [results, Try.results38, go_sem, r0, r1, r2, r3, r4, r5, r6, r7, r8, q0, q1, q2, q3]) rfl ⟨rfl, by go_grown⟩

end Go.Proofs.Yteibigiehpkdjaa
