/- The contracts of the clock: what Now and Update refuse; Upper. -/
import Derived.Test.YteibigiehpkdjaaUpd
namespace Go.Proofs.Yteibigiehpkdjaa
open Go.RowKit


set_option maxHeartbeats 1500000 in
theorem now_bad (b : Nat) (ph : Int) (w : World) (hr : rightB ph = false) :
    Calls Try.prog 25 #[.pointer (some ⟨b, 0, none⟩), .int .i64 ph] w fun e w' => e = .returned (.tuple #[.agg #[.int .i64 0, .int .u32 0, .int .u32 0], .int .i64 1]) ∧ Below w.heap.size w w' := by
  go_enter Try.func25, Try.ntmps25
  go_wp2_with fail
  refine (isReading_any _ _).mono ?_
  rintro e w0 ⟨rfl, rfl⟩
  go_wp2
  exact bodyPost_ret (v := .tuple #[.agg #[.int .i64 0, .int .u32 0, .int .u32 0], .int .i64 1]) (by simp [results, Try.results25, go_sem]) rfl ⟨rfl, by go_grown⟩

set_option maxHeartbeats 1500000 in
theorem update_bad1 (b : Nat) (ph iw it im : Int) (w : World) (hr : rightB ph = false) :
    Calls Try.prog 27 #[.pointer (some ⟨b, 0, none⟩), .int .i64 ph, .agg #[.int .i64 iw, .int .u32 it, .int .u32 im]] w fun e w' => e = .returned (.tuple #[.agg #[.int .i64 0, .int .u32 0, .int .u32 0], .int .i64 1]) ∧ Below w.heap.size w w' := by
  go_enter Try.func27, Try.ntmps27
  go_wp2_with fail
  refine (isReading_any _ _).mono ?_
  rintro e w0 ⟨rfl, rfl⟩
  go_wp2
  exact bodyPost_ret (v := .tuple #[.agg #[.int .i64 0, .int .u32 0, .int .u32 0], .int .i64 1]) (by simp [results, Try.results27, go_sem]) rfl ⟨rfl, by go_grown⟩

set_option maxHeartbeats 1500000 in
theorem update_bad2 (b : Nat) (ph iw it im : Int) (w : World) (hr : rightB ph = true) (hri : rightB iw = false) :
    Calls Try.prog 27 #[.pointer (some ⟨b, 0, none⟩), .int .i64 ph, .agg #[.int .i64 iw, .int .u32 it, .int .u32 im]] w fun e w' => e = .returned (.tuple #[.agg #[.int .i64 0, .int .u32 0, .int .u32 0], .int .i64 1]) ∧ Below w.heap.size w w' := by
  go_enter Try.func27, Try.ntmps27
  go_wp2_with fail
  refine (isReading_any _ _).mono ?_
  rintro e w0 ⟨rfl, rfl⟩
  go_wp2_with fail
  refine (right_any _ _ _ _).mono ?_
  rintro e w1 ⟨rfl, lb1⟩
  have lB1 : Below w.heap.size w w1 := via lb1 (by go_grown) (by go_size)
  have lz1 := lb1.size
  (try simp at lz1)
  have m1_0 : w1.cell? ⟨w.heap.size, 0, none⟩ = some (.int .i64 iw) := kept lb1 (by repeat' (first | assumption | (simp; done) | apply keptD | apply keptA))
  have m1_1 : w1.cell? ⟨w.heap.size, 1, none⟩ = some (.int .u32 it) := kept lb1 (by repeat' (first | assumption | (simp; done) | apply keptD | apply keptA))
  have m1_2 : w1.cell? ⟨w.heap.size, 2, none⟩ = some (.int .u32 im) := kept lb1 (by repeat' (first | assumption | (simp; done) | apply keptD | apply keptA))
  have m1_3 : w1.cell? ⟨w.heap.size + 1, 0, none⟩ = some (.int .i64 0) := kept lb1 (by repeat' (first | assumption | (simp; done) | apply keptD | apply keptA))
  have m1_4 : w1.cell? ⟨w.heap.size + 1, 1, none⟩ = some (.int .u32 0) := kept lb1 (by repeat' (first | assumption | (simp; done) | apply keptD | apply keptA))
  have m1_5 : w1.cell? ⟨w.heap.size + 1, 2, none⟩ = some (.int .u32 0) := kept lb1 (by repeat' (first | assumption | (simp; done) | apply keptD | apply keptA))
  have z1_0 : w1.frozen? ⟨w.heap.size + 1, 0, none⟩ = false := keptF lb1 (by simp) (by simp)
  have z1_1 : w1.frozen? ⟨w.heap.size + 1, 1, none⟩ = false := keptF lb1 (by simp) (by simp)
  have z1_2 : w1.frozen? ⟨w.heap.size + 1, 2, none⟩ = false := keptF lb1 (by simp) (by simp)
  have s1_0 : w.heap.size < w1.heap.size := by omega
  have s1_1 : w.heap.size + 1 < w1.heap.size := by omega
  clear lb1
  go_wp2
  exact bodyPost_ret (v := .tuple #[.agg #[.int .i64 0, .int .u32 0, .int .u32 0], .int .i64 1]) (by simp [results, Try.results27, go_sem, m1_3, m1_4, m1_5]) rfl ⟨rfl, by go_grown⟩

set_option maxHeartbeats 1500000 in
theorem update_bad3 (off up mk lw lt : Int) (b : Nat) (ph iw it im : Int) (w : World) (hk : Clk w b off up mk lw lt) (hr : rightB ph = true) (hri : rightB iw = true) (ho : off < iw - ph) :
    Calls Try.prog 27 #[.pointer (some ⟨b, 0, none⟩), .int .i64 ph, .agg #[.int .i64 iw, .int .u32 it, .int .u32 im]] w fun e w' => e = .returned (.tuple #[.agg #[.int .i64 0, .int .u32 0, .int .u32 0], .int .i64 21]) ∧ Below w.heap.size w w' := by
  have hbw := hk.lt
  have k0 := hk.c0
  clear hk
  have hp : 0 ≤ ph ∧ ph ≤ 4611686018427387904 := by simpa [rightB] using hr
  have hq : 0 ≤ iw ∧ iw ≤ 4611686018427387904 := by simpa [rightB] using hri
  obtain ⟨hp0, hp1⟩ := hp
  obtain ⟨hq0, hq1⟩ := hq
  go_enter Try.func27, Try.ntmps27
  go_wp2_with fail
  refine (isReading_any _ _).mono ?_
  rintro e w0 ⟨rfl, rfl⟩
  go_wp2_with fail
  refine (right_any _ _ _ _).mono ?_
  rintro e w1 ⟨rfl, lb1⟩
  have lB1 : Below w.heap.size w w1 := via lb1 (by go_grown) (by go_size)
  have lz1 := lb1.size
  (try simp at lz1)
  have m1_0 : w1.cell? ⟨w.heap.size, 0, none⟩ = some (.int .i64 iw) := kept lb1 (by repeat' (first | assumption | (simp; done) | apply keptD | apply keptA))
  have m1_1 : w1.cell? ⟨w.heap.size, 1, none⟩ = some (.int .u32 it) := kept lb1 (by repeat' (first | assumption | (simp; done) | apply keptD | apply keptA))
  have m1_2 : w1.cell? ⟨w.heap.size, 2, none⟩ = some (.int .u32 im) := kept lb1 (by repeat' (first | assumption | (simp; done) | apply keptD | apply keptA))
  have m1_3 : w1.cell? ⟨w.heap.size + 1, 0, none⟩ = some (.int .i64 0) := kept lb1 (by repeat' (first | assumption | (simp; done) | apply keptD | apply keptA))
  have m1_4 : w1.cell? ⟨w.heap.size + 1, 1, none⟩ = some (.int .u32 0) := kept lb1 (by repeat' (first | assumption | (simp; done) | apply keptD | apply keptA))
  have m1_5 : w1.cell? ⟨w.heap.size + 1, 2, none⟩ = some (.int .u32 0) := kept lb1 (by repeat' (first | assumption | (simp; done) | apply keptD | apply keptA))
  have z1_0 : w1.frozen? ⟨w.heap.size + 1, 0, none⟩ = false := keptF lb1 (by simp) (by simp)
  have z1_1 : w1.frozen? ⟨w.heap.size + 1, 1, none⟩ = false := keptF lb1 (by simp) (by simp)
  have z1_2 : w1.frozen? ⟨w.heap.size + 1, 2, none⟩ = false := keptF lb1 (by simp) (by simp)
  have s1_0 : w.heap.size < w1.heap.size := by omega
  have s1_1 : w.heap.size + 1 < w1.heap.size := by omega
  have c0 : w1.cell? ⟨b, 0, none⟩ = some (.int .i64 off) := kept lB1 k0
  have s1_2 : b < w1.heap.size := by omega
  clear lb1 k0
  go_wp2
  go_quiet (fail)
  go_wp2
  exact bodyPost_ret (v := .tuple #[.agg #[.int .i64 0, .int .u32 0, .int .u32 0], .int .i64 21]) (by simp [results, Try.results27, go_sem, m1_3, m1_4, m1_5]) rfl ⟨rfl, by repeat' (first | assumption | apply belowN | (with_reducible refine Below.drew ?_) | (with_reducible refine Below.alloc ?_ ?_ _) | (with_reducible refine Below.setCell ?_ ?_ _) | omega | (simp; done) | (simp; omega))⟩

set_option maxHeartbeats 1500000 in
theorem upper_any (b : Nat) (off up mk lw lt : Int) (w : World) (hk : Clk w b off up mk lw lt) :
    Calls Try.prog 31 #[.pointer (some ⟨b, 0, none⟩)] w fun e w' => e = .returned (.int .i64 up) ∧ w = w' := by
  have k1 := hk.c1
  clear hk
  go_enter Try.func31, Try.ntmps31
  go_wp2
  go_ret
  exact ⟨rfl, rfl⟩

end Go.Proofs.Yteibigiehpkdjaa
