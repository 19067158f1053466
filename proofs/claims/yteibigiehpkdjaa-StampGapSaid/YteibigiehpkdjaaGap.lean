/- StampGap: the next stamp stands behind the last one with that tick, and none with the Mark 0 stands between. -/
import Derived.Test.YteibigiehpkdjaaStamp
import Derived.Test.YteibigiehpkdjaaRegion
namespace Go.Proofs.Yteibigiehpkdjaa
open Go.RowKit

theorem nx_no {a b : Int} (h : nxE a b ≠ 0) : nxA a b = 0 ∧ nxB a b = 0 := by
  revert h; unfold nxE nxA nxB; (repeat' split) <;> intro h <;> first | exact ⟨rfl, rfl⟩ | exact absurd rfl h | omega
theorem nxB_bd {a b : Int} (hb0 : 0 ≤ b) (hb1 : b ≤ 4294967295) : 0 ≤ nxB a b ∧ nxB a b ≤ 4294967295 := by
  unfold nxB; (repeat' split) <;> omega
theorem gap_1 {a b : Int} (h : nxE a b = 0) : cmpS a b 4294967295 (nxA a b) (nxB a b) 0 = -1 := by
  revert h; unfold nxE nxA nxB cmpS; (repeat' split) <;> intro h <;> first | rfl | omega
theorem gap_2 {a b c : Int} (hc1 : c ≤ 4294967295) : decide (cmpS a b c a b 4294967295 ≤ 0) = true := by
  apply decide_eq_true; unfold cmpS; (repeat' split) <;> omega
theorem gap_3 {a b x y : Int} (h : nxE a b = 0) (hb1 : b ≤ 4294967295) (hy0 : 0 ≤ y) (hy1 : y ≤ 4294967295) (h3 : ¬ cmpS x y 0 a b 4294967295 ≤ 0) : decide (cmpS (nxA a b) (nxB a b) 0 x y 0 ≤ 0) = true := by
  apply decide_eq_true
  have p := cmpS_cases x y 0 a b 4294967295
  have q := cmpS_cases (nxA a b) (nxB a b) 0 x y 0
  revert h p q; unfold nxE nxA nxB; (repeat' split) <;> intro h p q <;> omega

set_option maxHeartbeats 400000 in
theorem gap_no (a b c x y z : Int) (hb0 : 0 ≤ b) (hb1 : b ≤ 4294967295) (hc0 : 0 ≤ c) (hc1 : c ≤ 4294967295) (hy0 : 0 ≤ y) (hy1 : y ≤ 4294967295) (hE : nxE a b ≠ 0) (w : World) :
    Calls Try.prog 6 #[.agg #[.int .i64 a, .int .u32 b, .int .u32 c], .agg #[.int .i64 x, .int .u32 y, .int .u32 z]] w fun e w' => e = .returned (.bool true) ∧ Below w.heap.size w w' := by
  obtain ⟨hA, hB⟩ := nx_no hE
  have hE1 : (nxE a b == 0) = false := by simpa using hE
  have hE2 : (nxE a b != 0) = true := by simpa using hE
  clear hE
  go_enter Try.func6, Try.ntmps6
  go_wp2_with fail
  refine (to_any _ _ _ _).mono ?_
  rintro e w1 ⟨rfl, lb1⟩
  have lz1 := lb1.size
  (try simp at lz1)
  have lB1 : Below w.heap.size w w1 := via lb1 (by go_grown) (by go_size)
  have m1_0 : w1.cell? ⟨w.heap.size, 0, none⟩ = some (.int .i64 a) := kept lb1 (by repeat' (first | assumption | (simp; done) | apply keptD | apply keptA))
  have m1_1 : w1.cell? ⟨w.heap.size, 1, none⟩ = some (.int .u32 b) := kept lb1 (by repeat' (first | assumption | (simp; done) | apply keptD | apply keptA))
  have m1_2 : w1.cell? ⟨w.heap.size, 2, none⟩ = some (.int .u32 c) := kept lb1 (by repeat' (first | assumption | (simp; done) | apply keptD | apply keptA))
  have m1_3 : w1.cell? ⟨w.heap.size + 1, 0, none⟩ = some (.int .i64 x) := kept lb1 (by repeat' (first | assumption | (simp; done) | apply keptD | apply keptA))
  have m1_4 : w1.cell? ⟨w.heap.size + 1, 1, none⟩ = some (.int .u32 y) := kept lb1 (by repeat' (first | assumption | (simp; done) | apply keptD | apply keptA))
  have m1_5 : w1.cell? ⟨w.heap.size + 1, 2, none⟩ = some (.int .u32 z) := kept lb1 (by repeat' (first | assumption | (simp; done) | apply keptD | apply keptA))
  have s1_0 : w.heap.size < w1.heap.size := by omega
  have s1_1 : w.heap.size + 1 < w1.heap.size := by omega
  clear lb1
  go_wp2_with fail
  refine (next_any _ _ _ hb0 hb1 _).mono ?_
  rintro e w2 ⟨rfl, lb2⟩
  have lz2 := lb2.size
  (try simp at lz2)
  have lB2 : Below w.heap.size w w2 := via lb2 (by go_grown) (by go_size)
  have m2_0 : w2.cell? ⟨w.heap.size, 0, none⟩ = some (.int .i64 a) := kept lb2 (by repeat' (first | assumption | (simp; done) | apply keptD | apply keptA))
  have m2_1 : w2.cell? ⟨w.heap.size, 1, none⟩ = some (.int .u32 b) := kept lb2 (by repeat' (first | assumption | (simp; done) | apply keptD | apply keptA))
  have m2_2 : w2.cell? ⟨w.heap.size, 2, none⟩ = some (.int .u32 c) := kept lb2 (by repeat' (first | assumption | (simp; done) | apply keptD | apply keptA))
  have m2_3 : w2.cell? ⟨w.heap.size + 1, 0, none⟩ = some (.int .i64 x) := kept lb2 (by repeat' (first | assumption | (simp; done) | apply keptD | apply keptA))
  have m2_4 : w2.cell? ⟨w.heap.size + 1, 1, none⟩ = some (.int .u32 y) := kept lb2 (by repeat' (first | assumption | (simp; done) | apply keptD | apply keptA))
  have m2_5 : w2.cell? ⟨w.heap.size + 1, 2, none⟩ = some (.int .u32 z) := kept lb2 (by repeat' (first | assumption | (simp; done) | apply keptD | apply keptA))
  have s2_0 : w.heap.size < w2.heap.size := by omega
  have s2_1 : w.heap.size + 1 < w2.heap.size := by omega
  clear lb2
  go_wp2_with fail
  refine (to_any _ _ _ _).mono ?_
  rintro e w3 ⟨rfl, lb3⟩
  have lz3 := lb3.size
  (try simp at lz3)
  have lB3 : Below w.heap.size w w3 := via lb3 (by go_grown) (by go_size)
  have m3_0 : w3.cell? ⟨w.heap.size, 0, none⟩ = some (.int .i64 a) := kept lb3 (by repeat' (first | assumption | (simp; done) | apply keptD | apply keptA))
  have m3_1 : w3.cell? ⟨w.heap.size, 1, none⟩ = some (.int .u32 b) := kept lb3 (by repeat' (first | assumption | (simp; done) | apply keptD | apply keptA))
  have m3_2 : w3.cell? ⟨w.heap.size, 2, none⟩ = some (.int .u32 c) := kept lb3 (by repeat' (first | assumption | (simp; done) | apply keptD | apply keptA))
  have m3_3 : w3.cell? ⟨w.heap.size + 1, 0, none⟩ = some (.int .i64 x) := kept lb3 (by repeat' (first | assumption | (simp; done) | apply keptD | apply keptA))
  have m3_4 : w3.cell? ⟨w.heap.size + 1, 1, none⟩ = some (.int .u32 y) := kept lb3 (by repeat' (first | assumption | (simp; done) | apply keptD | apply keptA))
  have m3_5 : w3.cell? ⟨w.heap.size + 1, 2, none⟩ = some (.int .u32 z) := kept lb3 (by repeat' (first | assumption | (simp; done) | apply keptD | apply keptA))
  have m3_6 : w3.cell? ⟨w2.heap.size, 0, none⟩ = some (.int .i64 0) := kept lb3 (by repeat' (first | assumption | (simp; done) | apply keptD | apply keptA))
  have m3_7 : w3.cell? ⟨w2.heap.size, 1, none⟩ = some (.int .u32 0) := kept lb3 (by repeat' (first | assumption | (simp; done) | apply keptD | apply keptA))
  have m3_8 : w3.cell? ⟨w2.heap.size, 2, none⟩ = some (.int .u32 0) := kept lb3 (by repeat' (first | assumption | (simp; done) | apply keptD | apply keptA))
  have s3_0 : w.heap.size < w3.heap.size := by omega
  have s3_1 : w.heap.size + 1 < w3.heap.size := by omega
  have s3_2 : w2.heap.size < w3.heap.size := by omega
  clear lb3
  go_wp2_with fail
  refine (last_any _ _ _ _).mono ?_
  rintro e w4 ⟨rfl, lb4⟩
  have lz4 := lb4.size
  (try simp at lz4)
  have lB4 : Below w.heap.size w w4 := via lb4 (by go_grown) (by go_size)
  have m4_0 : w4.cell? ⟨w.heap.size, 0, none⟩ = some (.int .i64 a) := kept lb4 (by repeat' (first | assumption | (simp; done) | apply keptD | apply keptA))
  have m4_1 : w4.cell? ⟨w.heap.size, 1, none⟩ = some (.int .u32 b) := kept lb4 (by repeat' (first | assumption | (simp; done) | apply keptD | apply keptA))
  have m4_2 : w4.cell? ⟨w.heap.size, 2, none⟩ = some (.int .u32 c) := kept lb4 (by repeat' (first | assumption | (simp; done) | apply keptD | apply keptA))
  have m4_3 : w4.cell? ⟨w.heap.size + 1, 0, none⟩ = some (.int .i64 x) := kept lb4 (by repeat' (first | assumption | (simp; done) | apply keptD | apply keptA))
  have m4_4 : w4.cell? ⟨w.heap.size + 1, 1, none⟩ = some (.int .u32 y) := kept lb4 (by repeat' (first | assumption | (simp; done) | apply keptD | apply keptA))
  have m4_5 : w4.cell? ⟨w.heap.size + 1, 2, none⟩ = some (.int .u32 z) := kept lb4 (by repeat' (first | assumption | (simp; done) | apply keptD | apply keptA))
  have m4_6 : w4.cell? ⟨w2.heap.size, 0, none⟩ = some (.int .i64 0) := kept lb4 (by repeat' (first | assumption | (simp; done) | apply keptD | apply keptA))
  have m4_7 : w4.cell? ⟨w2.heap.size, 1, none⟩ = some (.int .u32 0) := kept lb4 (by repeat' (first | assumption | (simp; done) | apply keptD | apply keptA))
  have m4_8 : w4.cell? ⟨w2.heap.size, 2, none⟩ = some (.int .u32 0) := kept lb4 (by repeat' (first | assumption | (simp; done) | apply keptD | apply keptA))
  have s4_0 : w.heap.size < w4.heap.size := by omega
  have s4_1 : w.heap.size + 1 < w4.heap.size := by omega
  have s4_2 : w2.heap.size < w4.heap.size := by omega
  clear lb4
  go_wp2_with (first | (go_at_call 11; refine (right_any _ _ _ _).mono ?_; rintro e w5 ⟨rfl, lb5⟩; have lB5 : Below w.heap.size w w5 := via lb5 (by go_grown) (by go_size); clear lb5))
  go_ret
  exact ⟨ret_bool (by decide), by go_grown⟩

set_option maxHeartbeats 4000000 in
theorem gap_yes (a b c x y z : Int) (hb0 : 0 ≤ b) (hb1 : b ≤ 4294967295) (hc0 : 0 ≤ c) (hc1 : c ≤ 4294967295) (hy0 : 0 ≤ y) (hy1 : y ≤ 4294967295) (hE : nxE a b = 0) (h3 : cmpS x y 0 a b 4294967295 ≤ 0) (w : World) :
    Calls Try.prog 6 #[.agg #[.int .i64 a, .int .u32 b, .int .u32 c], .agg #[.int .i64 x, .int .u32 y, .int .u32 z]] w fun e w' => e = .returned (.bool true) ∧ Below w.heap.size w w' := by
  obtain ⟨hn0, hn1⟩ := nxB_bd (a := a) hb0 hb1
  have g1 := gap_1 hE
  have g2 := gap_2 (a := a) (b := b) hc1
  have g3 : decide (cmpS x y 0 a b 4294967295 ≤ 0) = true := decide_eq_true h3
  clear h3
  go_enter Try.func6, Try.ntmps6
  go_wp2_with fail
  refine (to_any _ _ _ _).mono ?_
  rintro e w1 ⟨rfl, lb1⟩
  have lz1 := lb1.size
  (try simp at lz1)
  have lB1 : Below w.heap.size w w1 := via lb1 (by go_grown) (by go_size)
  have m1_0 : w1.cell? ⟨w.heap.size, 0, none⟩ = some (.int .i64 a) := kept lb1 (by repeat' (first | assumption | (simp; done) | apply keptD | apply keptA))
  have m1_1 : w1.cell? ⟨w.heap.size, 1, none⟩ = some (.int .u32 b) := kept lb1 (by repeat' (first | assumption | (simp; done) | apply keptD | apply keptA))
  have m1_2 : w1.cell? ⟨w.heap.size, 2, none⟩ = some (.int .u32 c) := kept lb1 (by repeat' (first | assumption | (simp; done) | apply keptD | apply keptA))
  have m1_3 : w1.cell? ⟨w.heap.size + 1, 0, none⟩ = some (.int .i64 x) := kept lb1 (by repeat' (first | assumption | (simp; done) | apply keptD | apply keptA))
  have m1_4 : w1.cell? ⟨w.heap.size + 1, 1, none⟩ = some (.int .u32 y) := kept lb1 (by repeat' (first | assumption | (simp; done) | apply keptD | apply keptA))
  have m1_5 : w1.cell? ⟨w.heap.size + 1, 2, none⟩ = some (.int .u32 z) := kept lb1 (by repeat' (first | assumption | (simp; done) | apply keptD | apply keptA))
  have s1_0 : w.heap.size < w1.heap.size := by omega
  have s1_1 : w.heap.size + 1 < w1.heap.size := by omega
  clear lb1
  go_wp2_with fail
  refine (next_any _ _ _ hb0 hb1 _).mono ?_
  rintro e w2 ⟨rfl, lb2⟩
  have lz2 := lb2.size
  (try simp at lz2)
  have lB2 : Below w.heap.size w w2 := via lb2 (by go_grown) (by go_size)
  have m2_0 : w2.cell? ⟨w.heap.size, 0, none⟩ = some (.int .i64 a) := kept lb2 (by repeat' (first | assumption | (simp; done) | apply keptD | apply keptA))
  have m2_1 : w2.cell? ⟨w.heap.size, 1, none⟩ = some (.int .u32 b) := kept lb2 (by repeat' (first | assumption | (simp; done) | apply keptD | apply keptA))
  have m2_2 : w2.cell? ⟨w.heap.size, 2, none⟩ = some (.int .u32 c) := kept lb2 (by repeat' (first | assumption | (simp; done) | apply keptD | apply keptA))
  have m2_3 : w2.cell? ⟨w.heap.size + 1, 0, none⟩ = some (.int .i64 x) := kept lb2 (by repeat' (first | assumption | (simp; done) | apply keptD | apply keptA))
  have m2_4 : w2.cell? ⟨w.heap.size + 1, 1, none⟩ = some (.int .u32 y) := kept lb2 (by repeat' (first | assumption | (simp; done) | apply keptD | apply keptA))
  have m2_5 : w2.cell? ⟨w.heap.size + 1, 2, none⟩ = some (.int .u32 z) := kept lb2 (by repeat' (first | assumption | (simp; done) | apply keptD | apply keptA))
  have s2_0 : w.heap.size < w2.heap.size := by omega
  have s2_1 : w.heap.size + 1 < w2.heap.size := by omega
  clear lb2
  go_wp2_with fail
  refine (to_any _ _ _ _).mono ?_
  rintro e w3 ⟨rfl, lb3⟩
  have lz3 := lb3.size
  (try simp at lz3)
  have lB3 : Below w.heap.size w w3 := via lb3 (by go_grown) (by go_size)
  have m3_0 : w3.cell? ⟨w.heap.size, 0, none⟩ = some (.int .i64 a) := kept lb3 (by repeat' (first | assumption | (simp; done) | apply keptD | apply keptA))
  have m3_1 : w3.cell? ⟨w.heap.size, 1, none⟩ = some (.int .u32 b) := kept lb3 (by repeat' (first | assumption | (simp; done) | apply keptD | apply keptA))
  have m3_2 : w3.cell? ⟨w.heap.size, 2, none⟩ = some (.int .u32 c) := kept lb3 (by repeat' (first | assumption | (simp; done) | apply keptD | apply keptA))
  have m3_3 : w3.cell? ⟨w.heap.size + 1, 0, none⟩ = some (.int .i64 x) := kept lb3 (by repeat' (first | assumption | (simp; done) | apply keptD | apply keptA))
  have m3_4 : w3.cell? ⟨w.heap.size + 1, 1, none⟩ = some (.int .u32 y) := kept lb3 (by repeat' (first | assumption | (simp; done) | apply keptD | apply keptA))
  have m3_5 : w3.cell? ⟨w.heap.size + 1, 2, none⟩ = some (.int .u32 z) := kept lb3 (by repeat' (first | assumption | (simp; done) | apply keptD | apply keptA))
  have m3_6 : w3.cell? ⟨w2.heap.size, 0, none⟩ = some (.int .i64 (nxA a b)) := kept lb3 (by repeat' (first | assumption | (simp; done) | apply keptD | apply keptA))
  have m3_7 : w3.cell? ⟨w2.heap.size, 1, none⟩ = some (.int .u32 (nxB a b)) := kept lb3 (by repeat' (first | assumption | (simp; done) | apply keptD | apply keptA))
  have m3_8 : w3.cell? ⟨w2.heap.size, 2, none⟩ = some (.int .u32 0) := kept lb3 (by repeat' (first | assumption | (simp; done) | apply keptD | apply keptA))
  have s3_0 : w.heap.size < w3.heap.size := by omega
  have s3_1 : w.heap.size + 1 < w3.heap.size := by omega
  have s3_2 : w2.heap.size < w3.heap.size := by omega
  clear lb3
  go_wp2_with fail
  refine (last_any _ _ _ _).mono ?_
  rintro e w4 ⟨rfl, lb4⟩
  have lz4 := lb4.size
  (try simp at lz4)
  have lB4 : Below w.heap.size w w4 := via lb4 (by go_grown) (by go_size)
  have m4_0 : w4.cell? ⟨w.heap.size, 0, none⟩ = some (.int .i64 a) := kept lb4 (by repeat' (first | assumption | (simp; done) | apply keptD | apply keptA))
  have m4_1 : w4.cell? ⟨w.heap.size, 1, none⟩ = some (.int .u32 b) := kept lb4 (by repeat' (first | assumption | (simp; done) | apply keptD | apply keptA))
  have m4_2 : w4.cell? ⟨w.heap.size, 2, none⟩ = some (.int .u32 c) := kept lb4 (by repeat' (first | assumption | (simp; done) | apply keptD | apply keptA))
  have m4_3 : w4.cell? ⟨w.heap.size + 1, 0, none⟩ = some (.int .i64 x) := kept lb4 (by repeat' (first | assumption | (simp; done) | apply keptD | apply keptA))
  have m4_4 : w4.cell? ⟨w.heap.size + 1, 1, none⟩ = some (.int .u32 y) := kept lb4 (by repeat' (first | assumption | (simp; done) | apply keptD | apply keptA))
  have m4_5 : w4.cell? ⟨w.heap.size + 1, 2, none⟩ = some (.int .u32 z) := kept lb4 (by repeat' (first | assumption | (simp; done) | apply keptD | apply keptA))
  have m4_6 : w4.cell? ⟨w2.heap.size, 0, none⟩ = some (.int .i64 (nxA a b)) := kept lb4 (by repeat' (first | assumption | (simp; done) | apply keptD | apply keptA))
  have m4_7 : w4.cell? ⟨w2.heap.size, 1, none⟩ = some (.int .u32 (nxB a b)) := kept lb4 (by repeat' (first | assumption | (simp; done) | apply keptD | apply keptA))
  have m4_8 : w4.cell? ⟨w2.heap.size, 2, none⟩ = some (.int .u32 0) := kept lb4 (by repeat' (first | assumption | (simp; done) | apply keptD | apply keptA))
  have s4_0 : w.heap.size < w4.heap.size := by omega
  have s4_1 : w.heap.size + 1 < w4.heap.size := by omega
  have s4_2 : w2.heap.size < w4.heap.size := by omega
  clear lb4
  go_wp2_with fail
  refine (to_any _ _ _ _).mono ?_
  rintro e w5 ⟨rfl, lb5⟩
  have lz5 := lb5.size
  (try simp at lz5)
  have lB5 : Below w.heap.size w w5 := via lb5 (by go_grown) (by go_size)
  have m5_0 : w5.cell? ⟨w.heap.size, 0, none⟩ = some (.int .i64 a) := kept lb5 (by repeat' (first | assumption | (simp; done) | apply keptD | apply keptA))
  have m5_1 : w5.cell? ⟨w.heap.size, 1, none⟩ = some (.int .u32 b) := kept lb5 (by repeat' (first | assumption | (simp; done) | apply keptD | apply keptA))
  have m5_2 : w5.cell? ⟨w.heap.size, 2, none⟩ = some (.int .u32 c) := kept lb5 (by repeat' (first | assumption | (simp; done) | apply keptD | apply keptA))
  have m5_3 : w5.cell? ⟨w.heap.size + 1, 0, none⟩ = some (.int .i64 x) := kept lb5 (by repeat' (first | assumption | (simp; done) | apply keptD | apply keptA))
  have m5_4 : w5.cell? ⟨w.heap.size + 1, 1, none⟩ = some (.int .u32 y) := kept lb5 (by repeat' (first | assumption | (simp; done) | apply keptD | apply keptA))
  have m5_5 : w5.cell? ⟨w.heap.size + 1, 2, none⟩ = some (.int .u32 z) := kept lb5 (by repeat' (first | assumption | (simp; done) | apply keptD | apply keptA))
  have m5_6 : w5.cell? ⟨w2.heap.size, 0, none⟩ = some (.int .i64 (nxA a b)) := kept lb5 (by repeat' (first | assumption | (simp; done) | apply keptD | apply keptA))
  have m5_7 : w5.cell? ⟨w2.heap.size, 1, none⟩ = some (.int .u32 (nxB a b)) := kept lb5 (by repeat' (first | assumption | (simp; done) | apply keptD | apply keptA))
  have m5_8 : w5.cell? ⟨w2.heap.size, 2, none⟩ = some (.int .u32 0) := kept lb5 (by repeat' (first | assumption | (simp; done) | apply keptD | apply keptA))
  have m5_9 : w5.cell? ⟨w4.heap.size, 0, none⟩ = some (.int .i64 a) := kept lb5 (by repeat' (first | assumption | (simp; done) | apply keptD | apply keptA))
  have m5_10 : w5.cell? ⟨w4.heap.size, 1, none⟩ = some (.int .u32 b) := kept lb5 (by repeat' (first | assumption | (simp; done) | apply keptD | apply keptA))
  have m5_11 : w5.cell? ⟨w4.heap.size, 2, none⟩ = some (.int .u32 4294967295) := kept lb5 (by repeat' (first | assumption | (simp; done) | apply keptD | apply keptA))
  have s5_0 : w.heap.size < w5.heap.size := by omega
  have s5_1 : w.heap.size + 1 < w5.heap.size := by omega
  have s5_2 : w2.heap.size < w5.heap.size := by omega
  have s5_3 : w4.heap.size < w5.heap.size := by omega
  clear lb5
  go_wp2_with fail
  apply region_vals (fun w' => w'.cell? ⟨w.heap.size, 0, none⟩ = some (.int .i64 a) ∧ w'.cell? ⟨w.heap.size, 1, none⟩ = some (.int .u32 b) ∧ w'.cell? ⟨w.heap.size, 2, none⟩ = some (.int .u32 c) ∧ w'.cell? ⟨w.heap.size + 1, 0, none⟩ = some (.int .i64 x) ∧ w'.cell? ⟨w.heap.size + 1, 1, none⟩ = some (.int .u32 y) ∧ w'.cell? ⟨w.heap.size + 1, 2, none⟩ = some (.int .u32 z) ∧ w'.cell? ⟨w2.heap.size, 0, none⟩ = some (.int .i64 (nxA a b)) ∧ w'.cell? ⟨w2.heap.size, 1, none⟩ = some (.int .u32 (nxB a b)) ∧ w'.cell? ⟨w2.heap.size, 2, none⟩ = some (.int .u32 0) ∧ w'.cell? ⟨w4.heap.size, 0, none⟩ = some (.int .i64 a) ∧ w'.cell? ⟨w4.heap.size, 1, none⟩ = some (.int .u32 b) ∧ w'.cell? ⟨w4.heap.size, 2, none⟩ = some (.int .u32 4294967295) ∧ w'.cell? ⟨w5.heap.size, 0, none⟩ = some (.int .i64 x) ∧ w'.cell? ⟨w5.heap.size, 1, none⟩ = some (.int .u32 y) ∧ w'.cell? ⟨w5.heap.size, 2, none⟩ = some (.int .u32 0) ∧ Below w.heap.size w w') [.agg #[.int .i64 a, .int .u32 b, .int .u32 4294967295], .agg #[.int .i64 (nxA a b), .int .u32 (nxB a b), .int .u32 0], .int .i64 (-1), .bool true, .bool true, .agg #[.int .i64 a, .int .u32 b, .int .u32 c], .agg #[.int .i64 a, .int .u32 b, .int .u32 c], .agg #[.int .i64 a, .int .u32 b, .int .u32 4294967295], .int .i64 (cmpS a b c a b 4294967295), .bool true, .bool true, .bool true, .pointer (some ⟨w2.heap.size, 2, none⟩), .int .u32 0, .bool true, .bool true, .bool true, .agg #[.int .i64 x, .int .u32 y, .int .u32 0], .agg #[.int .i64 a, .int .u32 b, .int .u32 4294967295], .int .i64 (cmpS x y 0 a b 4294967295), .bool true, .bool true, undef, undef, undef, undef, .bool true, .bool true, .bool true]
  case hm => kernel_rfl
  case hf => kernel_rfl
  case hQ => exact (by intro c x y w e h; exact And.intro (e.symm.trans (And.left h)) (And.right h))
  case hF => simp only [putAll, Act.put, List.setIfInBounds_toArray, List.set_cons_zero, List.set_cons_succ, Nat.reduceAdd, List.getD_cons_zero, List.getD_cons_succ]; rfl
  case h0 => (((try dsimp only); go_split_ands; (repeat' apply And.intro) <;> first | assumption | (apply kept; assumption; assumption) | (apply via; assumption; assumption; apply Below.size; assumption) | (go_grown; done) | (repeat' first | assumption | (simp; done) | apply keptD | apply keptA | (apply kept; assumption))))
  case hstep =>
    repeat' (first | exact AllOps.nil | apply AllOps.cons)
    all_goals
      intro wx hS K hK
      simp only [Act.put, List.setIfInBounds_toArray, List.set_cons_zero, List.set_cons_succ, Nat.reduceAdd, List.getD_cons_zero, List.getD_cons_succ] at hK ⊢
      have HK := Lib.hid hK
      have HS := Lib.hid hS
      clear hK
      go_split_ands
      go_simp
      first
        | (refine HK.out _ _ ?_ ?_; (first | rfl | rw [g1]); exact HS.out)
        | (go_at_call 12; refine (to_any _ _ _ _).mono ?_; rintro e w1 ⟨rfl, hb⟩; refine HK.out _ _ ?_ ?_; (first | rfl | rw [g1]); (((try dsimp only); go_split_ands; (repeat' apply And.intro) <;> first | assumption | (apply kept; assumption; assumption) | (apply via; assumption; assumption; apply Below.size; assumption) | (go_grown; done) | (repeat' first | assumption | (simp; done) | apply keptD | apply keptA | (apply kept; assumption)))))
        | (go_at_call 14; refine (compare_any _ _ _ _ _ _ (by omega) (by omega) (by omega) (by omega) (by omega) (by omega) (by omega) (by omega) _).mono ?_; rintro e w1 ⟨rfl, hb⟩; refine HK.out _ _ ?_ ?_; (first | rfl | rw [g1]); (((try dsimp only); go_split_ands; (repeat' apply And.intro) <;> first | assumption | (apply kept; assumption; assumption) | (apply via; assumption; assumption; apply Below.size; assumption) | (go_grown; done) | (repeat' first | assumption | (simp; done) | apply keptD | apply keptA | (apply kept; assumption)))))
        | fail
  case hend =>
    intro wx hS
    go_split_ands
    go_wp2
    go_ret
    exact ⟨rfl, by go_grown⟩

set_option maxHeartbeats 4000000 in
theorem gap_else (a b c x y z : Int) (hb0 : 0 ≤ b) (hb1 : b ≤ 4294967295) (hc0 : 0 ≤ c) (hc1 : c ≤ 4294967295) (hy0 : 0 ≤ y) (hy1 : y ≤ 4294967295) (hE : nxE a b = 0) (h3 : ¬ cmpS x y 0 a b 4294967295 ≤ 0) (w : World) :
    Calls Try.prog 6 #[.agg #[.int .i64 a, .int .u32 b, .int .u32 c], .agg #[.int .i64 x, .int .u32 y, .int .u32 z]] w fun e w' => e = .returned (.bool true) ∧ Below w.heap.size w w' := by
  obtain ⟨hn0, hn1⟩ := nxB_bd (a := a) hb0 hb1
  have g1 := gap_1 hE
  have g2 := gap_2 (a := a) (b := b) hc1
  have g4 := gap_3 hE hb1 hy0 hy1 h3
  have g3 : decide (cmpS x y 0 a b 4294967295 ≤ 0) = false := decide_eq_false h3
  clear h3
  go_enter Try.func6, Try.ntmps6
  go_wp2_with fail
  refine (to_any _ _ _ _).mono ?_
  rintro e w1 ⟨rfl, lb1⟩
  have lz1 := lb1.size
  (try simp at lz1)
  have lB1 : Below w.heap.size w w1 := via lb1 (by go_grown) (by go_size)
  have m1_0 : w1.cell? ⟨w.heap.size, 0, none⟩ = some (.int .i64 a) := kept lb1 (by repeat' (first | assumption | (simp; done) | apply keptD | apply keptA))
  have m1_1 : w1.cell? ⟨w.heap.size, 1, none⟩ = some (.int .u32 b) := kept lb1 (by repeat' (first | assumption | (simp; done) | apply keptD | apply keptA))
  have m1_2 : w1.cell? ⟨w.heap.size, 2, none⟩ = some (.int .u32 c) := kept lb1 (by repeat' (first | assumption | (simp; done) | apply keptD | apply keptA))
  have m1_3 : w1.cell? ⟨w.heap.size + 1, 0, none⟩ = some (.int .i64 x) := kept lb1 (by repeat' (first | assumption | (simp; done) | apply keptD | apply keptA))
  have m1_4 : w1.cell? ⟨w.heap.size + 1, 1, none⟩ = some (.int .u32 y) := kept lb1 (by repeat' (first | assumption | (simp; done) | apply keptD | apply keptA))
  have m1_5 : w1.cell? ⟨w.heap.size + 1, 2, none⟩ = some (.int .u32 z) := kept lb1 (by repeat' (first | assumption | (simp; done) | apply keptD | apply keptA))
  have s1_0 : w.heap.size < w1.heap.size := by omega
  have s1_1 : w.heap.size + 1 < w1.heap.size := by omega
  clear lb1
  go_wp2_with fail
  refine (next_any _ _ _ hb0 hb1 _).mono ?_
  rintro e w2 ⟨rfl, lb2⟩
  have lz2 := lb2.size
  (try simp at lz2)
  have lB2 : Below w.heap.size w w2 := via lb2 (by go_grown) (by go_size)
  have m2_0 : w2.cell? ⟨w.heap.size, 0, none⟩ = some (.int .i64 a) := kept lb2 (by repeat' (first | assumption | (simp; done) | apply keptD | apply keptA))
  have m2_1 : w2.cell? ⟨w.heap.size, 1, none⟩ = some (.int .u32 b) := kept lb2 (by repeat' (first | assumption | (simp; done) | apply keptD | apply keptA))
  have m2_2 : w2.cell? ⟨w.heap.size, 2, none⟩ = some (.int .u32 c) := kept lb2 (by repeat' (first | assumption | (simp; done) | apply keptD | apply keptA))
  have m2_3 : w2.cell? ⟨w.heap.size + 1, 0, none⟩ = some (.int .i64 x) := kept lb2 (by repeat' (first | assumption | (simp; done) | apply keptD | apply keptA))
  have m2_4 : w2.cell? ⟨w.heap.size + 1, 1, none⟩ = some (.int .u32 y) := kept lb2 (by repeat' (first | assumption | (simp; done) | apply keptD | apply keptA))
  have m2_5 : w2.cell? ⟨w.heap.size + 1, 2, none⟩ = some (.int .u32 z) := kept lb2 (by repeat' (first | assumption | (simp; done) | apply keptD | apply keptA))
  have s2_0 : w.heap.size < w2.heap.size := by omega
  have s2_1 : w.heap.size + 1 < w2.heap.size := by omega
  clear lb2
  go_wp2_with fail
  refine (to_any _ _ _ _).mono ?_
  rintro e w3 ⟨rfl, lb3⟩
  have lz3 := lb3.size
  (try simp at lz3)
  have lB3 : Below w.heap.size w w3 := via lb3 (by go_grown) (by go_size)
  have m3_0 : w3.cell? ⟨w.heap.size, 0, none⟩ = some (.int .i64 a) := kept lb3 (by repeat' (first | assumption | (simp; done) | apply keptD | apply keptA))
  have m3_1 : w3.cell? ⟨w.heap.size, 1, none⟩ = some (.int .u32 b) := kept lb3 (by repeat' (first | assumption | (simp; done) | apply keptD | apply keptA))
  have m3_2 : w3.cell? ⟨w.heap.size, 2, none⟩ = some (.int .u32 c) := kept lb3 (by repeat' (first | assumption | (simp; done) | apply keptD | apply keptA))
  have m3_3 : w3.cell? ⟨w.heap.size + 1, 0, none⟩ = some (.int .i64 x) := kept lb3 (by repeat' (first | assumption | (simp; done) | apply keptD | apply keptA))
  have m3_4 : w3.cell? ⟨w.heap.size + 1, 1, none⟩ = some (.int .u32 y) := kept lb3 (by repeat' (first | assumption | (simp; done) | apply keptD | apply keptA))
  have m3_5 : w3.cell? ⟨w.heap.size + 1, 2, none⟩ = some (.int .u32 z) := kept lb3 (by repeat' (first | assumption | (simp; done) | apply keptD | apply keptA))
  have m3_6 : w3.cell? ⟨w2.heap.size, 0, none⟩ = some (.int .i64 (nxA a b)) := kept lb3 (by repeat' (first | assumption | (simp; done) | apply keptD | apply keptA))
  have m3_7 : w3.cell? ⟨w2.heap.size, 1, none⟩ = some (.int .u32 (nxB a b)) := kept lb3 (by repeat' (first | assumption | (simp; done) | apply keptD | apply keptA))
  have m3_8 : w3.cell? ⟨w2.heap.size, 2, none⟩ = some (.int .u32 0) := kept lb3 (by repeat' (first | assumption | (simp; done) | apply keptD | apply keptA))
  have s3_0 : w.heap.size < w3.heap.size := by omega
  have s3_1 : w.heap.size + 1 < w3.heap.size := by omega
  have s3_2 : w2.heap.size < w3.heap.size := by omega
  clear lb3
  go_wp2_with fail
  refine (last_any _ _ _ _).mono ?_
  rintro e w4 ⟨rfl, lb4⟩
  have lz4 := lb4.size
  (try simp at lz4)
  have lB4 : Below w.heap.size w w4 := via lb4 (by go_grown) (by go_size)
  have m4_0 : w4.cell? ⟨w.heap.size, 0, none⟩ = some (.int .i64 a) := kept lb4 (by repeat' (first | assumption | (simp; done) | apply keptD | apply keptA))
  have m4_1 : w4.cell? ⟨w.heap.size, 1, none⟩ = some (.int .u32 b) := kept lb4 (by repeat' (first | assumption | (simp; done) | apply keptD | apply keptA))
  have m4_2 : w4.cell? ⟨w.heap.size, 2, none⟩ = some (.int .u32 c) := kept lb4 (by repeat' (first | assumption | (simp; done) | apply keptD | apply keptA))
  have m4_3 : w4.cell? ⟨w.heap.size + 1, 0, none⟩ = some (.int .i64 x) := kept lb4 (by repeat' (first | assumption | (simp; done) | apply keptD | apply keptA))
  have m4_4 : w4.cell? ⟨w.heap.size + 1, 1, none⟩ = some (.int .u32 y) := kept lb4 (by repeat' (first | assumption | (simp; done) | apply keptD | apply keptA))
  have m4_5 : w4.cell? ⟨w.heap.size + 1, 2, none⟩ = some (.int .u32 z) := kept lb4 (by repeat' (first | assumption | (simp; done) | apply keptD | apply keptA))
  have m4_6 : w4.cell? ⟨w2.heap.size, 0, none⟩ = some (.int .i64 (nxA a b)) := kept lb4 (by repeat' (first | assumption | (simp; done) | apply keptD | apply keptA))
  have m4_7 : w4.cell? ⟨w2.heap.size, 1, none⟩ = some (.int .u32 (nxB a b)) := kept lb4 (by repeat' (first | assumption | (simp; done) | apply keptD | apply keptA))
  have m4_8 : w4.cell? ⟨w2.heap.size, 2, none⟩ = some (.int .u32 0) := kept lb4 (by repeat' (first | assumption | (simp; done) | apply keptD | apply keptA))
  have s4_0 : w.heap.size < w4.heap.size := by omega
  have s4_1 : w.heap.size + 1 < w4.heap.size := by omega
  have s4_2 : w2.heap.size < w4.heap.size := by omega
  clear lb4
  go_wp2_with fail
  refine (to_any _ _ _ _).mono ?_
  rintro e w5 ⟨rfl, lb5⟩
  have lz5 := lb5.size
  (try simp at lz5)
  have lB5 : Below w.heap.size w w5 := via lb5 (by go_grown) (by go_size)
  have m5_0 : w5.cell? ⟨w.heap.size, 0, none⟩ = some (.int .i64 a) := kept lb5 (by repeat' (first | assumption | (simp; done) | apply keptD | apply keptA))
  have m5_1 : w5.cell? ⟨w.heap.size, 1, none⟩ = some (.int .u32 b) := kept lb5 (by repeat' (first | assumption | (simp; done) | apply keptD | apply keptA))
  have m5_2 : w5.cell? ⟨w.heap.size, 2, none⟩ = some (.int .u32 c) := kept lb5 (by repeat' (first | assumption | (simp; done) | apply keptD | apply keptA))
  have m5_3 : w5.cell? ⟨w.heap.size + 1, 0, none⟩ = some (.int .i64 x) := kept lb5 (by repeat' (first | assumption | (simp; done) | apply keptD | apply keptA))
  have m5_4 : w5.cell? ⟨w.heap.size + 1, 1, none⟩ = some (.int .u32 y) := kept lb5 (by repeat' (first | assumption | (simp; done) | apply keptD | apply keptA))
  have m5_5 : w5.cell? ⟨w.heap.size + 1, 2, none⟩ = some (.int .u32 z) := kept lb5 (by repeat' (first | assumption | (simp; done) | apply keptD | apply keptA))
  have m5_6 : w5.cell? ⟨w2.heap.size, 0, none⟩ = some (.int .i64 (nxA a b)) := kept lb5 (by repeat' (first | assumption | (simp; done) | apply keptD | apply keptA))
  have m5_7 : w5.cell? ⟨w2.heap.size, 1, none⟩ = some (.int .u32 (nxB a b)) := kept lb5 (by repeat' (first | assumption | (simp; done) | apply keptD | apply keptA))
  have m5_8 : w5.cell? ⟨w2.heap.size, 2, none⟩ = some (.int .u32 0) := kept lb5 (by repeat' (first | assumption | (simp; done) | apply keptD | apply keptA))
  have m5_9 : w5.cell? ⟨w4.heap.size, 0, none⟩ = some (.int .i64 a) := kept lb5 (by repeat' (first | assumption | (simp; done) | apply keptD | apply keptA))
  have m5_10 : w5.cell? ⟨w4.heap.size, 1, none⟩ = some (.int .u32 b) := kept lb5 (by repeat' (first | assumption | (simp; done) | apply keptD | apply keptA))
  have m5_11 : w5.cell? ⟨w4.heap.size, 2, none⟩ = some (.int .u32 4294967295) := kept lb5 (by repeat' (first | assumption | (simp; done) | apply keptD | apply keptA))
  have s5_0 : w.heap.size < w5.heap.size := by omega
  have s5_1 : w.heap.size + 1 < w5.heap.size := by omega
  have s5_2 : w2.heap.size < w5.heap.size := by omega
  have s5_3 : w4.heap.size < w5.heap.size := by omega
  clear lb5
  go_wp2_with fail
  go_region_held3 (fun w' => w'.cell? ⟨w.heap.size, 0, none⟩ = some (.int .i64 a) ∧ w'.cell? ⟨w.heap.size, 1, none⟩ = some (.int .u32 b) ∧ w'.cell? ⟨w.heap.size, 2, none⟩ = some (.int .u32 c) ∧ w'.cell? ⟨w.heap.size + 1, 0, none⟩ = some (.int .i64 x) ∧ w'.cell? ⟨w.heap.size + 1, 1, none⟩ = some (.int .u32 y) ∧ w'.cell? ⟨w.heap.size + 1, 2, none⟩ = some (.int .u32 z) ∧ w'.cell? ⟨w2.heap.size, 0, none⟩ = some (.int .i64 (nxA a b)) ∧ w'.cell? ⟨w2.heap.size, 1, none⟩ = some (.int .u32 (nxB a b)) ∧ w'.cell? ⟨w2.heap.size, 2, none⟩ = some (.int .u32 0) ∧ w'.cell? ⟨w4.heap.size, 0, none⟩ = some (.int .i64 a) ∧ w'.cell? ⟨w4.heap.size, 1, none⟩ = some (.int .u32 b) ∧ w'.cell? ⟨w4.heap.size, 2, none⟩ = some (.int .u32 4294967295) ∧ w'.cell? ⟨w5.heap.size, 0, none⟩ = some (.int .i64 x) ∧ w'.cell? ⟨w5.heap.size, 1, none⟩ = some (.int .u32 y) ∧ w'.cell? ⟨w5.heap.size, 2, none⟩ = some (.int .u32 0) ∧ Below w.heap.size w w')
    (((try dsimp only); go_split_ands; (repeat' apply And.intro) <;> first | assumption | (apply kept; assumption; assumption) | (apply via; assumption; assumption; apply Below.size; assumption) | (go_grown; done) | (repeat' first | assumption | (simp; done) | apply keptD | apply keptA | (apply kept; assumption))))
    (first
      | (go_at_call 12; refine (to_any _ _ _ _).mono ?_; rintro e w1 ⟨rfl, hb⟩)
      | (go_at_call 11; refine (right_any _ _ _ _).mono ?_; rintro e w1 ⟨rfl, hb⟩)
      | (go_at_call 14; refine (compare_any _ _ _ _ _ _ (by omega) (by omega) (by omega) (by omega) (by omega) (by omega) (by omega) (by omega) _).mono ?_; rintro e w1 ⟨rfl, hb⟩))
  go_split_ands
  go_wp2
  go_ret
  exact ⟨rfl, by go_grown⟩

theorem gap_any (a b c x y z : Int) (hb0 : 0 ≤ b) (hb1 : b ≤ 4294967295) (hc0 : 0 ≤ c) (hc1 : c ≤ 4294967295) (hy0 : 0 ≤ y) (hy1 : y ≤ 4294967295) (w : World) :
    Calls Try.prog 6 #[.agg #[.int .i64 a, .int .u32 b, .int .u32 c], .agg #[.int .i64 x, .int .u32 y, .int .u32 z]] w fun e w' => e = .returned (.bool true) ∧ Below w.heap.size w w' := by
  by_cases hE : nxE a b = 0
  · by_cases h3 : cmpS x y 0 a b 4294967295 ≤ 0
    · exact gap_yes a b c x y z hb0 hb1 hc0 hc1 hy0 hy1 hE h3 w
    · exact gap_else a b c x y z hb0 hb1 hc0 hc1 hy0 hy1 hE h3 w
  · exact gap_no a b c x y z hb0 hb1 hc0 hc1 hy0 hy1 hE w

end Go.Proofs.Yteibigiehpkdjaa
