/- StampNexts: the next stamp, or why there is none, and the last one with that tick, are the document's. -/
import Derived.Test.YteibigiehpkdjaaStamp
namespace Go.Proofs.Yteibigiehpkdjaa
open Go.RowKit

set_option maxHeartbeats 2000000 in
theorem nexts_any (a b c : Int) (hb0 : 0 ≤ b) (hb1 : b ≤ 4294967295) (w : World) :
    Calls Try.prog 5 #[.agg #[.int .i64 a, .int .u32 b, .int .u32 c]] w fun e w' => e = .returned (.bool true) ∧ Below w.heap.size w w' := by
  go_enter Try.func5, Try.ntmps5
  go_wp2_with fail
  refine (to_any _ _ _ _).mono ?_
  rintro e w1 ⟨rfl, lb1⟩
  have lz1 := lb1.size
  (try simp at lz1)
  have lB1 : Below w.heap.size w w1 := via lb1 (by go_grown) (by go_size)
  have m1_0 : w1.cell? ⟨w.heap.size, 0, none⟩ = some (.int .i64 a) := kept lb1 (by repeat' (first | assumption | (simp; done) | apply keptD | apply keptA))
  have m1_1 : w1.cell? ⟨w.heap.size, 1, none⟩ = some (.int .u32 b) := kept lb1 (by repeat' (first | assumption | (simp; done) | apply keptD | apply keptA))
  have m1_2 : w1.cell? ⟨w.heap.size, 2, none⟩ = some (.int .u32 c) := kept lb1 (by repeat' (first | assumption | (simp; done) | apply keptD | apply keptA))
  have s1_0 : w.heap.size < w1.heap.size := by omega
  clear lb1
  go_wp2_with fail
  refine (next_any _ _ _ hb0 hb1 _).mono ?_
  rintro e w2 ⟨rfl, lb2⟩
  have lz2 := lb2.size
  (try simp at lz2)
  have lB2 : Below w.heap.size w w2 := via lb2 (by go_grown) (by go_size)
  have m2_0 : w2.cell? ⟨w.heap.size, 0, none⟩ = some (.int .i64 a) := kept lb2 (by repeat' (first | assumption | (simp; done) | apply keptD | apply keptA))
  have m2_1 : w2.cell? ⟨w.heap.size, 1, none⟩ = some (.int .u32 b) := kept lb2 (by repeat' (first | assumption | (simp; done) | apply keptD | apply keptA))
  have m2_2 : w2.cell? ⟨w.heap.size, 2, none⟩ = some (.int .u32 c) := kept lb2 (by repeat' (first | assumption | (simp; done) | apply keptD | apply keptA))
  have s2_0 : w.heap.size < w2.heap.size := by omega
  clear lb2
  go_wp2_with fail
  refine (rnext_any _ _ _ hb0 hb1 _).mono ?_
  rintro e w3 ⟨rfl, lb3⟩
  have lz3 := lb3.size
  (try simp at lz3)
  have lB3 : Below w.heap.size w w3 := via lb3 (by go_grown) (by go_size)
  have m3_0 : w3.cell? ⟨w.heap.size, 0, none⟩ = some (.int .i64 a) := kept lb3 (by repeat' (first | assumption | (simp; done) | apply keptD | apply keptA))
  have m3_1 : w3.cell? ⟨w.heap.size, 1, none⟩ = some (.int .u32 b) := kept lb3 (by repeat' (first | assumption | (simp; done) | apply keptD | apply keptA))
  have m3_2 : w3.cell? ⟨w.heap.size, 2, none⟩ = some (.int .u32 c) := kept lb3 (by repeat' (first | assumption | (simp; done) | apply keptD | apply keptA))
  have m3_3 : w3.cell? ⟨w2.heap.size, 0, none⟩ = some (.int .i64 (nxA a b)) := kept lb3 (by repeat' (first | assumption | (simp; done) | apply keptD | apply keptA))
  have m3_4 : w3.cell? ⟨w2.heap.size, 1, none⟩ = some (.int .u32 (nxB a b)) := kept lb3 (by repeat' (first | assumption | (simp; done) | apply keptD | apply keptA))
  have m3_5 : w3.cell? ⟨w2.heap.size, 2, none⟩ = some (.int .u32 0) := kept lb3 (by repeat' (first | assumption | (simp; done) | apply keptD | apply keptA))
  have s3_0 : w.heap.size < w3.heap.size := by omega
  have s3_1 : w2.heap.size < w3.heap.size := by omega
  clear lb3
  go_wp2_with fail
  go_outline
  go_region_held3 (fun w' => w'.cell? ⟨w.heap.size, 0, none⟩ = some (.int .i64 a) ∧ w'.cell? ⟨w.heap.size, 1, none⟩ = some (.int .u32 b) ∧ w'.cell? ⟨w.heap.size, 2, none⟩ = some (.int .u32 c) ∧ w'.cell? ⟨w2.heap.size, 0, none⟩ = some (.int .i64 (nxA a b)) ∧ w'.cell? ⟨w2.heap.size, 1, none⟩ = some (.int .u32 (nxB a b)) ∧ w'.cell? ⟨w2.heap.size, 2, none⟩ = some (.int .u32 0) ∧ w'.cell? ⟨w3.heap.size, 0, none⟩ = some (.int .i64 (nxA a b)) ∧ w'.cell? ⟨w3.heap.size, 1, none⟩ = some (.int .u32 (nxB a b)) ∧ w'.cell? ⟨w3.heap.size, 2, none⟩ = some (.int .u32 0) ∧ Below w.heap.size w w')
    (((try dsimp only); go_split_ands; (repeat' apply And.intro) <;> first | assumption | (apply kept; assumption; assumption) | (apply via; assumption; assumption; apply Below.size; assumption) | (go_grown; done) | (repeat' first | assumption | (simp; done) | apply keptD | apply keptA | (apply kept; assumption))))
    (first
      | (go_at_call 12; refine (to_any _ _ _ _).mono ?_; rintro e w1 ⟨rfl, hb⟩)
      | (go_at_call 18; refine (from_any _ _ _ _).mono ?_; rintro e w1 ⟨rfl, hb⟩)
      | (go_at_call 19; refine (last_any _ _ _ _).mono ?_; rintro e w1 ⟨rfl, hb⟩)
      | (go_at_call 20; refine (rlast_any _ _ _ _).mono ?_; rintro e w1 ⟨rfl, hb⟩)
      | (go_at_call 11; refine (right_any _ _ _ _).mono ?_; rintro e w1 ⟨rfl, hb⟩))
  go_split_ands
  go_wp2
  go_ret
  exact ⟨ret_bool (by decide), by go_grown⟩

end Go.Proofs.Yteibigiehpkdjaa
