/- ClockNil: a nil clock. -/
import Derived.Test.YteibigiehpkdjaaAwake
namespace Go.Proofs.Yteibigiehpkdjaa
open Go.RowKit


theorem now_nil (ph : Int) (w : World) : Calls Try.prog 25 #[.pointer none, .int .i64 ph] w fun e w' => e = .returned (.tuple #[.agg #[.int .i64 0, .int .u32 0, .int .u32 0], .int .i64 2]) ∧ Below w.heap.size w w' := by
  go_enter Try.func25, Try.ntmps25
  go_wp2
  exact bodyPost_ret (v := .tuple #[.agg #[.int .i64 0, .int .u32 0, .int .u32 0], .int .i64 2]) (by simp [results, Try.results25, go_sem]) rfl ⟨rfl, by go_grown⟩
theorem update_nil (ph a b c : Int) (w : World) : Calls Try.prog 27 #[.pointer none, .int .i64 ph, .agg #[.int .i64 a, .int .u32 b, .int .u32 c]] w fun e w' => e = .returned (.tuple #[.agg #[.int .i64 0, .int .u32 0, .int .u32 0], .int .i64 2]) ∧ Below w.heap.size w w' := by
  go_enter Try.func27, Try.ntmps27
  go_wp2
  exact bodyPost_ret (v := .tuple #[.agg #[.int .i64 0, .int .u32 0, .int .u32 0], .int .i64 2]) (by simp [results, Try.results27, go_sem]) rfl ⟨rfl, by go_grown⟩
theorem raise_nil (v : Int) (w : World) : Calls Try.prog 30 #[.pointer none, .int .i64 v] w fun e w' => e = .returned (.int .i64 2) ∧ w = w' := by
  go_enter Try.func30, Try.ntmps30
  go_wp2
  go_ret
  exact ⟨rfl, rfl⟩
theorem upper_nil (w : World) : Calls Try.prog 31 #[.pointer none] w fun e w' => e = .returned (.int .i64 0) ∧ w = w' := by
  go_enter Try.func31, Try.ntmps31
  go_wp2
  go_ret
  exact ⟨rfl, rfl⟩
theorem last_nil (w : World) : Calls Try.prog 32 #[.pointer none] w fun e w' => e = .returned (.agg #[.int .i64 0, .int .u32 0, .int .u32 0]) ∧ Below w.heap.size w w' := by
  go_enter Try.func32, Try.ntmps32
  go_wp2
  exact bodyPost_ret (v := .agg #[.int .i64 0, .int .u32 0, .int .u32 0]) (by simp [results, Try.results32, go_sem]) rfl ⟨rfl, by go_grown⟩

set_option maxHeartbeats 1500000 in
theorem nil_any (ph a b c : Int) (w : World) :
    Calls Try.prog 10 #[.int .i64 ph, .agg #[.int .i64 a, .int .u32 b, .int .u32 c]] w fun e w' => e = .returned (.bool true) ∧ Below w.heap.size w w' := by
  go_enter Try.func10, Try.ntmps10
  go_wp2_with fail
  refine (now_nil _ _).mono ?_
  rintro e w1 ⟨rfl, hb1⟩
  have m0 : w1.cell? ⟨w.heap.size, 0, none⟩ = some (.int .i64 a) := kept hb1 (by simp)
  have m1 : w1.cell? ⟨w.heap.size, 1, none⟩ = some (.int .u32 b) := kept hb1 (by simp)
  have m2 : w1.cell? ⟨w.heap.size, 2, none⟩ = some (.int .u32 c) := kept hb1 (by simp)
  have B1 : Below w.heap.size w w1 := via hb1 (by go_grown) (by go_size)
  have z1 := hb1.size
  simp at z1
  have z1' : w.heap.size < w1.heap.size := by omega
  clear hb1
  go_wp2_with fail
  refine (to_any _ _ _ _).mono ?_
  rintro e w2 ⟨rfl, hb2⟩
  have B2 : Below w.heap.size w w2 := via hb2 (by go_grown) (by go_size)
  have z2 := hb2.size
  simp at z2
  clear hb2
  go_wp2_with fail
  refine (update_nil _ _ _ _ _).mono ?_
  rintro e w3 ⟨rfl, hb3⟩
  have B3 : Below w.heap.size w w3 := via hb3 (by go_grown) (by go_size)
  have z3 := hb3.size
  clear hb3
  go_wp2_with fail
  refine (awake_any _).mono ?_
  rintro e w4 ⟨rfl, hb4⟩
  have B4 : Below w.heap.size w w4 := via hb4 (by go_grown) (by go_size)
  have z4 := hb4.size
  simp at z4
  clear hb4
  go_wp2_with fail
  refine (raise_nil _ _).mono ?_
  rintro e w5 ⟨rfl, rfl⟩
  go_wp2_with fail
  refine (upper_nil _).mono ?_
  rintro e w6 ⟨rfl, rfl⟩
  go_wp2_with fail
  refine (last_nil _).mono ?_
  rintro e w7 ⟨rfl, hb7⟩
  have B7 : Below w.heap.size w w7 := via hb7 (by go_grown) (by go_size)
  go_wp2
  go_ret
  exact ⟨rfl, by go_grown⟩

end Go.Proofs.Yteibigiehpkdjaa
