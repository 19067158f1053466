/- The contracts of the stamp functions of the program and of the document's answers: each returns its plain value and leaves all older memory as it was. -/
import Derived.Test.YteibigiehpkdjaaRows
import Derived.Test.YteibigiehpkdjaaBase
namespace Go.Proofs.Yteibigiehpkdjaa
open Go.RowKit

abbrev stv (a b c : Int) : Value := .agg #[.int .i64 a, .int .u32 b, .int .u32 c]

set_option maxHeartbeats 400000 in
theorem to_any (a b c : Int) (w : World) :
    Calls Try.prog 12 #[.agg #[.int .i64 a, .int .u32 b, .int .u32 c]] w fun e w' => e = .returned (.agg #[.int .i64 a, .int .u32 b, .int .u32 c]) ∧ Below w.heap.size w w' := by
  go_enter Try.func12, Try.ntmps12
  go_wp2
  exact bodyPost_ret (v := .agg #[.int .i64 a, .int .u32 b, .int .u32 c]) (by simp [results, Try.results12, go_sem]) rfl ⟨rfl, by go_grown⟩

set_option maxHeartbeats 400000 in
theorem from_any (a b c : Int) (w : World) :
    Calls Try.prog 18 #[.agg #[.int .i64 a, .int .u32 b, .int .u32 c]] w fun e w' => e = .returned (.agg #[.int .i64 a, .int .u32 b, .int .u32 c]) ∧ Below w.heap.size w w' := by
  go_enter Try.func18, Try.ntmps18
  go_wp2
  exact bodyPost_ret (v := .agg #[.int .i64 a, .int .u32 b, .int .u32 c]) (by simp [results, Try.results18, go_sem]) rfl ⟨rfl, by go_grown⟩

set_option maxHeartbeats 400000 in
theorem last_any (a b c : Int) (w : World) :
    Calls Try.prog 19 #[.agg #[.int .i64 a, .int .u32 b, .int .u32 c]] w fun e w' => e = .returned (.agg #[.int .i64 a, .int .u32 b, .int .u32 4294967295]) ∧ Below w.heap.size w w' := by
  go_enter Try.func19, Try.ntmps19
  go_wp2
  exact bodyPost_ret (v := .agg #[.int .i64 a, .int .u32 b, .int .u32 4294967295]) (by simp [results, Try.results19, go_sem]) rfl ⟨rfl, by go_grown⟩

/-- Is a Wall right? -/
def rightB (a : Int) : Bool := decide (0 ≤ a ∧ a ≤ 4611686018427387904)

set_option maxHeartbeats 400000 in
theorem right_any (a b c : Int) (w : World) :
    Calls Try.prog 11 #[.agg #[.int .i64 a, .int .u32 b, .int .u32 c]] w fun e w' => e = .returned (.bool (rightB a)) ∧ Below w.heap.size w w' := by
  by_cases h0 : 0 ≤ a
  · by_cases h1 : a ≤ 4611686018427387904
    · go_enter Try.func11, Try.ntmps11
      go_wp2
      go_ret
      exact ⟨by simp [rightB, h0, h1], by go_grown⟩
    · go_enter Try.func11, Try.ntmps11
      go_wp2
      go_ret
      exact ⟨by simp [rightB, h0, h1], by go_grown⟩
  · go_enter Try.func11, Try.ntmps11
    go_wp2
    go_ret
    exact ⟨by simp [rightB]; omega, by go_grown⟩

set_option maxHeartbeats 400000 in
theorem rright_any (a b c : Int) (w : World) :
    Calls Try.prog 13 #[.agg #[.int .i64 a, .int .u32 b, .int .u32 c]] w fun e w' => e = .returned (.bool (rightB a)) ∧ Below w.heap.size w w' := by
  by_cases h0 : 0 ≤ a
  · by_cases h1 : a ≤ 4611686018427387904
    · go_enter Try.func13, Try.ntmps13
      go_wp2
      go_ret
      exact ⟨by simp [rightB, h0, h1], by go_grown⟩
    · go_enter Try.func13, Try.ntmps13
      go_wp2
      go_ret
      exact ⟨by simp [rightB, h0, h1], by go_grown⟩
  · go_enter Try.func13, Try.ntmps13
    go_wp2
    go_ret
    exact ⟨by simp [rightB]; omega, by go_grown⟩

/-- How two stamps stand: -1, 0, 1. -/
def cmpS (a b c x y z : Int) : Int := if a < x then -1 else if x < a then 1 else if b < y then -1 else if y < b then 1 else if c < z then -1 else if z < c then 1 else 0

theorem idx0 (u v x : Value) (w : World) : (Instr.index 67 (.agg #[u, v, x]) (.int .i64 0)).run Try.prog w = .ok u w := by kernel_rfl
theorem idx1 (u v x : Value) (w : World) : (Instr.index 67 (.agg #[u, v, x]) (.int .i64 1)).run Try.prog w = .ok v w := by kernel_rfl
theorem idx2 (u v x : Value) (w : World) : (Instr.index 67 (.agg #[u, v, x]) (.int .i64 2)).run Try.prog w = .ok x w := by kernel_rfl

set_option maxHeartbeats 1000000 in
theorem compare_any (a b c x y z : Int) (hb0 : 0 ≤ b) (hb1 : b ≤ 4294967295) (hc0 : 0 ≤ c) (hc1 : c ≤ 4294967295) (hy0 : 0 ≤ y) (hy1 : y ≤ 4294967295) (hz0 : 0 ≤ z) (hz1 : z ≤ 4294967295) (w : World) :
    Calls Try.prog 14 #[.agg #[.int .i64 a, .int .u32 b, .int .u32 c], .agg #[.int .i64 x, .int .u32 y, .int .u32 z]] w fun e w' => e = .returned (.int .i64 (cmpS a b c x y z)) ∧ Below w.heap.size w w' := by
  have j0 := idx0
  have j1 := idx1
  have j2 := idx2
  go_enter Try.func14, Try.ntmps14
  go_wp2
  go_rounds 4
  all_goals go_ret
  all_goals exact ⟨ret_int (by unfold cmpS; (repeat' split) <;> omega), by go_grown⟩

set_option maxHeartbeats 400000 in
theorem rlast_any (a b c : Int) (w : World) :
    Calls Try.prog 20 #[.agg #[.int .i64 a, .int .u32 b, .int .u32 c]] w fun e w' => e = .returned (.agg #[.int .i64 a, .int .u32 b, .int .u32 4294967295]) ∧ Below w.heap.size w w' := by
  go_enter Try.func20, Try.ntmps20
  go_wp2
  exact bodyPost_ret (v := .agg #[.int .i64 a, .int .u32 b, .int .u32 4294967295]) (by simp [results, Try.results20, go_sem]) rfl ⟨rfl, by go_grown⟩

/-- Does one stand ahead of the other? -/
def belowB (a b c x y z : Int) : Bool := decide (cmpS a b c x y z = -1)
theorem cmpS_cases (a b c x y z : Int) : (cmpS a b c x y z = -1 ∧ (a < x ∨ a = x ∧ (b < y ∨ b = y ∧ c < z))) ∨ (cmpS a b c x y z = 1 ∧ (x < a ∨ a = x ∧ (y < b ∨ b = y ∧ z < c))) ∨ (cmpS a b c x y z = 0 ∧ a = x ∧ b = y ∧ c = z) := by
  unfold cmpS; (repeat' split) <;> omega

set_option maxHeartbeats 1000000 in
theorem rbelow_any (a b c x y z : Int) (w : World) :
    Calls Try.prog 35 #[.agg #[.int .i64 a, .int .u32 b, .int .u32 c], .agg #[.int .i64 x, .int .u32 y, .int .u32 z]] w fun e w' => e = .returned (.bool (belowB a b c x y z)) ∧ Below w.heap.size w w' := by
  go_enter Try.func35, Try.ntmps35
  go_wp2
  all_goals go_ret
  all_goals exact ⟨ret_bool (by have h := cmpS_cases a b c x y z; rw [Bool.eq_iff_iff]; simp [belowB] at *; omega), by go_grown⟩

theorem ord_a {a b c x y z : Int} (h : belowB a b c x y z = true) : (-1 : Int) = cmpS a b c x y z := by simpa [belowB, eq_comm] using h
theorem ord_b {a b c x y z : Int} (h : belowB a b c x y z = false) (h' : belowB x y z a b c = true) : (1 : Int) = cmpS a b c x y z := by
  have p := cmpS_cases a b c x y z; have q := cmpS_cases x y z a b c; simp [belowB] at h h'; omega
theorem ord_c {a b c x y z : Int} (h : belowB a b c x y z = false) (h' : belowB x y z a b c = false) : (0 : Int) = cmpS a b c x y z := by
  have p := cmpS_cases a b c x y z; have q := cmpS_cases x y z a b c; simp [belowB] at h h'; omega

set_option maxHeartbeats 1000000 in
theorem order_any (a b c x y z : Int) (w : World) :
    Calls Try.prog 15 #[.agg #[.int .i64 a, .int .u32 b, .int .u32 c], .agg #[.int .i64 x, .int .u32 y, .int .u32 z]] w fun e w' => e = .returned (.int .i64 (cmpS a b c x y z)) ∧ Below w.heap.size w w' := by
  go_enter Try.func15, Try.ntmps15
  go_wp2_with (first | (go_at_call 35; refine (rbelow_any _ _ _ _ _ _ _).mono ?_; rintro e w1 ⟨rfl, hb⟩; have hB : Below w.heap.size w w1 := via hb (by go_grown) (by go_size); obtain ⟨hc, hf⟩ := bcell hb; have hz := hb.size; (try simp at hz); clear hb))
  all_goals go_ret
  all_goals exact ⟨ret_int (by first | exact ord_a ‹_› | exact ord_b ‹_› ‹_› | exact ord_c ‹_› ‹_›), by go_grown⟩

/-- The errno of Next, and its stamp. -/
def nxE (a b : Int) : Int := if a < 0 ∨ 4611686018427387904 < a then 1 else if b < 4294967295 then 0 else if a < 4611686018427387904 then 0 else 20
def nxA (a b : Int) : Int := if a < 0 ∨ 4611686018427387904 < a then 0 else if b < 4294967295 then a else if a < 4611686018427387904 then a + 1 else 0
def nxB (a b : Int) : Int := if a < 0 ∨ 4611686018427387904 < a then 0 else if b < 4294967295 then b + 1 else 0
theorem ret_next {a b e x y f : Int} (h1 : a = x) (h2 : b = y) (h3 : e = f) : Ending.returned (.tuple #[.agg #[.int .i64 a, .int .u32 b, .int .u32 0], .int .i64 e]) = .returned (.tuple #[.agg #[.int .i64 x, .int .u32 y, .int .u32 0], .int .i64 f]) := by rw [h1, h2, h3]

set_option maxHeartbeats 1000000 in
theorem next_any (a b c : Int) (hb0 : 0 ≤ b) (hb1 : b ≤ 4294967295) (w : World) :
    Calls Try.prog 16 #[.agg #[.int .i64 a, .int .u32 b, .int .u32 c]] w fun e w' => e = .returned (.tuple #[.agg #[.int .i64 (nxA a b), .int .u32 (nxB a b), .int .u32 0], .int .i64 (nxE a b)]) ∧ Below w.heap.size w w' := by
  by_cases hr : rightB a = true
  · have hr' : 0 ≤ a ∧ a ≤ 4611686018427387904 := by simpa [rightB] using hr
    obtain ⟨hr0, hr1⟩ := hr'
    by_cases h2 : b < 4294967295
    · go_enter Try.func16, Try.ntmps16
      go_wp2_with (first | (go_at_call 11; refine (right_any _ _ _ _).mono ?_; rintro e w1 ⟨rfl, hb⟩; have hB : Below w.heap.size w w1 := via hb (by go_grown) (by go_size); obtain ⟨hc, hf⟩ := bcell hb; have hz := hb.size; (try simp at hz); clear hb))
      exact bodyPost_ret (v := .tuple #[.agg #[.int .i64 a, .int .u32 (b + 1), .int .u32 0], .int .i64 0]) (by simp [results, Try.results16, go_sem, hc]) rfl ⟨ret_next (by unfold nxA; (repeat' split) <;> omega) (by unfold nxB; (repeat' split) <;> omega) (by unfold nxE; (repeat' split) <;> omega), by go_grown⟩
    · by_cases h3 : a < 4611686018427387904
      · go_enter Try.func16, Try.ntmps16
        go_wp2_with (first | (go_at_call 11; refine (right_any _ _ _ _).mono ?_; rintro e w1 ⟨rfl, hb⟩; have hB : Below w.heap.size w w1 := via hb (by go_grown) (by go_size); obtain ⟨hc, hf⟩ := bcell hb; have hz := hb.size; (try simp at hz); clear hb))
        exact bodyPost_ret (v := .tuple #[.agg #[.int .i64 (a + 1), .int .u32 0, .int .u32 0], .int .i64 0]) (by simp [results, Try.results16, go_sem, hc]) rfl ⟨ret_next (by unfold nxA; (repeat' split) <;> omega) (by unfold nxB; (repeat' split) <;> omega) (by unfold nxE; (repeat' split) <;> omega), by go_grown⟩
      · go_enter Try.func16, Try.ntmps16
        go_wp2_with (first | (go_at_call 11; refine (right_any _ _ _ _).mono ?_; rintro e w1 ⟨rfl, hb⟩; have hB : Below w.heap.size w w1 := via hb (by go_grown) (by go_size); obtain ⟨hc, hf⟩ := bcell hb; have hz := hb.size; (try simp at hz); clear hb))
        exact bodyPost_ret (v := .tuple #[.agg #[.int .i64 0, .int .u32 0, .int .u32 0], .int .i64 20]) (by simp [results, Try.results16, go_sem, hc]) rfl ⟨ret_next (by unfold nxA; (repeat' split) <;> omega) (by unfold nxB; (repeat' split) <;> omega) (by unfold nxE; (repeat' split) <;> omega), by go_grown⟩
  · have hr' : a < 0 ∨ 4611686018427387904 < a := by simp [rightB] at hr; omega
    have HR := Lib.hid hr'
    clear hr'
    have hr : rightB a = false := by simpa using hr
    go_enter Try.func16, Try.ntmps16
    go_wp2_with (first | (go_at_call 11; refine (right_any _ _ _ _).mono ?_; rintro e w1 ⟨rfl, hb⟩; have hB : Below w.heap.size w w1 := via hb (by go_grown) (by go_size); obtain ⟨hc, hf⟩ := bcell hb; have hz := hb.size; (try simp at hz); clear hb))
    exact bodyPost_ret (v := .tuple #[.agg #[.int .i64 0, .int .u32 0, .int .u32 0], .int .i64 1]) (by simp [results, Try.results16, go_sem, hc]) rfl ⟨ret_next (by have := HR.out; unfold nxA; (repeat' split) <;> omega) (by have := HR.out; unfold nxB; (repeat' split) <;> omega) (by have := HR.out; unfold nxE; (repeat' split) <;> omega), by go_grown⟩

set_option maxHeartbeats 1000000 in
theorem rnext_any (a b c : Int) (hb0 : 0 ≤ b) (hb1 : b ≤ 4294967295) (w : World) :
    Calls Try.prog 17 #[.agg #[.int .i64 a, .int .u32 b, .int .u32 c]] w fun e w' => e = .returned (.tuple #[.agg #[.int .i64 (nxA a b), .int .u32 (nxB a b), .int .u32 0], .int .i64 (nxE a b)]) ∧ Below w.heap.size w w' := by
  by_cases hr : rightB a = true
  · have hr' : 0 ≤ a ∧ a ≤ 4611686018427387904 := by simpa [rightB] using hr
    obtain ⟨hr0, hr1⟩ := hr'
    by_cases h2 : b < 4294967295
    · go_enter Try.func17, Try.ntmps17
      go_wp2_with (first | (go_at_call 13; refine (rright_any _ _ _ _).mono ?_; rintro e w1 ⟨rfl, hb⟩; have hB : Below w.heap.size w w1 := via hb (by go_grown) (by go_size); obtain ⟨hc, hf⟩ := bcell hb; have hz := hb.size; (try simp at hz); clear hb))
      exact bodyPost_ret (v := .tuple #[.agg #[.int .i64 a, .int .u32 (b + 1), .int .u32 0], .int .i64 0]) (by simp [results, Try.results17, go_sem, hc]) rfl ⟨ret_next (by unfold nxA; (repeat' split) <;> omega) (by unfold nxB; (repeat' split) <;> omega) (by unfold nxE; (repeat' split) <;> omega), by go_grown⟩
    · by_cases h3 : a < 4611686018427387904
      · go_enter Try.func17, Try.ntmps17
        go_wp2_with (first | (go_at_call 13; refine (rright_any _ _ _ _).mono ?_; rintro e w1 ⟨rfl, hb⟩; have hB : Below w.heap.size w w1 := via hb (by go_grown) (by go_size); obtain ⟨hc, hf⟩ := bcell hb; have hz := hb.size; (try simp at hz); clear hb))
        exact bodyPost_ret (v := .tuple #[.agg #[.int .i64 (a + 1), .int .u32 0, .int .u32 0], .int .i64 0]) (by simp [results, Try.results17, go_sem, hc]) rfl ⟨ret_next (by unfold nxA; (repeat' split) <;> omega) (by unfold nxB; (repeat' split) <;> omega) (by unfold nxE; (repeat' split) <;> omega), by go_grown⟩
      · go_enter Try.func17, Try.ntmps17
        go_wp2_with (first | (go_at_call 13; refine (rright_any _ _ _ _).mono ?_; rintro e w1 ⟨rfl, hb⟩; have hB : Below w.heap.size w w1 := via hb (by go_grown) (by go_size); obtain ⟨hc, hf⟩ := bcell hb; have hz := hb.size; (try simp at hz); clear hb))
        exact bodyPost_ret (v := .tuple #[.agg #[.int .i64 0, .int .u32 0, .int .u32 0], .int .i64 20]) (by simp [results, Try.results17, go_sem, hc]) rfl ⟨ret_next (by unfold nxA; (repeat' split) <;> omega) (by unfold nxB; (repeat' split) <;> omega) (by unfold nxE; (repeat' split) <;> omega), by go_grown⟩
  · have hr' : a < 0 ∨ 4611686018427387904 < a := by simp [rightB] at hr; omega
    have HR := Lib.hid hr'
    clear hr'
    have hr : rightB a = false := by simpa using hr
    go_enter Try.func17, Try.ntmps17
    go_wp2_with (first | (go_at_call 13; refine (rright_any _ _ _ _).mono ?_; rintro e w1 ⟨rfl, hb⟩; have hB : Below w.heap.size w w1 := via hb (by go_grown) (by go_size); obtain ⟨hc, hf⟩ := bcell hb; have hz := hb.size; (try simp at hz); clear hb))
    exact bodyPost_ret (v := .tuple #[.agg #[.int .i64 0, .int .u32 0, .int .u32 0], .int .i64 1]) (by simp [results, Try.results17, go_sem, hc]) rfl ⟨ret_next (by have := HR.out; unfold nxA; (repeat' split) <;> omega) (by have := HR.out; unfold nxB; (repeat' split) <;> omega) (by have := HR.out; unfold nxE; (repeat' split) <;> omega), by go_grown⟩

end Go.Proofs.Yteibigiehpkdjaa
