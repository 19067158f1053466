/- A version: its kind, whether it is right. -/
import Derived.Test.YtbeclajbpfglgaaStC
import Derived.Test.YtbeclajbpfglgaaEl2
import Derived.Test.YtbeclajbpfglgaaTn0
namespace Go.Proofs.Ytbeclajbpfglgaa
open Go.RowKit

structure Ve where
  w : Int
  t : Int
  m : Int
  k : Int
  n : Int
  x : ByteArray
abbrev stV (v : Ve) : Value := .agg #[.int .i64 v.w, .int .u32 v.t, .int .u32 v.m]
abbrev agV (v : Ve) : Value := .agg #[.int .i64 v.w, .int .u32 v.t, .int .u32 v.m, .int .i64 v.k, .int .i64 v.n, .string v.x]
def encV (v : Ve) : List Value := [.int .i64 v.w, .int .u32 v.t, .int .u32 v.m, .int .i64 v.k, .int .i64 v.n, .string v.x]
theorem encV_len (v : Ve) : (encV v).length = 6 := rfl
theorem encV_one (v : Ve) : ∀ u ∈ encV v, u.oneCell' = true := by
  intro u hu
  simp [encV] at hu
  rcases hu with rfl | rfl | rfl | rfl | rfl | rfl <;> rfl
structure Vok (v : Ve) : Prop where
  t0 : 0 ≤ v.t
  t1 : v.t ≤ 4294967295
  m0 : 0 ≤ v.m
  m1 : v.m ≤ 4294967295
  xs : v.x.size ≤ maxLen
def kindB (v : Ve) : Bool := decide ((v.k = 1 ∧ v.x.toList = []) ∨ (v.k = 2 ∧ v.n = 0 ∧ v.x.size ≤ 256) ∨ (v.k = 3 ∧ v.n = 0 ∧ v.x.toList = []))
theorem emp (l : List UInt8) : l.isEmpty = decide (l = []) := by cases l <;> simp
theorem emp0 (x : ByteArray) (h : x.toList = []) : x.size = 0 := by
  have h2 : x.data.toList = [] := by simpa [ByteArray.toList_eq] using h
  have := congrArg List.length h2
  rwa [Array.length_toList] at this
theorem le256 (n : Nat) : decide ((n : Int) ≤ 256) = decide (n ≤ 256) := by rw [decide_eq_decide]; omega
theorem lt256 (n : Nat) : decide ((256 : Int) < (n : Int)) = decide (256 < n) := by rw [decide_eq_decide]; omega
set_option maxHeartbeats 1000000 in
theorem kind_any (v : Ve) (w : World) : Calls Try.prog 25 #[agV v] w fun e w' => e = .returned (.bool (kindB v)) ∧ Below w.heap.size w w' := by
  go_enter Try.func25, Try.ntmps25
  go_wp2
  all_goals go_ret
  all_goals exact ⟨ret_bool (by simp only [beq_iff_eq, beq_eq_false_iff_ne] at *; simp [kindB, emp, le256, *]), by go_grown⟩
def rightV (v : Ve) : Bool := rightB v.w && kindB v
set_option maxHeartbeats 1000000 in
theorem vright_any (v : Ve) (w : World) : Calls Try.prog 9 #[agV v] w fun e w' => e = .returned (.bool (rightV v)) ∧ Below w.heap.size w w' := by
  have HK := Lib.hid (fun w => kind_any v w)
  cases hr : rightB v.w with
  | false =>
    have HR : Hid (∀ w, Calls Try.prog 24 #[stV v] w fun e w' => e = .returned (.bool false) ∧ Below w.heap.size w w') := Lib.hid fun w => hr ▸ right_any v.w v.t v.m w
    have hv : rightV v = false := by simp [rightV, hr]
    rw [hv]
    clear hr hv
    go_enter Try.func9, Try.ntmps9
    go_wp2_with (go_at_call 24; refine (HR.out _).mono ?_; rintro e w1 ⟨rfl, hb⟩; have hB : Below w.heap.size w w1 := via hb (by go_grown) (by go_size); clear hb)
    go_ret
    exact ⟨rfl, hB⟩
  | true =>
    have HR : Hid (∀ w, Calls Try.prog 24 #[stV v] w fun e w' => e = .returned (.bool true) ∧ Below w.heap.size w w') := Lib.hid fun w => hr ▸ right_any v.w v.t v.m w
    have hv : rightV v = kindB v := by simp [rightV, hr]
    rw [hv]
    clear hr hv
    go_enter Try.func9, Try.ntmps9
    go_wp2_with (first
      | (go_at_call 24; refine (HR.out _).mono ?_; rintro e w1 ⟨rfl, hb⟩; have hB : Below w.heap.size w w1 := via hb (by go_grown) (by go_size); obtain ⟨hc, hf⟩ := bcell hb; have hz := hb.size; (try simp at hz); clear hb)
      | (go_at_call 25; refine (HK.out _).mono ?_; rintro e w2 ⟨rfl, hb2⟩))
    go_ret
    exact ⟨rfl, hB.trans (hb2.mono hB.size)⟩
set_option maxHeartbeats 1000000 in
theorem vrright_any (v : Ve) (w : World) (h : v.x.size ≤ maxLen) : Calls Try.prog 11 #[agV v] w fun e w' => e = .returned (.bool (rightV v)) ∧ Below w.heap.size w w' := by
  unfold maxLen at h
  cases hr : rightB v.w with
  | false =>
    have HR : Hid (∀ w, Calls Try.prog 26 #[stV v] w fun e w' => e = .returned (.bool false) ∧ Below w.heap.size w w') := Lib.hid fun w => hr ▸ rright_any v.w v.t v.m w
    have hv : rightV v = false := by simp [rightV, hr]
    rw [hv]
    have hE := emp0 v.x
    clear hr hv
    go_enter Try.func11, Try.ntmps11
    go_wp2_with (go_at_call 26; refine (HR.out _).mono ?_; rintro e w1 ⟨rfl, hb⟩; have hB : Below w.heap.size w w1 := via hb (by go_grown) (by go_size); clear hb)
    go_ret
    exact ⟨rfl, hB⟩
  | true =>
    have HR : Hid (∀ w, Calls Try.prog 26 #[stV v] w fun e w' => e = .returned (.bool true) ∧ Below w.heap.size w w') := Lib.hid fun w => hr ▸ rright_any v.w v.t v.m w
    have hv : rightV v = kindB v := by simp [rightV, hr]
    rw [hv]
    have hE := emp0 v.x
    clear hr hv
    go_enter Try.func11, Try.ntmps11
    go_wp2_with (go_at_call 26; refine (HR.out _).mono ?_; rintro e w1 ⟨rfl, hb⟩; have hB : Below w.heap.size w w1 := via hb (by go_grown) (by go_size); obtain ⟨hc, hf⟩ := bcell hb; have hz := hb.size; (try simp at hz); clear hb)
    all_goals go_ret
    all_goals clear hc hf hz HR
    all_goals exact ⟨ret_bool (by rw [Bool.eq_iff_iff]; simp only [kindB, decide_eq_true_eq, Bool.or_eq_true, beq_iff_eq, Bool.false_eq_true, true_iff, false_iff]; by_cases e : v.x.toList = [] <;> simp_all <;> omega), hB⟩
end Go.Proofs.Ytbeclajbpfglgaa
