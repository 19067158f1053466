/- The contract of the clock: Update in two cases: refused, given. -/
import Derived.Test.YteibigiehpkdjaaUpdC
import Derived.Test.YteibigiehpkdjaaRiseM
namespace Go.Proofs.Yteibigiehpkdjaa
open Go.RowKit


/-- The errno of Update. -/
def upE (off up ph lw lt iw it im : Int) : Int := if rightB ph = true then (if rightB iw = true then (if off < iw - ph then 21 else gvE up ph (uoW lw lt iw it im) (uoT lw lt iw it im)) else 1) else 1

theorem update_no (b : Nat) (mk off up ph lw lt iw it im : Int) (hb0 : 0 ≤ lt) (hb1 : lt ≤ 4294967295) (hi0 : 0 ≤ it) (hi1 : it ≤ 4294967295) (hm0 : 0 ≤ im) (hm1 : im ≤ 4294967295) (w : World) (hk : Clk w b off up mk lw lt) (h : upE off up ph lw lt iw it im ≠ 0) :
    Calls Try.prog 27 #[.pointer (some ⟨b, 0, none⟩), .int .i64 ph, .agg #[.int .i64 iw, .int .u32 it, .int .u32 im]] w fun e w' => e = .returned (.tuple #[.agg #[.int .i64 0, .int .u32 0, .int .u32 0], .int .i64 (upE off up ph lw lt iw it im)]) ∧ Only b w w' ∧ Clk w' b off up mk lw lt := by
  by_cases hr : rightB ph = true
  · by_cases hri : rightB iw = true
    · by_cases ho : off < iw - ph
      · have e1 : upE off up ph lw lt iw it im = 21 := by simp [upE, hr, hri, ho]
        rw [e1]
        exact (update_bad3 off up mk lw lt b ph iw it im w hk hr hri ho).mono fun e w' ⟨he, hb⟩ => ⟨he, Only.of_below hb, hk.below hb⟩
      · have e1 : upE off up ph lw lt iw it im = gvE up ph (uoW lw lt iw it im) (uoT lw lt iw it im) := by simp [upE, hr, hri, ho]
        rw [e1] at h ⊢
        refine (update_any b off up mk lw lt ph iw it im hb0 hb1 hi0 hi1 hm0 hm1 w hk hr hri (by omega)).mono fun e w' ⟨he, hon, hc⟩ => ?_
        have g := gv_same (lw0 := lw) (lt0 := lt) h
        rw [g.1, g.2] at hc
        exact ⟨by rw [he]; simp [gvA, gvB, gvM, h], hon, hc⟩
    · have hri' : rightB iw = false := by simpa using hri
      have e1 : upE off up ph lw lt iw it im = 1 := by simp [upE, hr, hri]
      rw [e1]
      exact (update_bad2 b ph iw it im w hr hri').mono fun e w' ⟨he, hb⟩ => ⟨he, Only.of_below hb, hk.below hb⟩
  · have hr' : rightB ph = false := by simpa using hr
    have e1 : upE off up ph lw lt iw it im = 1 := by simp [upE, hr]
    rw [e1]
    exact (update_bad1 b ph iw it im w hr').mono fun e w' ⟨he, hb⟩ => ⟨he, Only.of_below hb, hk.below hb⟩

theorem update_ok (b : Nat) (mk off up ph lw lt iw it im : Int) (hb0 : 0 ≤ lt) (hb1 : lt ≤ 4294967295) (hi0 : 0 ≤ it) (hi1 : it ≤ 4294967295) (hm0 : 0 ≤ im) (hm1 : im ≤ 4294967295) (h : upE off up ph lw lt iw it im = 0) :
    ∃ A B : Int, A ≤ up ∧ ph ≤ A ∧ (lw < A ∨ lw = A ∧ lt < B) ∧ (iw < A ∨ iw = A ∧ it < B) ∧ (0 ≤ B ∧ B ≤ 4294967295) ∧ iw - ph ≤ off ∧ (0 ≤ ph ∧ ph ≤ 4611686018427387904) ∧ (0 ≤ iw ∧ iw ≤ 4611686018427387904) ∧
    ∀ w, Clk w b off up mk lw lt → Calls Try.prog 27 #[.pointer (some ⟨b, 0, none⟩), .int .i64 ph, .agg #[.int .i64 iw, .int .u32 it, .int .u32 im]] w fun e w' => e = .returned (.tuple #[.agg #[.int .i64 A, .int .u32 B, .int .u32 mk], .int .i64 0]) ∧ Only b w w' ∧ Clk w' b off up mk A B := by
  by_cases hr : rightB ph = true
  · by_cases hri : rightB iw = true
    · by_cases ho : off < iw - ph
      · simp [upE, hr, hri, ho] at h
      · have e1 : upE off up ph lw lt iw it im = gvE up ph (uoW lw lt iw it im) (uoT lw lt iw it im) := by simp [upE, hr, hri, ho]
        rw [e1] at h
        obtain ⟨u0, u1⟩ := uo_bd (lw := lw) (iw := iw) (im := im) hb0 hb1 hi0 hi1
        obtain ⟨g1, g2, g3, g4⟩ := gv_facts h u0 u1
        obtain ⟨n1, n2, n3⟩ := gv_new (lw0 := lw) (lt0 := lt) (mk := mk) h
        have hge := uo_ge lw lt iw it im
        refine ⟨gvA up ph (uoW lw lt iw it im) (uoT lw lt iw it im), gvB up ph (uoW lw lt iw it im) (uoT lw lt iw it im), g1, g2, by omega, by omega, g4, by omega, by simpa [rightB] using hr, by simpa [rightB] using hri, fun w hk => ?_⟩
        refine (update_any b off up mk lw lt ph iw it im hb0 hb1 hi0 hi1 hm0 hm1 w hk hr hri (by omega)).mono fun e w' ⟨he, hon, hc⟩ => ?_
        rw [n1, n2] at hc
        exact ⟨by rw [he, n3, h], hon, hc⟩
    · simp [upE, hr, hri] at h
  · simp [upE, hr] at h

end Go.Proofs.Yteibigiehpkdjaa
