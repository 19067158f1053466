/- A step of a clock, whichever it is: what it gives, and what the clock holds behind it. -/
import Derived.Test.YteibigiehpkdjaaUpdD
import Derived.Test.YteibigiehpkdjaaOps
namespace Go.Proofs.Yteibigiehpkdjaa
open Go.RowKit


/-- What a step gives (X, Y, Z and the errno E), and what the clock holds behind it. -/
def Step (up lw lt mk X Y Z E up' lw' lt' : Int) : Prop :=
  (0 ≤ lt' ∧ lt' ≤ 4294967295) ∧ up ≤ up' ∧ up' ≤ 4611686018427387904 ∧
    ((E = 0 ∧ X = lw' ∧ Y = lt' ∧ Z = mk ∧ up' = up ∧ lw' ≤ up ∧ (lw < lw' ∨ lw = lw' ∧ lt < lt')) ∨ (E ≠ 0 ∧ X = 0 ∧ Y = 0 ∧ Z = 0 ∧ lw' = lw ∧ lt' = lt))

theorem now_step (b : Nat) (off up mk lw lt ph : Int) (l0 : 0 ≤ lt) (l1 : lt ≤ 4294967295) (u1 : up ≤ 4611686018427387904) :
    ∃ X Y Z E lw' lt' : Int, Step up lw lt mk X Y Z E up lw' lt' ∧ ∀ w, Clk w b off up mk lw lt →
      Calls Try.prog 25 #[.pointer (some ⟨b, 0, none⟩), .int .i64 ph] w fun e w' => e = .returned (.tuple #[.agg #[.int .i64 X, .int .u32 Y, .int .u32 Z], .int .i64 E]) ∧ Only b w w' ∧ Clk w' b off up mk lw' lt' := by
  by_cases hr : rightB ph = true
  · by_cases hE : gvE up ph lw lt = 0
    · obtain ⟨g1, g2, g3, g4, g5⟩ := gv_facts hE l0 l1
      obtain ⟨n1, n2, n3⟩ := gv_new (lw0 := lw) (lt0 := lt) (mk := mk) hE
      refine ⟨gvA up ph lw lt, gvB up ph lw lt, mk, 0, gvA up ph lw lt, gvB up ph lw lt, ⟨⟨g4, g5⟩, by omega, u1, .inl ⟨rfl, rfl, rfl, rfl, rfl, g1, g3⟩⟩, fun w hk => ?_⟩
      refine (now_any b off up mk lw lt ph l0 l1 w hk hr).mono fun e w' ⟨he, ho, hc⟩ => ?_
      rw [n1, n2] at hc
      exact ⟨by rw [he, n3, hE], ho, hc⟩
    · obtain ⟨s1, s2⟩ := gv_same (lw0 := lw) (lt0 := lt) hE
      refine ⟨0, 0, 0, gvE up ph lw lt, lw, lt, ⟨⟨l0, l1⟩, by omega, u1, .inr ⟨hE, rfl, rfl, rfl, rfl, rfl⟩⟩, fun w hk => ?_⟩
      refine (now_any b off up mk lw lt ph l0 l1 w hk hr).mono fun e w' ⟨he, ho, hc⟩ => ?_
      rw [s1, s2] at hc
      exact ⟨by rw [he]; simp [gvA, gvB, gvM, hE], ho, hc⟩
  · have hr' : rightB ph = false := by simpa using hr
    exact ⟨0, 0, 0, 1, lw, lt, ⟨⟨l0, l1⟩, by omega, u1, .inr ⟨by decide, rfl, rfl, rfl, rfl, rfl⟩⟩, fun w hk => (now_bad b ph w hr').mono fun e w' ⟨he, hb⟩ => ⟨he, Only.of_below hb, hk.below hb⟩⟩

theorem update_step (b : Nat) (off up mk lw lt ph iw it im : Int) (l0 : 0 ≤ lt) (l1 : lt ≤ 4294967295) (u1 : up ≤ 4611686018427387904) (it0 : 0 ≤ it) (it1 : it ≤ 4294967295) (im0 : 0 ≤ im) (im1 : im ≤ 4294967295) :
    ∃ X Y Z E lw' lt' : Int, Step up lw lt mk X Y Z E up lw' lt' ∧ ∀ w, Clk w b off up mk lw lt →
      Calls Try.prog 27 #[.pointer (some ⟨b, 0, none⟩), .int .i64 ph, .agg #[.int .i64 iw, .int .u32 it, .int .u32 im]] w fun e w' => e = .returned (.tuple #[.agg #[.int .i64 X, .int .u32 Y, .int .u32 Z], .int .i64 E]) ∧ Only b w w' ∧ Clk w' b off up mk lw' lt' := by
  by_cases hE : upE off up ph lw lt iw it im = 0
  · obtain ⟨A, B, hAu, hAp, hlex, _, ⟨hB0, hB1⟩, _, _, _, hU⟩ := update_ok b mk off up ph lw lt iw it im l0 l1 it0 it1 im0 im1 hE
    exact ⟨A, B, mk, 0, A, B, ⟨⟨hB0, hB1⟩, by omega, u1, .inl ⟨rfl, rfl, rfl, rfl, rfl, hAu, hlex⟩⟩, hU⟩
  · exact ⟨0, 0, 0, upE off up ph lw lt iw it im, lw, lt, ⟨⟨l0, l1⟩, by omega, u1, .inr ⟨hE, rfl, rfl, rfl, rfl, rfl⟩⟩, fun w hk => update_no b mk off up ph lw lt iw it im l0 l1 it0 it1 im0 im1 w hk hE⟩

theorem raise_step (b : Nat) (off up mk lw lt ph : Int) (u1 : up ≤ 4611686018427387904) :
    ∃ E up' : Int, (up ≤ up' ∧ up' ≤ 4611686018427387904) ∧ ∀ w, Clk w b off up mk lw lt →
      Calls Try.prog 30 #[.pointer (some ⟨b, 0, none⟩), .int .i64 ph] w fun e w' => e = .returned (.int .i64 E) ∧ Only b w w' ∧ Clk w' b off up' mk lw lt := by
  by_cases h : up ≤ ph ∧ ph ≤ 4611686018427387904
  · exact ⟨0, ph, h, fun w hk => raise_yes b off up mk lw lt ph w hk h.1 h.2⟩
  · refine ⟨1, up, ⟨Int.le_refl _, u1⟩, fun w hk => (raise_no b off up mk lw lt ph w hk (by omega)).mono fun e w' ⟨he, hw⟩ => ?_⟩
    subst hw
    exact ⟨he, Only.refl b w, hk⟩

end Go.Proofs.Yteibigiehpkdjaa
