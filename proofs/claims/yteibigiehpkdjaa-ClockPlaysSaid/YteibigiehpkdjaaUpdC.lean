/- The contract of the clock: Update, whichever stamp is the greater one. -/
import Derived.Test.YteibigiehpkdjaaUpdB
namespace Go.Proofs.Yteibigiehpkdjaa
open Go.RowKit


/-- The greater one of the last stamp and the one that came in: its Wall, its Tick. -/
def uoW (lw lt iw it im : Int) : Int := if 0 < cmpS iw it im lw lt 0 then iw else lw
def uoT (lw lt iw it im : Int) : Int := if 0 < cmpS iw it im lw lt 0 then it else lt
theorem uo_ge (lw lt iw it im : Int) : (lw < (uoW lw lt iw it im) ∨ lw = (uoW lw lt iw it im) ∧ lt ≤ (uoT lw lt iw it im)) ∧ (iw < (uoW lw lt iw it im) ∨ iw = (uoW lw lt iw it im) ∧ it ≤ (uoT lw lt iw it im)) := by
  have h := cmpS_cases iw it im lw lt 0
  unfold uoW uoT
  split <;> omega
theorem uo_bd {lw lt iw it im : Int} (l0 : 0 ≤ lt) (l1 : lt ≤ 4294967295) (i0 : 0 ≤ it) (i1 : it ≤ 4294967295) : 0 ≤ (uoT lw lt iw it im) ∧ (uoT lw lt iw it im) ≤ 4294967295 := by
  unfold uoT
  split <;> omega

theorem update_any (b : Nat) (off up mk lw lt ph iw it im : Int) (hb0 : 0 ≤ lt) (hb1 : lt ≤ 4294967295) (hi0 : 0 ≤ it) (hi1 : it ≤ 4294967295) (hm0 : 0 ≤ im) (hm1 : im ≤ 4294967295) (w : World) (hk : Clk w b off up mk lw lt)
    (hr : rightB ph = true) (hri : rightB iw = true) (ho : iw - ph ≤ off) :
    Calls Try.prog 27 #[.pointer (some ⟨b, 0, none⟩), .int .i64 ph, .agg #[.int .i64 iw, .int .u32 it, .int .u32 im]] w fun e w' => e = .returned (.tuple #[.agg #[.int .i64 (gvA up ph (uoW lw lt iw it im) (uoT lw lt iw it im)), .int .u32 (gvB up ph (uoW lw lt iw it im) (uoT lw lt iw it im)), .int .u32 (gvM up mk ph (uoW lw lt iw it im) (uoT lw lt iw it im))], .int .i64 (gvE up ph (uoW lw lt iw it im) (uoT lw lt iw it im))]) ∧ Only b w w' ∧ Clk w' b off up mk (gvW up ph (uoW lw lt iw it im) (uoT lw lt iw it im) lw) (gvT up ph (uoW lw lt iw it im) (uoT lw lt iw it im) lt) := by
  by_cases hc : 0 < cmpS iw it im lw lt 0
  · have e1 : (uoW lw lt iw it im) = iw := if_pos hc
    have e2 : (uoT lw lt iw it im) = it := if_pos hc
    rw [e1, e2]
    exact update_in b off up mk lw lt ph iw it im hb0 hb1 hi0 hi1 hm0 hm1 w hk hr hri ho hc
  · have e1 : (uoW lw lt iw it im) = lw := if_neg hc
    have e2 : (uoT lw lt iw it im) = lt := if_neg hc
    rw [e1, e2]
    exact update_last b off up mk lw lt ph iw it im hb0 hb1 hi0 hi1 hm0 hm1 w hk hr hri ho (by omega)

end Go.Proofs.Yteibigiehpkdjaa
