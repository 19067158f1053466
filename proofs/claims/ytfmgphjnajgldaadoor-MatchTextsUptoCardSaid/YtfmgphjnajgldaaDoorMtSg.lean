/- The document's Sign and Same of rules. -/
import Derived.Test.YtfmgphjnajgldaaDoorMtPM
import Derived.Test.YtfmgphjnajgldaaDoorMtT
import Derived.Test.YtfmgphjnajgldaaDoorLbR
import Derived.Deep.QuietTactic
import Derived.BigQuiet
namespace Go.Proofs.YtfmgphjnajgldaaDoor
open Go.RowKit

theorem rSign_any (o : Int) (w : World) : Calls Tryd.prog 32 #[.int .i64 o] w fun e w' => e = .returned (.string ⟨(sgB o).toArray⟩) ∧ w = w' := by
  by_cases h1 : o = 1
  · subst h1
    go_enter Tryd.func32, Tryd.ntmps32
    go_wp2
    go_ret
    exact ⟨rfl, rfl⟩
  by_cases h2 : o = 2
  · subst h2
    go_enter Tryd.func32, Tryd.ntmps32
    go_wp2
    go_ret
    exact ⟨rfl, rfl⟩
  by_cases h3 : o = 3
  · subst h3
    go_enter Tryd.func32, Tryd.ntmps32
    go_wp2
    go_ret
    exact ⟨rfl, rfl⟩
  by_cases h4 : o = 4
  · subst h4
    go_enter Tryd.func32, Tryd.ntmps32
    go_wp2
    go_ret
    exact ⟨rfl, rfl⟩
  · have HF : Hid (sgB o = []) := Lib.hid (by simp [sgB, h1, h2, h3, h4])
    have e1 : (o == 1) = false := beq_eq_false_iff_ne.2 h1
    have e2 : (o == 2) = false := beq_eq_false_iff_ne.2 h2
    have e3 : (o == 3) = false := beq_eq_false_iff_ne.2 h3
    have e4 : (o == 4) = false := beq_eq_false_iff_ne.2 h4
    clear h1 h2 h3 h4
    go_enter Tryd.func32, Tryd.ntmps32
    go_wp2
    go_ret
    rw [HF.out]
    exact ⟨rfl, rfl⟩
end Go.Proofs.YtfmgphjnajgldaaDoor
