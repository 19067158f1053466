/- The document's Same of rules, at one and the same list. -/
import Derived.Test.YtfmgphjnajgldaaDoorMtT
import Derived.Test.YtfmgphjnajgldaaDoorLbR
import Derived.Deep.QuietTactic
import Derived.BigQuiet
namespace Go.Proofs.YtfmgphjnajgldaaDoor
open Go.RowKit

set_option maxHeartbeats 1600000 in
theorem sameR_refl (K : Nat) (A B : Option Addr) (n m cap cbp : Nat) (l : List Rp) (w : World) (hn : l.length = n) (hm : l.length = m) (ha : Rr w K A cap l) (hb : Rr w K B cbp l) :
    Calls Tryd.prog 19 #[.slice A n cap, .slice B m cbp] w fun e w' => e = .returned (.bool true) ∧ Below w.heap.size w w' := by
  subst hn hm
  have hle := ha.le
  have hmax := ha.max
  unfold maxLen at hmax
  go_enter Tryd.func19, Tryd.ntmps19
  go_wp2
  go_loopw [5] (fun i wr => ∃ k : Nat, k ≤ l.length ∧ i = .int .i64 k ∧ ∃ n, wr = w.drewN n) (fun i _ => l.length - (intOf i).toNat)
  case atStart => exact ⟨0, Nat.zero_le _, rfl, 0, rfl⟩
  case round =>
    obtain ⟨k, hk, rfl, d, rfl⟩ := hrel
    by_cases hlt : k < l.length
    · obtain ⟨ad, rfl, _, h1, h2, h3⟩ := rr_at ha hlt
      obtain ⟨bd, rfl, _, g1, g2, g3⟩ := rr_at hb hlt
      generalize l.getD k nilR = x at *
      obtain ⟨xn, xo, xv⟩ := x
      simp only at h1 h2 h3 g1 g2 g3
      go_wp2_with fail
      go_quiet (fail)
      go_wp2_with fail
      go_roundw
      case rel => exact ⟨k + 1, by omega, by go_num, _, rfl⟩
      case measure => simp [intOf]; omega
    · go_wp2_with fail
      go_ret
      exact ⟨rfl, below_drewN (Below.refl _ _) _⟩
end Go.Proofs.YtfmgphjnajgldaaDoor
