/- The document's Same. -/
import Derived.Test.YtpkadghdnlkfiaaLbRc
namespace Go.Proofs.Ytpkadghdnlkfiaa
open Go.RowKit

theorem rSame_any (K : Nat) (A B : Option Addr) (n m cap cbp : Nat) (a b : List Pp) (w : World) (hn : a.length = n) (hm : b.length = m) (ha : Lr w K A cap a) (hb : Lr w K B cbp b) (hK : K ≤ w.heap.size) :
    Calls Try.prog 16 #[.slice A n cap, .slice B m cbp] w fun e w' => e = .returned (.bool (cmpL a b == 0)) ∧ Below w.heap.size w w' := by
  have HC := Lib.hid (rCompare_any K A B n m cap cbp a b w hn hm ha hb hK)
  clear hn hm ha hb
  generalize cmpL a b = r at *
  go_enter Try.func16, Try.ntmps16
  go_wp2_with (go_at_call 39; refine HC.out.mono ?_; rintro e w1 ⟨rfl, hb1⟩)
  go_ret
  exact ⟨rfl, hb1⟩
end Go.Proofs.Ytpkadghdnlkfiaa
