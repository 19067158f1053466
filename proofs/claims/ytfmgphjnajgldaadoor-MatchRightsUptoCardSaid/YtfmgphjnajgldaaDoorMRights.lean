/- MatchRights: the walk. -/
import Derived.Test.YtfmgphjnajgldaaDoorMtA
import Derived.Test.YtfmgphjnajgldaaDoorMtS
import Derived.Test.YtfmgphjnajgldaaDoorMtD
namespace Go.Proofs.YtfmgphjnajgldaaDoor
open Go.RowKit

set_option maxRecDepth 100000 in
set_option maxHeartbeats 3200000 in
theorem mrights_any (lA sA : Option Addr) (lc sc : Nat) (l : List Rp) (s : List Pp) (w : World) (hl : Rr w w.heap.size lA lc l) (hs : Lr w w.heap.size sA sc s) (hR : SmR l) (hS : Sm s) (hll : l.length ≤ 1048576) (hsl : s.length ≤ 1048576) (hg : Sg w) (hm : Mx w) :
    Calls Tryd.prog 3 #[.slice lA l.length lc, .slice sA s.length sc] w fun e w' => e = .returned (.bool true) ∧ Below w.heap.size w w' := by
  have HL := Lib.hid hl
  have HS := Lib.hid hs
  have HG := Lib.hid hg
  have HM := Lib.hid hm
  clear hl hs hg hm
  go_enter Tryd.func3, Tryd.ntmps3
  have HC1 := Lib.hid (mawake_any w HG.out HM.out)
  go_wp2_with fail
  refine HC1.out.mono ?_
  rintro e w1 ⟨rfl, hb1⟩
  clear HC1
  have HB1 := Lib.hid hb1
  have B1 : Below w.heap.size w w1 := hb1
  have z1 := B1.size
  clear hb1
  have HC2 := Lib.hid (toR_any w.heap.size lA l.length lc l w1 rfl (HL.out.below B1) z1 (by omega))
  go_wp2_with fail
  refine HC2.out.mono ?_
  rintro e w2 ⟨xA, xc, rfl, X, hb2⟩
  clear HC2
  have HB2 := Lib.hid hb2
  have B2 : Below w.heap.size w w2 := B1.trans (hb2.mono B1.size)
  have z2 := B2.size
  clear hb2
  have X_2 := Lib.hid X
  clear X
  have HC3 := Lib.hid (rightR_any w2.heap.size xA l.length xc l w2 rfl (So.sr encR_len X_2.out).1 (Nat.le_refl _) hR)
  go_wp2_with fail
  refine HC3.out.mono ?_
  rintro e w3 ⟨rfl, hb3⟩
  clear HC3
  have HB3 := Lib.hid hb3
  have B3 : Below w.heap.size w w3 := B2.trans (hb3.mono B2.size)
  have z3 := B3.size
  have X_3 := Lib.hid (So.below X_2.out hb3)
  clear hb3
  have HC4 := Lib.hid (rRightR_any w.heap.size lA l.length lc l w3 rfl (HL.out.below B3) z3 hR)
  go_wp2_with fail
  refine HC4.out.mono ?_
  rintro e w4 ⟨rfl, hb4⟩
  clear HC4
  have HB4 := Lib.hid hb4
  have B4 : Below w.heap.size w w4 := B3.trans (hb4.mono B3.size)
  have z4 := B4.size
  have X_4 := Lib.hid (So.below X_3.out hb4)
  clear hb4
  have eb := beq_self_eq_true (rulesL l)
  generalize rulesL l = rb at *
  have HC5 := Lib.hid (toR_any w.heap.size lA l.length lc l w4 rfl (HL.out.below B4) z4 (by omega))
  go_wp2_with fail
  refine HC5.out.mono ?_
  rintro e w5 ⟨yA, yc, rfl, Y, hb5⟩
  clear HC5
  have HB5 := Lib.hid hb5
  have B5 : Below w.heap.size w w5 := B4.trans (hb5.mono B4.size)
  have z5 := B5.size
  have X_5 := Lib.hid (So.below X_4.out hb5)
  clear hb5
  have Y_5 := Lib.hid Y
  clear Y
  have HC6 := Lib.hid (to_any w.heap.size sA s.length sc s w5 rfl (HS.out.below B5) z5 (by omega))
  go_wp2_with fail
  refine HC6.out.mono ?_
  rintro e w6 ⟨tA, tc, rfl, V, hb6⟩
  clear HC6
  have HB6 := Lib.hid hb6
  have B6 : Below w.heap.size w w6 := B5.trans (hb6.mono B5.size)
  have z6 := B6.size
  have X_6 := Lib.hid (So.below X_5.out hb6)
  have Y_6 := Lib.hid (So.below Y_5.out hb6)
  clear hb6
  have V_6 := Lib.hid V
  clear V
  have HC7 := Lib.hid (allR_any w6.heap.size yA tA l.length yc s.length tc l s w6 rfl rfl (So.sr encR_len Y_6.out).1 (So.sr encP_len V_6.out).1 (Nat.le_refl _) hS (HM.out.below B6))
  go_wp2_with fail
  refine HC7.out.mono ?_
  rintro e w7 ⟨rfl, hb7⟩
  clear HC7
  have HB7 := Lib.hid hb7
  have B7 : Below w.heap.size w w7 := B6.trans (hb7.mono B6.size)
  have z7 := B7.size
  have X_7 := Lib.hid (So.below X_6.out hb7)
  have Y_7 := Lib.hid (So.below Y_6.out hb7)
  have V_7 := Lib.hid (So.below V_6.out hb7)
  clear hb7
  have HC8 := Lib.hid (rAll_any w.heap.size lA sA l.length lc s.length sc l s w7 rfl rfl (HL.out.below B7) (HS.out.below B7) z7 hS hR)
  go_wp2_with fail
  refine HC8.out.mono ?_
  rintro e w8 ⟨rfl, hb8⟩
  clear HC8
  have HB8 := Lib.hid hb8
  have B8 : Below w.heap.size w w8 := B7.trans (hb8.mono B7.size)
  have z8 := B8.size
  have X_8 := Lib.hid (So.below X_7.out hb8)
  have Y_8 := Lib.hid (So.below Y_7.out hb8)
  have V_8 := Lib.hid (So.below V_7.out hb8)
  clear hb8
  have ea := beq_self_eq_true (allB s l)
  generalize allB s l = ab at *
  go_wp2_with fail
  go_ret
  exact ⟨rfl, B8⟩
end Go.Proofs.YtfmgphjnajgldaaDoor
