/- The law LabelOrders: its walk. -/
import Derived.Test.YtpkadghdnlkfiabLbA
import Derived.Test.YtpkadghdnlkfiabLbK
import Derived.Test.YtpkadghdnlkfiabLbRc
import Derived.Test.YtpkadghdnlkfiabLbLM
namespace Go.Proofs.Ytpkadghdnlkfiab
open Go.RowKit

set_option maxRecDepth 100000 in
set_option maxHeartbeats 3200000 in
theorem orders_any (K : Nat) (A B C : Option Addr) (ac bc cc : Nat) (a b c : List Pp) (w : World) (ha : Lr w K A ac a) (hb : Lr w K B bc b) (hc : Lr w K C cc c) (hK : K ≤ w.heap.size) (la : a.length ≤ 1048576) (lb : b.length ≤ 1048576) (lc : c.length ≤ 1048576) :
    Calls Try.prog 3 #[.slice A a.length ac, .slice B b.length bc, .slice C c.length cc] w fun e w' => e = .returned (.bool true) ∧ Below w.heap.size w w' := by
  have HA := Lib.hid ha
  have HB := Lib.hid hb
  have HC := Lib.hid hc
  have bd1 := cmpL_bd a b
  have HT := Lib.hid (cmpL_trans a b c)
  have HAN := Lib.hid (cmpL_anti a b)
  clear ha hb hc
  go_enter Try.func3, Try.ntmps3
  go_wp2_with fail
  refine (to_any K A a.length ac a w rfl HA.out hK (by omega)).mono ?_
  rintro e w1 ⟨A1, c1, rfl, ha1, hb1⟩
  have z1 := hb1.size
  have hx1 := (So.sr encP_len ha1).1
  clear ha1
  go_wp2_with fail
  refine (to_any K B b.length bc b w1 rfl (HB.out.below (hb1.mono hK)) (by omega) (by omega)).mono ?_
  rintro e w2 ⟨A2, c2, rfl, ha2, hb2⟩
  have B2 := hb1.trans (hb2.mono z1)
  have z2 := hb2.size
  have hx2 := (So.sr encP_len ha2).1
  clear ha2
  go_wp2_with fail
  refine (to_any K C c.length cc c w2 rfl (HC.out.below (B2.mono hK)) (by omega) (by omega)).mono ?_
  rintro e w3 ⟨A3, c3, rfl, ha3, hb3⟩
  have B3 := B2.trans (hb3.mono (by omega))
  have z3 := hb3.size
  have X := Lib.hid ((hx1.below (hb2.trans (hb3.mono z2))).more (K' := w3.heap.size) (by omega))
  have Y := Lib.hid ((hx2.below hb3).more (K' := w3.heap.size) (by omega))
  have Z := Lib.hid ((So.sr encP_len ha3).1)
  have XA := Lib.hid ((HA.out.below (B3.mono hK)).more (K' := w3.heap.size) (by omega))
  have XB := Lib.hid ((HB.out.below (B3.mono hK)).more (K' := w3.heap.size) (by omega))
  have zz : w.heap.size ≤ w3.heap.size := by omega
  clear ha3 hb1 hb2 hb3 hx1 hx2 B2 z1 z2 z3 HA HB HC hK
  have cxy : ∀ W, Below w3.heap.size w3 W → Calls Try.prog 6 #[.slice A1 a.length c1, .slice A2 b.length c2] W fun e w' => e = .returned (.int .i64 (cmpL a b)) ∧ Below w3.heap.size w3 w' :=
    fun W hW => (compareL_any w3.heap.size A1 A2 a.length b.length c1 c2 a b W rfl rfl (X.out.below hW) (Y.out.below hW) hW.size).mono fun _ _ h => ⟨h.1, hW.trans (h.2.mono hW.size)⟩
  have cyx : ∀ W, Below w3.heap.size w3 W → Calls Try.prog 6 #[.slice A2 b.length c2, .slice A1 a.length c1] W fun e w' => e = .returned (.int .i64 (- cmpL a b)) ∧ Below w3.heap.size w3 w' :=
    fun W hW => (compareL_any w3.heap.size A2 A1 b.length a.length c2 c1 b a W rfl rfl (Y.out.below hW) (X.out.below hW) hW.size).mono fun _ _ h => ⟨by rw [h.1, HAN.out], hW.trans (h.2.mono hW.size)⟩
  have cyz : ∀ W, Below w3.heap.size w3 W → Calls Try.prog 6 #[.slice A2 b.length c2, .slice A3 c.length c3] W fun e w' => e = .returned (.int .i64 (cmpL b c)) ∧ Below w3.heap.size w3 w' :=
    fun W hW => (compareL_any w3.heap.size A2 A3 b.length c.length c2 c3 b c W rfl rfl (Y.out.below hW) (Z.out.below hW) hW.size).mono fun _ _ h => ⟨h.1, hW.trans (h.2.mono hW.size)⟩
  have cxz : ∀ W, Below w3.heap.size w3 W → Calls Try.prog 6 #[.slice A1 a.length c1, .slice A3 c.length c3] W fun e w' => e = .returned (.int .i64 (cmpL a c)) ∧ Below w3.heap.size w3 w' :=
    fun W hW => (compareL_any w3.heap.size A1 A3 a.length c.length c1 c3 a c W rfl rfl (X.out.below hW) (Z.out.below hW) hW.size).mono fun _ _ h => ⟨h.1, hW.trans (h.2.mono hW.size)⟩
  have cref : ∀ W, Below w3.heap.size w3 W → Calls Try.prog 7 #[.slice A a.length ac, .slice B b.length bc] W fun e w' => e = .returned (.int .i64 (cmpL a b)) ∧ Below w3.heap.size w3 w' :=
    fun W hW => (rCompare_any w3.heap.size A B a.length b.length ac bc a b W rfl rfl (XA.out.below hW) (XB.out.below hW) hW.size).mono fun _ _ h => ⟨h.1, hW.trans (h.2.mono hW.size)⟩
  generalize cmpL a b = r1 at *
  generalize cmpL b c = r2 at *
  generalize cmpL a c = r3 at *
  have CXY := Lib.hid cxy
  have CYX := Lib.hid cyx
  have CYZ := Lib.hid cyz
  have CXZ := Lib.hid cxz
  have CREF := Lib.hid cref
  clear cxy cyx cyz cxz cref X Y Z XA XB HAN
  obtain ⟨bd2, bd3⟩ := bd1
  go_wp2_with fail
  refine (CXY.out _ (Below.refl _ _)).mono ?_
  rintro e w4 ⟨rfl, b4⟩
  go_wp2_with fail
  refine (CREF.out _ b4).mono ?_
  rintro e w5 ⟨rfl, b5⟩
  clear b4
  go_wp2_with fail
  refine (CXY.out _ b5).mono ?_
  rintro e w6 ⟨rfl, b6⟩
  clear b5
  go_wp2_with fail
  refine (CYX.out _ b6).mono ?_
  rintro e w7 ⟨rfl, b7⟩
  clear b6
  go_wp2_with fail
  refine (awake_any _).mono ?_
  rintro e w8 ⟨rfl, hb8⟩
  have b8 := b7.trans (hb8.mono b7.size)
  clear b7 hb8
  go_wp2_with fail
  refine (CXY.out _ b8).mono ?_
  rintro e w9 ⟨rfl, b9⟩
  clear b8
  by_cases h1 : 0 < r1
  · go_wp2_with fail
    go_ret
    exact ⟨rfl, B3.trans (b9.mono zz)⟩
  · go_wp2_with fail
    refine (CYZ.out _ b9).mono ?_
    rintro e w10 ⟨rfl, b10⟩
    clear b9
    by_cases h2 : 0 < r2
    · go_wp2_with fail
      go_ret
      exact ⟨rfl, B3.trans (b10.mono zz)⟩
    · go_wp2_with fail
      refine (CXZ.out _ b10).mono ?_
      rintro e w11 ⟨rfl, b11⟩
      clear b10
      have h3 : r3 ≤ 0 := HT.out (by omega) (by omega)
      go_wp2_with fail
      go_ret
      exact ⟨rfl, B3.trans (b11.mono zz)⟩
end Go.Proofs.Ytpkadghdnlkfiab
