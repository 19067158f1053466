/- MatchBack: the walk. -/
import Derived.Test.YtfmgphjnajgldaaDoorMtA
import Derived.Test.YtfmgphjnajgldaaDoorIxA
import Derived.Test.YtfmgphjnajgldaaDoorMtX
import Derived.Test.YtfmgphjnajgldaaDoorMtF
import Derived.Test.YtfmgphjnajgldaaDoorMtSm
import Derived.Test.YtfmgphjnajgldaaDoorMtBM
namespace Go.Proofs.YtfmgphjnajgldaaDoor
open Go.RowKit

set_option maxRecDepth 100000 in
set_option maxHeartbeats 6400000 in
theorem mback_any (lA : Option Addr) (lc : Nat) (l : List Rp) (t : ByteArray) (w : World) (hl : Rr w w.heap.size lA lc l) (hR : SmR l) (hll : l.length ≤ 1048576) (hts : t.size ≤ 1048576) (hg : Sg w) (hm : Mx w) :
    Calls Tryd.prog 5 #[.slice lA l.length lc, .string t] w fun e w' => e = .returned (.bool true) ∧ Below w.heap.size w w' := by
  have HL := Lib.hid hl
  have HG := Lib.hid hg
  have HM := Lib.hid hm
  clear hl hg hm
  cases hr : rulesL l with
  | true =>
    have ER := Lib.hid hr
    have hl16 : l.length ≤ 16 := by
      unfold rulesL at hr
      rw [Bool.and_eq_true, decide_eq_true_eq] at hr
      exact hr.1
    have hp := parse_back hr t.data.toList
    have hT : (⟨(textR l).toArray⟩ : ByteArray).size = (textR l).length := by simp [ByteArray.size]
    have hTl : (textR l).length ≤ 70000000 := by
      have h1 := partsR_len (l := l) (fun x hx => hR x hx)
      have h2 : l.length * 4000001 ≤ 16 * 4000001 := Nat.mul_le_mul_right _ hl16
      unfold textR
      rw [List.length_cons, List.length_append]
      simp
      omega
    have hTd : (⟨(textR l).toArray⟩ ++ t : ByteArray).data.toList = textR l ++ t.data.toList := by simp
    rw [← hTd, ← hT] at hp
    rw [← hT] at hTl
    have EP := Lib.hid hp
    have HTS := Lib.hid hTl
    have a1 := str_add ⟨(textR l).toArray⟩ t (by omega)
    have en := beq_self_eq_true (((⟨(textR l).toArray⟩ : ByteArray).size : Nat) : Int)
    clear hr hp hT hTl hTd
    go_enter Tryd.func5, Tryd.ntmps5
    have HC1 := Lib.hid (toR_any w.heap.size lA l.length lc l w rfl (HL.out.below (Below.refl _ _)) (Nat.le_refl _) (by omega))
    go_wp2_with fail
    refine HC1.out.mono ?_
    rintro e w1 ⟨xA, xc, rfl, X, hb1⟩
    clear HC1
    have B1 : Below w.heap.size w w1 := hb1
    have z1 := B1.size
    clear hb1
    have X_1 := Lib.hid X
    clear X
    have HC2 := Lib.hid (mawake_any w1 (HG.out.below B1) (HM.out.below B1))
    go_wp2_with fail
    refine HC2.out.mono ?_
    rintro e w2 ⟨rfl, hb2⟩
    clear HC2
    have B2 : Below w.heap.size w w2 := B1.trans (hb2.mono B1.size)
    have z2 := B2.size
    have X_2 := Lib.hid (So.below X_1.out hb2)
    clear hb2
    have HC3 := Lib.hid ((show Calls Tryd.prog 9 #[.slice xA l.length xc] w2 (fun e w' => e = .returned (.bool true) ∧ Below w2.heap.size w2 w') by rw [← ER.out]; exact rightR_any w2.heap.size xA l.length xc l w2 rfl (So.sr encR_len X_2.out).1 (Nat.le_refl _) hR))
    go_wp2_with fail
    refine HC3.out.mono ?_
    rintro e w3 ⟨rfl, hb3⟩
    clear HC3
    have B3 : Below w.heap.size w w3 := B2.trans (hb3.mono B2.size)
    have z3 := B3.size
    have X_3 := Lib.hid (So.below X_2.out hb3)
    clear hb3
    have HC4 := Lib.hid (textRl_any w3.heap.size xA l.length xc l w3 rfl (So.sr encR_len X_3.out).1 (Nat.le_refl _) hR hll (HG.out.below B3))
    go_wp2_with fail
    refine HC4.out.mono ?_
    rintro e w4 ⟨rfl, hb4⟩
    clear HC4
    have B4 : Below w.heap.size w w4 := B3.trans (hb4.mono B3.size)
    have z4 := B4.size
    have X_4 := Lib.hid (So.below X_3.out hb4)
    clear hb4
    generalize (⟨(textR l).toArray⟩ : ByteArray) = T at *
    have HC5 := Lib.hid ((show Calls Tryd.prog 15 #[.string (T ++ t)] w4 (RsPost w4 (l, T.size)) by rw [← EP.out]; exact parseR_any (T ++ t) w4 (by have := HTS.out; rw [ByteArray.size_append]; omega) (fun k => idx_any _ (by have := HTS.out; rw [ex_size, ByteArray.size_append]; omega)) (HG.out.below B4)))
    go_wp2_with fail
    refine HC5.out.mono ?_
    rintro e w5 ⟨yA, yc, rfl, Y, hb5⟩
    clear HC5
    have B5 : Below w.heap.size w w5 := B4.trans (hb5.mono B4.size)
    have z5 := B5.size
    have X_5 := Lib.hid (So.below X_4.out hb5)
    clear hb5
    have Y_5 := Lib.hid Y
    clear Y
    have HC6 := Lib.hid (fromR_any w5.heap.size yA l.length yc l w5 rfl (So.sr encR_len Y_5.out).1 (Nat.le_refl _) (by omega))
    go_wp2_with fail
    refine HC6.out.mono ?_
    rintro e w6 ⟨vA, vc, rfl, V, hb6⟩
    clear HC6
    have B6 : Below w.heap.size w w6 := B5.trans (hb6.mono B5.size)
    have z6 := B6.size
    have X_6 := Lib.hid (So.below X_5.out hb6)
    have Y_6 := Lib.hid (So.below Y_5.out hb6)
    clear hb6
    have V_6 := Lib.hid V
    clear V
    have HC7 := Lib.hid (sameR_refl w6.heap.size vA lA l.length l.length vc lc l w6 rfl rfl (So.sr encR_len V_6.out).1 ((HL.out.below B6).more z6))
    go_wp2_with fail
    refine HC7.out.mono ?_
    rintro e w7 ⟨rfl, hb7⟩
    clear HC7
    have B7 : Below w.heap.size w w7 := B6.trans (hb7.mono B6.size)
    have z7 := B7.size
    have X_7 := Lib.hid (So.below X_6.out hb7)
    have Y_7 := Lib.hid (So.below Y_6.out hb7)
    have V_7 := Lib.hid (So.below V_6.out hb7)
    clear hb7
    go_wp2_with fail
    go_ret
    exact ⟨rfl, B7⟩
  | false =>
    have ER := Lib.hid hr
    clear hr
    go_enter Tryd.func5, Tryd.ntmps5
    have HC1 := Lib.hid (toR_any w.heap.size lA l.length lc l w rfl (HL.out.below (Below.refl _ _)) (Nat.le_refl _) (by omega))
    go_wp2_with fail
    refine HC1.out.mono ?_
    rintro e w1 ⟨xA, xc, rfl, X, hb1⟩
    clear HC1
    have B1 : Below w.heap.size w w1 := hb1
    have z1 := B1.size
    clear hb1
    have X_1 := Lib.hid X
    clear X
    have HC2 := Lib.hid (mawake_any w1 (HG.out.below B1) (HM.out.below B1))
    go_wp2_with fail
    refine HC2.out.mono ?_
    rintro e w2 ⟨rfl, hb2⟩
    clear HC2
    have B2 : Below w.heap.size w w2 := B1.trans (hb2.mono B1.size)
    have z2 := B2.size
    have X_2 := Lib.hid (So.below X_1.out hb2)
    clear hb2
    have HC3 := Lib.hid ((show Calls Tryd.prog 9 #[.slice xA l.length xc] w2 (fun e w' => e = .returned (.bool false) ∧ Below w2.heap.size w2 w') by rw [← ER.out]; exact rightR_any w2.heap.size xA l.length xc l w2 rfl (So.sr encR_len X_2.out).1 (Nat.le_refl _) hR))
    go_wp2_with fail
    refine HC3.out.mono ?_
    rintro e w3 ⟨rfl, hb3⟩
    clear HC3
    have B3 : Below w.heap.size w w3 := B2.trans (hb3.mono B2.size)
    have z3 := B3.size
    have X_3 := Lib.hid (So.below X_2.out hb3)
    clear hb3
    have HC4 := Lib.hid (mawake_any w3 (HG.out.below B3) (HM.out.below B3))
    go_wp2_with fail
    refine HC4.out.mono ?_
    rintro e w4 ⟨rfl, hb4⟩
    clear HC4
    have B4 : Below w.heap.size w w4 := B3.trans (hb4.mono B3.size)
    have z4 := B4.size
    have X_4 := Lib.hid (So.below X_3.out hb4)
    clear hb4
    go_wp2_with fail
    go_ret
    exact ⟨rfl, B4⟩
end Go.Proofs.YtfmgphjnajgldaaDoor
