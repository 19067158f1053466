/- MatchTexts: the walk (Same at one list stands here once more: a claim has at most sixty files). -/
import Derived.Test.YtfmgphjnajgldaaDoorMtA
import Derived.Test.YtfmgphjnajgldaaDoorIxA
import Derived.Test.YtfmgphjnajgldaaDoorMtX
import Derived.Test.YtfmgphjnajgldaaDoorMtXr
import Derived.Test.YtfmgphjnajgldaaDoorMtZ
import Derived.Test.YtfmgphjnajgldaaDoorMtF
import Derived.Test.YtfmgphjnajgldaaDoorMtBM
namespace Go.Proofs.YtfmgphjnajgldaaDoor
open Go.RowKit

set_option maxHeartbeats 1600000 in
theorem sameR_refl (K : Nat) (A B : Option Addr) (n m cap cbp : Nat) (l : List Rp) (w : World) (hn : l.length = n) (hm : l.length = m) (ha : Rr w K A cap l) (hb : Rr w K B cbp l) :
    Calls Tryd.prog 19 #[.slice A n cap, .slice B m cbp] w fun e w' => e = .returned (.bool true) ∧ Below w.heap.size w w' := by
  subst hn hm
  have hle := ha.le
  have hmax := ha.max
  unfold maxLen at hmax
  go_enter Tryd.func19, Tryd.ntmps19
  go_wp2
  go_loopw [5] (fun i wr => ∃ k : Nat, k ≤ l.length ∧ i = .int .i64 k ∧ ∃ n, wr = w.drewN n) (fun i _ => l.length - (intOf i).toNat)
  case atStart => exact ⟨0, Nat.zero_le _, rfl, 0, rfl⟩
  case round =>
    obtain ⟨k, hk, rfl, d, rfl⟩ := hrel
    by_cases hlt : k < l.length
    · obtain ⟨ad, rfl, _, h1, h2, h3⟩ := rr_at ha hlt
      obtain ⟨bd, rfl, _, g1, g2, g3⟩ := rr_at hb hlt
      generalize l.getD k nilR = x at *
      obtain ⟨xn, xo, xv⟩ := x
      simp only at h1 h2 h3 g1 g2 g3
      go_wp2_with fail
      go_quiet (fail)
      go_wp2_with fail
      go_roundw
      case rel => exact ⟨k + 1, by omega, by go_num, _, rfl⟩
      case measure => simp [intOf]; omega
    · go_wp2_with fail
      go_ret
      exact ⟨rfl, below_drewN (Below.refl _ _) _⟩
set_option maxRecDepth 100000 in
set_option maxHeartbeats 6400000 in
theorem mtexts_any (lA : Option Addr) (lc : Nat) (l : List Rp) (t : ByteArray) (w : World) (hl : Rr w w.heap.size lA lc l) (hR : SmR l) (hll : l.length ≤ 1048576) (hts : t.size ≤ 1048576) (hg : Sg w) (hm : Mx w) :
    Calls Tryd.prog 4 #[.slice lA l.length lc, .string t] w fun e w' => e = .returned (.bool true) ∧ Below w.heap.size w w' := by
  have HL := Lib.hid hl
  have HG := Lib.hid hg
  have HM := Lib.hid hm
  clear hl hg hm
  have HPA := Lib.hid (parseR_any t w (by omega) (fun k => idx_any _ (by rw [ex_size]; omega)) HG.out)
  have HPB := Lib.hid (fun W => rParseR_any t W hts)
  rw [doc_eq] at HPB
  have hpc := parseB_count t.data.toList
  generalize parseB t.data.toList = r at *
  obtain ⟨pl, pn⟩ := r
  unfold RsPost at HPA
  unfold RdPost2 at HPB
  simp only at HPA HPB hpc
  go_enter Tryd.func4, Tryd.ntmps4
  have HC1 := Lib.hid (HPA.out)
  go_wp2_with fail
  refine HC1.out.mono ?_
  rintro e w1 ⟨xA, xc, rfl, X, hb1⟩
  clear HC1
  have B1 : Below w.heap.size w w1 := hb1
  have z1 := B1.size
  clear hb1
  have X_1 := Lib.hid X
  clear X
  have HC2 := Lib.hid (HPB.out w1)
  go_wp2_with fail
  refine HC2.out.mono ?_
  rintro e w2 ⟨yA, yc, rfl, Y, hb2⟩
  clear HC2
  have B2 : Below w.heap.size w w2 := B1.trans (hb2.mono B1.size)
  have z2 := B2.size
  have X_2 := Lib.hid (So.below X_1.out hb2)
  clear hb2
  have Y_2 := Lib.hid Y
  clear Y
  have HC3 := Lib.hid (mawake_any w2 (HG.out.below B2) (HM.out.below B2))
  go_wp2_with fail
  refine HC3.out.mono ?_
  rintro e w3 ⟨rfl, hb3⟩
  clear HC3
  have B3 : Below w.heap.size w w3 := B2.trans (hb3.mono B2.size)
  have z3 := B3.size
  have X_3 := Lib.hid (So.below X_2.out hb3)
  have Y_3 := Lib.hid (So.below Y_2.out hb3)
  clear hb3
  have HC4 := Lib.hid (toR_any w.heap.size lA l.length lc l w3 rfl (HL.out.below B3) z3 (by omega))
  go_wp2_with fail
  refine HC4.out.mono ?_
  rintro e w4 ⟨uA, uc, rfl, U, hb4⟩
  clear HC4
  have B4 : Below w.heap.size w w4 := B3.trans (hb4.mono B3.size)
  have z4 := B4.size
  have X_4 := Lib.hid (So.below X_3.out hb4)
  have Y_4 := Lib.hid (So.below Y_3.out hb4)
  clear hb4
  have U_4 := Lib.hid U
  clear U
  have HC5 := Lib.hid (textRl_any w4.heap.size uA l.length uc l w4 rfl (So.sr encR_len U_4.out).1 (Nat.le_refl _) hR hll (HG.out.below B4))
  go_wp2_with fail
  refine HC5.out.mono ?_
  rintro e w5 ⟨rfl, hb5⟩
  clear HC5
  have B5 : Below w.heap.size w w5 := B4.trans (hb5.mono B4.size)
  have z5 := B5.size
  have X_5 := Lib.hid (So.below X_4.out hb5)
  have Y_5 := Lib.hid (So.below Y_4.out hb5)
  have U_5 := Lib.hid (So.below U_4.out hb5)
  clear hb5
  have HC6 := Lib.hid (rTextR_any w.heap.size lA l.length lc l w5 rfl (HL.out.below B5) z5 (fun x hx => hR x hx) hll)
  go_wp2_with fail
  refine HC6.out.mono ?_
  rintro e w6 ⟨rfl, hb6⟩
  clear HC6
  have B6 : Below w.heap.size w w6 := B5.trans (hb6.mono B5.size)
  have z6 := B6.size
  have X_6 := Lib.hid (So.below X_5.out hb6)
  have Y_6 := Lib.hid (So.below Y_5.out hb6)
  have U_6 := Lib.hid (So.below U_5.out hb6)
  clear hb6
  generalize (⟨(textR l).toArray⟩ : ByteArray) = T at *
  have et := beq_self_eq_true T.toList
  have en := beq_self_eq_true ((pn : Nat) : Int)
  have HC7 := Lib.hid (fromR_any w6.heap.size xA pl.length xc pl w6 rfl (So.sr encR_len X_6.out).1 (Nat.le_refl _) (by omega))
  go_wp2_with fail
  refine HC7.out.mono ?_
  rintro e w7 ⟨vA, vc, rfl, V, hb7⟩
  clear HC7
  have B7 : Below w.heap.size w w7 := B6.trans (hb7.mono B6.size)
  have z7 := B7.size
  have X_7 := Lib.hid (So.below X_6.out hb7)
  have Y_7 := Lib.hid (So.below Y_6.out hb7)
  have U_7 := Lib.hid (So.below U_6.out hb7)
  clear hb7
  have V_7 := Lib.hid V
  clear V
  have HC8 := Lib.hid (sameR_refl w7.heap.size vA yA pl.length pl.length vc yc pl w7 rfl rfl (So.sr encR_len V_7.out).1 (So.sr encR_len Y_7.out).1)
  go_wp2_with fail
  refine HC8.out.mono ?_
  rintro e w8 ⟨rfl, hb8⟩
  clear HC8
  have B8 : Below w.heap.size w w8 := B7.trans (hb8.mono B7.size)
  have z8 := B8.size
  have X_8 := Lib.hid (So.below X_7.out hb8)
  have Y_8 := Lib.hid (So.below Y_7.out hb8)
  have U_8 := Lib.hid (So.below U_7.out hb8)
  have V_8 := Lib.hid (So.below V_7.out hb8)
  clear hb8
  go_wp2_with fail
  go_ret
  exact ⟨rfl, B8⟩
end Go.Proofs.YtfmgphjnajgldaaDoor
