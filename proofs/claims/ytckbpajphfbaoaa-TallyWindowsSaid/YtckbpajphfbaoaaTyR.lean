/- The document's Rising. -/
import Derived.Test.YtckbpajphfbaoaaTyC1
import Derived.Deep.CutBlock
namespace Go.Proofs.Ytckbpajphfbaoaa
open Go.RowKit Go.BigFrame

noncomputable def risD (l : List Smp) : Bool := @decide (risB l) (Classical.propDecidable _)
theorem risD_true {l : List Smp} (h : risB l) : risD l = true := by unfold risD; exact @decide_eq_true _ (Classical.propDecidable _) h
theorem risD_false {l : List Smp} (h : ¬ risB l) : risD l = false := by unfold risD; exact @decide_eq_false _ (Classical.propDecidable _) h
theorem of_risD {l : List Smp} (h : risD l = true) : risB l := by unfold risD at h; exact @of_decide_eq_true _ (Classical.propDecidable _) h
set_option maxRecDepth 100000 in
set_option maxHeartbeats 1600000 in
theorem rising_any (K : Nat) (A : Option Addr) (n cap : Nat) (l : List Smp) (w : World) (hln : l.length = n) (hp : Sr encS 2 w K A cap l) (hK : K ≤ w.heap.size) :
    Calls Try.prog 13 #[.slice A n cap] w fun e w' => e = .returned (.bool (risD l)) ∧ Below w.heap.size w w' := by
  subst hln
  have hle := hp.le
  have hmax := hp.max
  unfold maxLen at hmax
  have HP := Lib.hid hp
  clear hp
  go_enter Try.func13, Try.ntmps13
  go_wp2
  go_loopw [3] (fun i wr => ∃ (k : Nat), 1 ≤ k ∧ (k ≤ l.length ∨ k = 1) ∧ i = .int .i64 k ∧ Hid (∀ i, i + 1 < k → (l.getD i (0, 0)).1 ≤ (l.getD (i + 1) (0, 0)).1) ∧ Below w.heap.size w wr) (fun i _ => l.length + 1 - (intOf i).toNat)
  case atStart => exact ⟨1, by omega, .inr rfl, rfl, Lib.hid (fun i h => absurd h (by omega)), Below.refl _ _⟩
  case round =>
    obtain ⟨k, hk1, hk, rfl, HJ, hbl⟩ := hrel
    rename World => wr
    have z := hbl.size
    by_cases hlt : k < l.length
    · obtain ⟨j, rfl⟩ : ∃ j, k = j + 1 := ⟨k - 1, by omega⟩
      have hS := HP.out.below (hbl.mono hK)
      obtain ⟨ad, rfl, _, c0, c1⟩ := s_cells hS hlt
      obtain ⟨ad2, e2, _, d0, d1⟩ := s_cells hS (i := j) (by omega)
      cases e2
      have e1 : l.getD (j + 1) (0, 0) = l[j + 1] := by rw [List.getD_eq_getElem?_getD, List.getElem?_eq_getElem hlt]; rfl
      have e2 : l.getD j (0, 0) = l[j] := by rw [List.getD_eq_getElem?_getD, List.getElem?_eq_getElem (by omega)]; rfl
      have HX : Hid (¬ l[j + 1].1 < l[j].1 → ∀ i, i + 1 < j + 1 + 1 → (l.getD i (0, 0)).1 ≤ (l.getD (i + 1) (0, 0)).1) := Lib.hid fun h i hi => by
        by_cases e : i = j
        · subst e; rw [e1, e2]; omega
        · exact HJ.out i (by omega)
      have HY : Hid (l[j + 1].1 < l[j].1 → risD l = false) := Lib.hid fun h => risD_false fun hr => by
        have := hr j hlt
        rw [e1, e2] at this
        omega
      generalize l[j + 1] = x at *
      generalize l[j] = y at *
      obtain ⟨x0, x1⟩ := x
      obtain ⟨y0, y1⟩ := y
      simp only at c0 c1 d0 d1
      obtain ⟨k, hk'⟩ : ∃ k, k = j + 1 := ⟨_, rfl⟩
      rw [← hk'] at hk1 hk hlt c0 c1 ⊢
      have i1 : (k : Int) - 1 = (j : Int) := by omega
      have iw : IntKind.i64.wrap (j : Int) = (j : Int) := wrapI _ (by omega) (by omega)
      have i2 : (k : Int) < l.length := by omega
      have i3 : (j : Int) < l.length := by omega
      have HK := Lib.hid hk'
      clear e1 e2 hS hk' HJ
      by_cases hc : x0 < y0
      · have HF := Lib.hid (HY.out hc)
        go_wp2_with fail
        go_quiet (fail)
        go_wp2_with fail
        go_ret
        exact ⟨ret_bool HF.out.symm, hbl.trans ⟨rfl, rfl, rfl, Nat.le_refl _, fun _ _ => rfl⟩⟩
      · have HF := Lib.hid (HX.out hc)
        go_wp2_with fail
        go_quiet (fail)
        go_wp2_with fail
        go_roundw
        case rel => exact ⟨k + 1, by omega, by omega, by go_num, Lib.hid (by rw [HK.out]; exact HF.out), hbl.trans ⟨rfl, rfl, rfl, Nat.le_refl _, fun _ _ => rfl⟩⟩
        case measure => simp [intOf]; omega
    · have HF : Hid (risD l = true) := Lib.hid (risD_true fun i hi => HJ.out i (by omega))
      go_wp2
      go_ret
      exact ⟨ret_bool HF.out.symm, hbl⟩
end Go.Proofs.Ytckbpajphfbaoaa
