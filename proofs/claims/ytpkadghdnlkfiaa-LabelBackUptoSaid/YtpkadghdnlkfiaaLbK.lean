/- The program's Compare. -/
import Derived.Test.YtpkadghdnlkfiaaLbKM
import Derived.Test.YtpkadghdnlkfiaaShC
import Derived.Test.YtpkadghdnlkfiaaLbR
import Derived.Deep.RegionHeld3
namespace Go.Proofs.Ytpkadghdnlkfiaa
open Go.RowKit

theorem or_any (b : Nat) (u v : Int) (w : World) (h0 : w.cell? ⟨b, 0, none⟩ = some (.int .i64 u)) (h1 : w.cell? ⟨b, 1, none⟩ = some (.int .i64 v)) :
    Calls Try.prog 47 #[.slice (some ⟨b, 0, none⟩) 2 2] w fun e w' => e = .returned (.int .i64 (orI u v)) ∧ w = w' := by
  by_cases hu : u = 0
  · have e : orI u v = v := by simp [orI, hu]
    rw [e]
    subst hu
    clear e
    by_cases hv : v = 0
    · subst hv
      go_enter Try.func47, Try.ntmps47
      go_wp2
      go_rounds 4
      all_goals go_ret
      all_goals exact ⟨rfl, rfl⟩
    · have hv2 : (v == 0) = false := by simpa using hv
      have hv3 : (v != 0) = true := by simpa using hv
      go_enter Try.func47, Try.ntmps47
      go_wp2
      go_rounds 4
      all_goals go_ret
      all_goals exact ⟨rfl, rfl⟩
  · have e : orI u v = u := by simp [orI, hu]
    rw [e]
    have hv2 : (u == 0) = false := by simpa using hu
    have hv3 : (u != 0) = true := by simpa using hu
    clear e
    go_enter Try.func47, Try.ntmps47
    go_wp2
    go_rounds 4
    all_goals go_ret
    all_goals exact ⟨rfl, rfl⟩

set_option maxHeartbeats 1600000 in
theorem cmpC_any (x y : Pp) (w : World) : Calls Try.prog 46 #[.agg #[.string x.1, .string x.2], .agg #[.string y.1, .string y.2]] w fun e w' => e = .returned (.int .i64 (cfA x y)) ∧ Below w.heap.size w w' := by
  have h1 := fun W' => scmp_any x.1 y.1 W'
  have h2 := fun W' => scmp_any x.2 y.2 W'
  have e : cfA x y = orI (Lib.compareBytes x.1.data.toList y.1.data.toList) (Lib.compareBytes x.2.data.toList y.2.data.toList) := rfl
  rw [e]
  generalize Lib.compareBytes x.1.data.toList y.1.data.toList = u at *
  generalize Lib.compareBytes x.2.data.toList y.2.data.toList = v at *
  have H1 := Lib.hid h1
  have H2 := Lib.hid h2
  clear h1 h2 e
  obtain ⟨x1, x2⟩ := x
  obtain ⟨y1, y2⟩ := y
  simp only at H1 H2
  go_enter Try.func46, Try.ntmps46
  go_wp2_with fail
  go_region_held3 (fun w' => w'.cell? ⟨w.heap.size, 0, none⟩ = some (.string x1) ∧ w'.cell? ⟨w.heap.size, 1, none⟩ = some (.string x2) ∧ w'.cell? ⟨w.heap.size + 1, 0, none⟩ = some (.string y1) ∧ w'.cell? ⟨w.heap.size + 1, 1, none⟩ = some (.string y2) ∧ Below w.heap.size w w')
    (((try dsimp only); go_split_ands; (repeat' apply And.intro) <;> first | assumption | (apply kept; assumption; assumption) | (apply via; assumption; assumption; apply Below.size; assumption) | (go_grown; done) | (repeat' first | assumption | (simp; done) | (simp [go_sem]; done) | apply keptD | apply keptA | (apply kept; assumption))))
    (first
      | (go_at_call 36; refine (H1.out _).mono ?_; rintro e w1 ⟨rfl, rfl⟩)
      | (go_at_call 36; refine (H2.out _).mono ?_; rintro e w1 ⟨rfl, rfl⟩)
      | (go_at_call 47; refine (or_any _ u v _ (by simp [go_sem]) (by simp [go_sem])).mono ?_; rintro e w1 ⟨rfl, rfl⟩))
  all_goals go_split_ands
  all_goals go_wp2_with fail
  all_goals go_ret
  all_goals exact ⟨rfl, by assumption⟩

set_option maxHeartbeats 1600000 in
theorem cmpF_any (K : Nat) (A B : Option Addr) (n m cap cbp : Nat) (a b : List Pp) (w : World) (hn : a.length = n) (hm : b.length = m) (ha : Lr w K A cap a) (hb : Lr w K B cbp b) (hK : K ≤ w.heap.size) :
    Calls Try.prog 45 #[.slice A n cap, .slice B m cbp, .func (.func 46) #[] #[]] w fun e w' => e = .returned (.int .i64 (cmpL a b)) ∧ Below w.heap.size w w' := by
  subst hn hm
  have hle := ha.le
  have hmax := ha.max
  have hle2 := hb.le
  have hmax2 := hb.max
  unfold maxLen at hmax hmax2
  go_enter Try.func45, Try.ntmps45
  go_wp2
  go_loopw [13] (fun i wr => ∃ k : Nat, k ≤ a.length ∧ k ≤ b.length ∧ i = .int .i64 k ∧ Hid (cmpL a b = cmpL (a.drop k) (b.drop k)) ∧ Below w.heap.size w wr) (fun i _ => a.length - (intOf i).toNat)
  case atStart => exact ⟨0, Nat.zero_le _, Nat.zero_le _, rfl, Lib.hid rfl, Below.refl _ _⟩
  case round =>
    obtain ⟨k, hk, hk2, rfl, HT, hbl⟩ := hrel
    have z := hbl.size
    by_cases hlt : k < a.length
    · by_cases hlt2 : k < b.length
      · obtain ⟨ad, rfl, hadK, h1, h2⟩ := lr_at (ha.below (hbl.mono hK)) hlt
        obtain ⟨bd, rfl, hbdK, h3, h4⟩ := lr_at (hb.below (hbl.mono hK)) hlt2
        have hstep := cmpL_stepC hlt hlt2
        have hcl := fun W => cmpC_any (a.getD k nilP) (b.getD k nilP) W
        generalize (a.getD k nilP) = x at *
        generalize (b.getD k nilP) = y at *
        obtain ⟨xn, xv⟩ := x
        obtain ⟨yn, yv⟩ := y
        simp only at h1 h2 h3 h4 hcl
        generalize cfA (xn, xv) (yn, yv) = r at *
        have h3' : ∀ o, (wr.alloc o).cell? (bd.add (k * 2)) = some (.string yn) := fun o => keptA h3
        have h4' : ∀ o, (wr.alloc o).cell? ⟨(bd.add (k * 2)).block, (bd.add (k * 2)).off + 1, none⟩ = some (.string yv) := fun o => keptA h4
        have i1 : (k : Int) < a.length := by omega
        have i2 : (k : Int) < b.length := by omega
        have HCL := Lib.hid hcl
        clear hcl
        by_cases hr : r = 0
        · have HN : Hid (cmpL a b = cmpL (a.drop (k + 1)) (b.drop (k + 1))) := Lib.hid (by rw [HT.out, hstep, if_pos hr])
          subst hr
          clear hstep
          go_wp2_with (go_at_call 46; refine (HCL.out _).mono ?_; rintro e w1 ⟨rfl, hb1⟩)
          have B1 : Below w.heap.size w w1 := via hb1 (by go_grown) (by simp; omega)
          go_roundw
          case rel => exact ⟨k + 1, by omega, by omega, by go_num, HN, B1⟩
          case measure => simp [intOf]; omega
        · have HF : Hid (cmpL a b = r) := Lib.hid (by rw [HT.out, hstep, if_neg hr])
          have r1 : (r == 0) = false := by simpa using hr
          have r2 : (r != 0) = true := by simpa using hr
          clear hstep
          go_wp2_with (go_at_call 46; refine (HCL.out _).mono ?_; rintro e w1 ⟨rfl, hb1⟩)
          have B1 : Below w.heap.size w w1 := via hb1 (by go_grown) (by simp; omega)
          go_ret
          exact ⟨ret_int HF.out.symm, B1⟩
      · obtain ⟨ad, rfl, hadK, h1, h2⟩ := lr_at (ha.below (hbl.mono hK)) hlt
        have HF : Hid (cmpL a b = 1) := Lib.hid (by rw [HT.out]; exact cmpL_right hlt (by omega))
        have i1 : (k : Int) < a.length := by omega
        go_wp2_with fail
        go_ret
        exact ⟨ret_int HF.out.symm, by go_grown⟩
    · have hke : k = a.length := by omega
      by_cases hlt2 : k < b.length
      · have HF : Hid (cmpL a b = -1) := Lib.hid (by rw [HT.out]; exact cmpL_left (by omega) hlt2)
        have hg : a.length < b.length := by omega
        have HE := Lib.hid hke
        clear hke
        go_wp2_with fail
        go_ret
        exact ⟨ret_int HF.out.symm, hbl⟩
      · have HF : Hid (cmpL a b = 0) := Lib.hid (by rw [HT.out]; exact cmpL_both (by omega) (by omega))
        have hg : ¬ a.length < b.length := by omega
        have HE := Lib.hid hke
        clear hke
        go_wp2_with fail
        go_ret
        exact ⟨ret_int HF.out.symm, hbl⟩

theorem compareL_any (K : Nat) (A B : Option Addr) (n m cap cbp : Nat) (a b : List Pp) (w : World) (hn : a.length = n) (hm : b.length = m) (ha : Lr w K A cap a) (hb : Lr w K B cbp b) (hK : K ≤ w.heap.size) :
    Calls Try.prog 30 #[.slice A n cap, .slice B m cbp] w fun e w' => e = .returned (.int .i64 (cmpL a b)) ∧ Below w.heap.size w w' := by
  have HC := Lib.hid (cmpF_any K A B n m cap cbp a b w hn hm ha hb hK)
  clear hn hm ha hb
  generalize cmpL a b = r at *
  go_enter Try.func30, Try.ntmps30
  go_wp2_with (go_at_call 45; refine HC.out.mono ?_; rintro e w1 ⟨rfl, hb1⟩)
  go_ret
  exact ⟨rfl, hb1⟩
end Go.Proofs.Ytpkadghdnlkfiaa
