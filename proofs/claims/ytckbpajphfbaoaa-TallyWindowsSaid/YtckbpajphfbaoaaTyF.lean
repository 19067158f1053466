/- What is told of samples: the program's Fold. -/
import Derived.Test.YtckbpajphfbaoaaTySu
import Derived.Test.YtckbpajphfbaoaaTyB
namespace Go.Proofs.Ytckbpajphfbaoaa
open Go.RowKit

def ToldP (w : World) (p : Int × Int) (e : Ending) (w' : World) : Prop := e = .returned (.tuple #[.int .i64 p.1, .int .i64 p.2]) ∧ Below w.heap.size w w'
set_option maxRecDepth 100000 in
set_option maxHeartbeats 3200000 in
theorem told_any (op : Int) (K : Nat) (A : Option Addr) (n cap : Nat) (l : List Smp) (w : World) (hln : l.length = n) (hp : Sr encS 2 w K A cap l) (hK : K ≤ w.heap.size) (h0 : 0 < l.length) (hl : l.length ≤ 65536) (hok : ∀ x ∈ l, Sok x) :
    Calls Try.prog 19 #[.int .i64 op, .slice A n cap] w (ToldP w (toldB op l)) := by
  have HS := Lib.hid (fun W (h : Below w.heap.size w W) => sum_any K A n cap l W hln (hp.below (h.mono hK)) (Nat.le_trans hK h.size) hl hok)
  have HM := Lib.hid (fun W (h : Below w.heap.size w W) => min_any K A n cap l W hln (hp.below (h.mono hK)) (Nat.le_trans hK h.size) h0)
  have HX := Lib.hid (fun W (h : Below w.heap.size w W) => max_any K A n cap l W hln (hp.below (h.mono hK)) (Nat.le_trans hK h.size) h0)
  have HR := Lib.hid (Below.refl w.heap.size w)
  by_cases h1 : op = 1
  · subst h1
    have e : toldB 1 l = rangeB (sumI l) := rfl
    rw [e]
    clear e
    generalize rangeB (sumI l) = p at *
    go_enter Try.func19, Try.ntmps19
    go_wp2_with (go_at_call 24; refine (HS.out _ HR.out).mono ?_; rintro e w1 ⟨rfl, hb1⟩)
    go_ret2
    exact ⟨rfl, hb1⟩
  by_cases h2 : op = 2
  · subst h2
    have e : toldB 2 l = ((l.length : Int), 0) := rfl
    rw [e]
    subst hln
    clear e HS HM HX h1
    go_enter Try.func19, Try.ntmps19
    go_wp2
    go_ret2
    exact ⟨rfl, HR.out⟩
  by_cases h3 : op = 3
  · subst h3
    have e : toldB 3 l = ((bestN ltI l).2, 0) := rfl
    rw [e]
    clear e h1 h2
    generalize bestN ltI l = m at *
    obtain ⟨ma, mb⟩ := m
    have hfd : ∀ W, (Instr.field 46 (agS (ma, mb)) 1).run Try.prog W = .ok (.int .i64 mb) W := fun _ => by kernel_rfl
    simp only
    go_enter Try.func19, Try.ntmps19
    go_wp2_with (go_at_call 25; refine (HM.out _ HR.out).mono ?_; rintro e w1 ⟨rfl, hb1⟩)
    go_ret2
    exact ⟨rfl, hb1⟩
  by_cases h4 : op = 4
  · subst h4
    have e : toldB 4 l = ((bestN gtI l).2, 0) := rfl
    rw [e]
    clear e h1 h2 h3
    generalize bestN gtI l = m at *
    obtain ⟨ma, mb⟩ := m
    have hfd : ∀ W, (Instr.field 46 (agS (ma, mb)) 1).run Try.prog W = .ok (.int .i64 mb) W := fun _ => by kernel_rfl
    simp only
    go_enter Try.func19, Try.ntmps19
    go_wp2_with (go_at_call 27; refine (HX.out _ HR.out).mono ?_; rintro e w1 ⟨rfl, hb1⟩)
    go_ret2
    exact ⟨rfl, hb1⟩
  · have e : toldB op l = rangeB (lastI l - firstI l) := by unfold toldB; rw [if_neg h1, if_neg h2, if_neg h3, if_neg h4]
    rw [e]
    have hle := hp.le
    have hmax := hp.max
    unfold maxLen at hmax
    subst hln
    obtain ⟨ad, rfl, _, c0, c1⟩ := s_cells hp h0
    obtain ⟨ad2, e2, _, d0, d1⟩ := s_cells hp (i := l.length - 1) (by omega)
    cases e2
    rw [Nat.zero_mul, el_add_zero] at c0 c1
    have hf : firstI l = l[0].2 := by unfold firstI; rw [List.getD_eq_getElem?_getD, List.getElem?_eq_getElem h0]; rfl
    have hla : lastI l = l[l.length - 1].2 := by unfold lastI; rw [List.getD_eq_getElem?_getD, List.getElem?_eq_getElem (by omega)]; rfl
    have ok0 := hok _ (List.getElem_mem h0)
    have ok1 := hok _ (List.getElem_mem (show l.length - 1 < l.length by omega))
    rw [hf, hla]
    clear hf hla e HS HM HX
    generalize l[0] = x at *
    generalize l[l.length - 1] = y at *
    obtain ⟨x0, x1⟩ := x
    obtain ⟨y0, y1⟩ := y
    simp only at c0 c1 d0 d1
    have HG := Lib.hid (fun W => growth_any x1 y1 ok0.n0 ok0.n1 ok1.n0 ok1.n1 W)
    simp only
    generalize rangeB (y1 - x1) = p at *
    obtain ⟨n, hn⟩ : ∃ n : Nat, n = l.length - 1 := ⟨_, rfl⟩
    rw [← hn] at d0 d1
    have i1 : (l.length : Int) - 1 = (n : Int) := by omega
    have iw : IntKind.i64.wrap (n : Int) = (n : Int) := wrapI _ (by omega) (by omega)
    have i2 : (0 : Int) < l.length := by omega
    have i3 : (n : Int) < l.length := by omega
    have b1 : (op == 1) = false := by simpa using h1
    have b2 : (op == 2) = false := by simpa using h2
    have b3 : (op == 3) = false := by simpa using h3
    have b4 : (op == 4) = false := by simpa using h4
    clear ok0 ok1 hok hp hn h1 h2 h3 h4
    go_enter Try.func19, Try.ntmps19
    go_wp2_with fail
    go_region_law (first
      | (go_simp; go_at_call 28; refine (HG.out _).mono ?_; rintro e w1 ⟨rfl, rfl⟩))
    all_goals
      go_wp2
      go_ret2
      exact ⟨rfl, (Tn.drew (P := fun _ => False) w).below (Nat.le_refl _) (fun _ _ h => h.elim)⟩
end Go.Proofs.Ytckbpajphfbaoaa
