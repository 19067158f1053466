/- The program's Fold; the law's example. -/
import Derived.Test.YtckbpajphfbaoaaTyF
namespace Go.Proofs.Ytckbpajphfbaoaa
open Go.RowKit

def okB (op : Int) (n : Nat) : Bool := decide (1 ≤ op) && decide (op ≤ 5) && decide ((n : Int) ≤ 65536)
theorem bad_ok (op : Int) (l : List Smp) : badB op l = !okB op l.length := rfl
set_option maxHeartbeats 800000 in
theorem isRight_any (op : Int) (A : Option Addr) (n cap : Nat) (w : World) : Calls Try.prog 18 #[.int .i64 op, .slice A n cap] w fun e w' => e = .returned (.bool (okB op n)) ∧ w' = w := by
  cases h1 : decide (1 ≤ op) <;> cases h2 : decide (op ≤ 5) <;> cases h3 : decide ((n : Int) ≤ 65536)
  all_goals
    unfold okB
    rw [h1, h2, h3]
    go_enter Try.func18, Try.ntmps18
    go_wp2
    go_ret
    exact ⟨rfl, rfl⟩
def FoldP (w : World) (p : Int × Bool × Int) (e : Ending) (w' : World) : Prop := e = .returned (.tuple #[.int .i64 p.1, .bool p.2.1, .int .i64 p.2.2]) ∧ Below w.heap.size w w'
set_option maxRecDepth 100000 in
set_option maxHeartbeats 1600000 in
theorem fold_any (op : Int) (K : Nat) (A : Option Addr) (n cap : Nat) (l : List Smp) (w : World) (hln : l.length = n) (hp : Sr encS 2 w K A cap l) (hK : K ≤ w.heap.size) (hok : ∀ x ∈ l, Sok x) :
    Calls Try.prog 9 #[.int .i64 op, .slice A n cap] w (FoldP w (foldB op l)) := by
  subst hln
  cases hb : okB op l.length with
  | false =>
    have e : foldB op l = (0, false, 1) := if_pos (by rw [bad_ok, hb]; rfl)
    rw [e]
    have HR := Lib.hid (fun W => hb ▸ isRight_any op A l.length cap W)
    clear e hb hp hok
    go_enter Try.func9, Try.ntmps9
    go_wp2_with (go_at_call 18; refine (HR.out _).mono ?_; rintro e w1 ⟨rfl, rfl⟩)
    go_ret3
    exact ⟨rfl, Below.refl _ _⟩
  | true =>
    have HR := Lib.hid (fun W => hb ▸ isRight_any op A l.length cap W)
    have hnb : ¬ badB op l = true := by rw [bad_ok, hb]; simp
    have hle : l.length ≤ 65536 := by
      unfold okB at hb
      simp at hb
      omega
    by_cases h0 : l = []
    · subst h0
      have e : foldB op [] = (0, (op == 2), 0) := by unfold foldB; rw [if_neg hnb, if_pos rfl]
      rw [e]
      clear e hb hp hok hnb
      go_enter Try.func9, Try.ntmps9
      go_wp2_with (go_at_call 18; refine (HR.out _).mono ?_; rintro e w1 ⟨rfl, rfl⟩)
      go_ret3
      exact ⟨rfl, Below.refl _ _⟩
    · have hpos : 0 < l.length := by cases l with | nil => exact absurd rfl h0 | cons x r => simp
      have e : foldB op l = ((toldB op l).1, ((toldB op l).2 == 0), (toldB op l).2) := by unfold foldB; rw [if_neg hnb, if_neg h0]
      rw [e]
      have HT := Lib.hid (fun W (h : W = w) => told_any op K A l.length cap l W rfl (h ▸ hp) (h ▸ hK) hpos hle hok)
      generalize toldB op l = p at *
      obtain ⟨p1, p2⟩ := p
      simp only
      have i0 : ((l.length : Int) == 0) = false := beq_eq_false_iff_ne.2 (by omega)
      have i1 : ¬ l.length = 0 := by omega
      clear e hb hp hok hnb h0
      go_enter Try.func9, Try.ntmps9
      go_wp2_with (first
        | (go_at_call 18; refine (HR.out _).mono ?_; rintro e w1 ⟨rfl, rfl⟩)
        | (go_at_call 19; refine (HT.out _ rfl).mono ?_; rintro e w2 ⟨rfl, hb2⟩))
      go_ret3
      exact ⟨rfl, hb2⟩
set_option maxHeartbeats 1600000 in
theorem awake_any (w : World) : Calls Try.prog 12 #[] w fun e w' => e = .returned (.bool true) ∧ Below w.heap.size w w' := by
  have HF := Lib.hid (fun (W : World) (h : Sr encS 2 W W.heap.size (some ⟨w.heap.size, 0, none⟩) 3 [(0, 3), (0, 9), (0, 5)]) => fold_any 5 W.heap.size (some ⟨w.heap.size, 0, none⟩) 3 3 [(0, 3), (0, 9), (0, 5)] W rfl h (Nat.le_refl _) (by intro x hx; simp at hx; rcases hx with rfl | rfl | rfl <;> exact ⟨by decide, by decide, by decide, by decide⟩))
  have e : foldB 5 [(0, 3), (0, 9), (0, 5)] = (2, true, 0) := by decide
  rw [e] at HF
  have HS : Hid (Sr encS 2 (w.alloc (.cells #[.int .i64 0, .int .i64 3, .int .i64 0, .int .i64 9, .int .i64 0, .int .i64 5] 46)) (w.alloc (.cells #[.int .i64 0, .int .i64 3, .int .i64 0, .int .i64 9, .int .i64 0, .int .i64 5] 46)).heap.size (some ⟨w.heap.size, 0, none⟩) 3 [(0, 3), (0, 9), (0, 5)]) :=
    Lib.hid ((lit_so w w.heap.size 46 w.heap.size rfl (Nat.le_refl _) _ 3 [(0, 3), (0, 9), (0, 5)] encS_len rfl rfl (by decide)).sr encS_len).1
  clear e
  go_enter Try.func12, Try.ntmps12
  go_wp2_with (go_at_call 9; refine (HF.out _ HS.out).mono ?_; rintro e w1 ⟨rfl, hb⟩)
  go_ret
  exact ⟨rfl, via hb (by go_grown) (by go_size)⟩
end Go.Proofs.Ytckbpajphfbaoaa
