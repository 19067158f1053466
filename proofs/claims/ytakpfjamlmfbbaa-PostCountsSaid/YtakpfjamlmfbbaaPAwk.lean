/- The law's example of a post. -/
import Derived.Test.YtakpfjamlmfbbaaPTakeO
namespace Go.Proofs.Ytakpfjamlmfbbaa
open Go.RowKit Go.Conc

theorem Po.bel {w w' : World} {K p ch room : Nat} {v : Value} {l : List Mg} {B : List (List UInt8)} (h : Po w K p ch room v l B) (t : Tn (TP p ch v) w w') : Below K w w' :=
  t.below (by have := h.lt; have := h.kp; omega) fun k hk e => by
    have h1 := h.kp
    have h2 := h.kc
    rcases e with e | e | e
    · omega
    · omega
    · exact (h.so.lt k e).1
theorem bdy_nil (w : World) (bad : Nat → Prop) (f t : Int) : Bdy w bad ⟨f, t, none, ([] : List UInt8).length, 0⟩ [] :=
  ⟨rfl, ⟨Nat.le_refl _, Nat.zero_le _, fun _ => rfl, fun h => absurd h (by simp)⟩, fun h => absurd h (by simp)⟩

set_option maxRecDepth 100000 in
set_option maxHeartbeats 3200000 in
theorem pawake_any (w : World) : Calls Try.prog 5 #[] w fun e w' => e = .returned (.bool true) ∧ Below w.heap.size w w' := by
  go_enter Try.func5, Try.ntmps5
  go_wp2_with (first
    | (go_at_call 4; refine (new_ok 1 (by decide) w).mono ?_; rintro e w1 ⟨rfl, P1, b1⟩)
    | (go_at_call 6; (refine (send_ok _ _ _ 1 _ _ _ 0 2 none 0 [] _ P4' (bdy_nil _ _ _ _) (by simp) (by simp) (by decide)).mono ?_; rintro e w5 ⟨rfl, v5, A5, c5, P5, T5, -, -⟩; have b5 := P4'.bel T5))
    | (go_at_call 6; (refine (send_full _ _ _ 1 _ _ _ 0 2 none 0 0 _ P2 (by simp) (by simp)).mono ?_; rintro e w3 ⟨rfl, b3⟩; have P3 := P2.below b3))
    | (go_at_call 6; (refine (send_ok _ _ _ 1 _ _ _ 0 1 none 0 [] _ P1 (bdy_nil _ _ _ _) (by simp) (by simp) (by decide)).mono ?_; rintro e w2 ⟨rfl, v2, A2, c2, P2, T2, -, -⟩; have b2 := P1.bel T2))
    | (go_at_call 7; go_loud (refine (take_ok _ _ _ _ _ _ _ 0 _ _ _ P3 rfl rfl (by simp) (by decide)).mono ?_; rintro e w4 ⟨A4, c4, v4, rfl, ho4, P4, T4, -⟩; have b4 := P3.bel T4; have P4' := P4.alloc (.cells #[.int .i64 0, .int .i64 1, .slice A4 ([] : List UInt8).length c4] 36)))
    | (go_at_call 11; go_loud (refine (len_any _ _ _ _ _ _ _ _ P4').mono ?_; rintro e w' ⟨rfl, rfl⟩))
    | fail)
  go_ret
  have c2' := b1.trans b2
  have c4' := (c2'.trans (b3.mono c2'.size)).trans b4
  exact ⟨rfl, c4'.trans (((Below.refl _ _).alloc c4'.size _).trans b5)⟩
end Go.Proofs.Ytakpfjamlmfbbaa
