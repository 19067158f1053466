/- The program's disk and the document's, side by side. -/
import Derived.Test.YtpckbbjlihhpdaaRdC
import Derived.Test.YtpckbbjlihhpdaaDkW
namespace Go.Proofs.Ytpckbbjlihhpdaa
open Go.RowKit

/-- Behind the world W, in which the one had the blocks B and the other the blocks C. -/
structure JJ (W : World) (B C : Nat → Prop) (d m : Nat) (a b : Ad) (wx : World) : Prop where
  ex : ∃ B' C', DD wx B' d a ∧ RD wx C' m b ∧ (∀ k, B' k → B k ∨ W.heap.size ≤ k) ∧ (∀ k, C' k → C k ∨ W.heap.size ≤ k) ∧ ∀ k, B' k → ¬ C' k
  tn : Tn (fun k => B k ∨ C k) W wx
section
variable {W wx wy : World} {B C P : Nat → Prop} {d m : Nat} {a a' b b' : Ad} {r : Int} {f : Nat} {args : Array Value}
theorem JJ.start (h : DD W B d a) (k : RD W C m b) (hd : ∀ k, B k → ¬ C k) : JJ W B C d m a b W := ⟨⟨B, C, h, k, fun _ h => .inl h, fun _ h => .inl h, hd⟩, Tn.refl _ _⟩
theorem JJ.below (J : JJ W B C d m a b wx) (hb : Below wx.heap.size wx wy) : JJ W B C d m a b wy := by
  obtain ⟨B', C', D, R, h1, h2, h3⟩ := J.ex
  exact ⟨⟨B', C', D.below hb, R.below hb, h1, h2, h3⟩, J.tn.then (Tn.ofNew hb)⟩
theorem JJ.prog (J : JJ W B C d m a b wx) (H : ∀ B', DD wx B' d a → (∀ k, B' k → B k ∨ W.heap.size ≤ k) → Calls Try.prog f args wx (Dn wx B' d r a')) : Calls Try.prog f args wx fun e w' => e = .returned (.int .i64 r) ∧ JJ W B C d m a' b w' := by
  obtain ⟨B', C', D, R, h1, h2, h3⟩ := J.ex
  refine (H B' D h1).mono ?_
  rintro e w' ⟨rfl, B2, D2, t, hB⟩
  have hs := J.tn.size
  refine ⟨rfl, ⟨B2, C', D2, R.tn t fun k hc hb => h3 k hb hc, fun k hk => (hB k hk).elim (h1 k) fun h => .inr (by omega), h2, fun k hk hc => (hB k hk).elim (fun h => h3 k h hc) fun h => ?_⟩, J.tn.thenQ t fun k hk hb => (h1 k hb).elim .inl fun h => absurd hk (by omega)⟩
  have := R.bt k hc
  omega
theorem JJ.doc {Q : Ending → Prop} (J : JJ W B C d m a b wx) (H : ∀ C', RD wx C' m b → (∀ k, C' k → C k ∨ W.heap.size ≤ k) → Calls Try.prog f args wx fun e w' => Q e ∧ Rn wx C' m r b' (.returned (.int .i64 r)) w') : Calls Try.prog f args wx fun e w' => Q e ∧ JJ W B C d m a b' w' := by
  obtain ⟨B', C', D, R, h1, h2, h3⟩ := J.ex
  refine (H C' R h2).mono ?_
  rintro e w' ⟨hQ, _, C2, R2, t, hC⟩
  have hs := J.tn.size
  refine ⟨hQ, ⟨B', C2, D.tn t fun k hb hc => h3 k hb hc, R2, h1, fun k hk => (hC k hk).elim (h2 k) fun h => .inr (by omega), fun k hk hc => (hC k hc).elim (fun h => h3 k hk h) fun h => ?_⟩, J.tn.thenQ t fun k hk hb => (h2 k hb).elim .inr fun h => absurd hk (by omega)⟩
  have := D.bt k hk
  omega
theorem DD.lim (h : DD W B d a) : Lim a := by
  obtain ⟨K, mb, M, D, e, _⟩ := h.ex
  refine ⟨h.le, h.rm, h.ln, h.f1, h.f2, ?_⟩
  rw [← e, List.pairwise_map]
  exact D.ri
end
end Go.Proofs.Ytpckbbjlihhpdaa
