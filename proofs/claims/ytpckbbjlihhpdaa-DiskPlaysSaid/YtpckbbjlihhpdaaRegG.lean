/- A law for a statement whose order is open, with two operations that turn memory: the state of the world is told by which of the two have come up; every value is known ahead. -/
import Derived.Test.YtpckbbjlihhpdaaRegV
import Derived.Test.YtpckbbjlihhpdaaPhase
namespace Go.Proofs.Ytpckbbjlihhpdaa
open Go.RowKit

/-- One more of the two has come up. -/
def upG (i p : Nat) (b : Bool) : Bool := match Nat.beq i p with | true => true | false => b
theorem upG_eq (l : Nat → Bool) (i p : Nat) : updR l i true p = upG i p (l p) := by
  by_cases e : p = i
  · subst e
    rw [updR_same]
    unfold upG
    rw [Nat.beq_refl]
  · rw [updR_ne _ _ e]
    unfold upG
    have hb : Nat.beq i p = false := by
      cases h : Nat.beq i p with
      | false => rfl
      | true => exact absurd (Nat.eq_of_beq_eq_true h).symm e
    rw [hb]
theorem region_G {P : Program} {Q : Exit → Act → World → Prop} {ops : Array Oper} {id : Nat} {a0 : Act} {w0 : World} (G : Bool → Bool → World → Prop) (p q : Nat) (xs : List Value)
    (F : (Nat → Value) → Act) (hF : ∀ vs, F vs = putAll vs 0 ops.toList a0) (hm : P.follows .mixedOrders = true) (hf : fitsR ops = true) (hp : (Nat.blt p ops.size && Nat.blt q ops.size) = true)
    (hQ : ∀ c (x y : Act) w, x.defers = y.defers → Q (.panic c) x w → Q (.panic c) y w)
    (h0 : G false false w0.drew)
    (hstep : AllOps (fun i o => ∀ vs b c w, G b c w → AllD (fun j => vs j = xs.getD j undef) (depsOf o) → (Nat.beq i p = true → b = false) → (Nat.beq i q = true → c = false) →
      ∀ K : Act → World → Prop, (∀ w', G (upG i p b) (upG i q c) w' → K ((F vs).put o.dst (xs.getD i undef)) w') →
        if Region.wanted o (yielded ops (F vs).tmps) = true then Oper.wp P o (F vs) w K Q else K ((F vs).put o.dst undef) w) 0 ops.toList)
    (hend : ∀ vs w, G true true w → (∀ i, i < ops.size → vs i = xs.getD i undef) → Q .normal (F vs) w) :
    (Code.region id ops true).wp P Q a0 w0 := by
  simp only [Bool.and_eq_true, Nat.blt_eq] at hp
  refine region_inv hm hf F hF hQ (fun l vs w => G (l p) (l q) w ∧ ∀ i, l i = true → vs i = xs.getD i undef) ⟨h0, fun _ h => by cases h⟩ ?_ (fun l vs w hl hJ => ?_)
  · intro i o ho l vs w ⟨hG, hV⟩ hli hall K hK
    have hd := mem_deps ho hall
    have ho' : ops.toList[i]? = some o := by rw [Array.getElem?_toList]; exact ho
    have go := hstep.get ho'
    rw [Nat.zero_add] at go
    have hdep : AllD (fun j => vs j = xs.getD j undef) (depsOf o) := by
      have hdo : depsAt ops i = depsOf o := by simp [depsAt, ho]
      rw [hdo] at hd
      exact AllD.of (fun j hj => hV j hj) (AllL.mk hd)
    refine go vs (l p) (l q) w hG hdep (fun h => by have := Nat.eq_of_beq_eq_true h; subst this; exact hli) (fun h => by have := Nat.eq_of_beq_eq_true h; subst this; exact hli) K fun w' hG' => hK _ w' ⟨?_, fun j hj => ?_⟩
    · rw [upG_eq, upG_eq]; exact hG'
    · by_cases ej : j = i
      · subst ej; rw [updR_same]
      · rw [updR_ne _ _ ej] at hj ⊢
        exact hV j hj
  · have h1 := hJ.1
    rw [hl p hp.1, hl q hp.2] at h1
    exact hend vs w h1 fun i hi => hJ.2 i (hl i hi)
end Go.Proofs.Ytpckbbjlihhpdaa
