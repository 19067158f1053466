/- A law for a statement whose order is open and whose operations only make new memory: of each operation's value a predicate is known, that later new memory leaves. -/
import Derived.Test.YtcgkbpjfbahleaaLets
namespace Go.Proofs.Ytcgkbpjfbahleaa
open Go.RowKit

def AllD (p : Nat → Prop) : List Nat → Prop
  | [] => True
  | j :: js => p j ∧ AllD p js
theorem AllD.of {p : Nat → Prop} {l : Nat → Bool} (h : ∀ j, l j = true → p j) : ∀ {js : List Nat}, AllL l js → AllD p js
  | [], _ => trivial
  | _ :: _, ⟨h1, h2⟩ => ⟨h _ h1, AllD.of h h2⟩
theorem AllD.get {p : Nat → Prop} : ∀ {js : List Nat}, AllD p js → ∀ {j : Nat}, j ∈ js → p j
  | _ :: _, ⟨h1, h2⟩, _, hj => (List.mem_cons.1 hj).elim (fun e => e ▸ h1) (fun e => h2.get e)
theorem AllOps.imp {p q : Nat → Oper → Prop} (h : ∀ i o, p i o → q i o) : ∀ {k : Nat} {os : List Oper}, AllOps p k os → AllOps q k os
  | _, [], _ => trivial
  | _, _ :: _, h2 => ⟨h _ _ h2.1, AllOps.imp h h2.2⟩
theorem region_V {P : Program} {Q : Exit → Act → World → Prop} {ops : Array Oper} {id : Nat} {a0 : Act} {w0 : World} {ι : Type} (holds : ι → Value → World → Prop) (G : World → Prop) (xs : List ι) (d : ι)
    (mono : ∀ p v w w', holds p v w → Below w.heap.size w w' → holds p v w')
    (F : (Nat → Value) → Act) (hF : ∀ vs, F vs = putAll vs 0 ops.toList a0) (hm : P.follows .mixedOrders = true) (hf : fitsR ops = true)
    (hQ : ∀ c (x y : Act) w, x.defers = y.defers → Q (.panic c) x w → Q (.panic c) y w)
    (h0 : G w0.drew)
    (hstep : AllOps (fun i o => ∀ vs w, G w → AllD (fun j => holds (xs.getD j d) (vs j) w) (depsOf o) →
      ∀ K : Act → World → Prop, (∀ v w', Below w.heap.size w w' → G w' → holds (xs.getD i d) v w' → K ((F vs).put o.dst v) w') →
        if Region.wanted o (yielded ops (F vs).tmps) = true then Oper.wp P o (F vs) w K Q else K ((F vs).put o.dst undef) w) 0 ops.toList)
    (hend : ∀ vs w, G w → (∀ i, i < ops.size → holds (xs.getD i d) (vs i) w) → Q .normal (F vs) w) :
    (Code.region id ops true).wp P Q a0 w0 := by
  refine region_invA (fun l vs w => G w ∧ ∀ i, l i = true → holds (xs.getD i d) (vs i) w) F hF hm hf hQ ⟨h0, fun i h => by cases h⟩ ?_ (fun l vs w hl hJ => hend vs w hJ.1 fun i hi => hJ.2 i (hl i hi))
  refine hstep.imp fun i o go l vs w hJ _ hd K hK => ?_
  refine go vs w hJ.1 (AllD.of (fun j hj => hJ.2 j hj) hd) K fun v w' hb hG hv => hK v w' ⟨hG, fun j hj => ?_⟩
  by_cases e : j = i
  · subst e; rw [updR_same]; exact hv
  · rw [updR_ne _ _ e] at hj ⊢
    exact mono _ _ _ _ (hJ.2 j hj) hb
end Go.Proofs.Ytcgkbpjfbahleaa
