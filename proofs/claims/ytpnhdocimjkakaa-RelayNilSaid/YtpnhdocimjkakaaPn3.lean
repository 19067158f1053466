/- s[i:], s[:i] of a slice of rows of k cells, each in one equation. -/
import Derived.Test.YtpnhdocimjkakaaPn2
import Derived.Test.YtpnhdocimjkakaaPn1
namespace Go.Proofs.Ytpnhdocimjkakaa
open Go.RowKit


section
variable {P : Program} {Q : Exit → Act → World → Prop}
def depsAt (ops : Array Oper) (i : Nat) : List Nat := match ops[i]? with | some o => depsOf o | none => []
/-- Does i wait for a, by whatever way? -/
def reach (ops : Array Oper) : Nat → Nat → Nat → Bool
  | 0, _, _ => false
  | f + 1, a, i => (depsAt ops i).any fun e => e == a || reach ops f a e
theorem reach_up {ops : Array Oper} {l : Nat → Bool} (hC : ∀ j, l j = true → ∀ e ∈ depsAt ops j, l e = true) :
    ∀ (f a i : Nat), (∀ e ∈ depsAt ops i, l e = true) → reach ops f a i = true → l a = true
  | 0, _, _, _, h => by cases h
  | f + 1, a, i, hi, h => by
    simp only [reach, List.any_eq_true, Bool.or_eq_true, beq_iff_eq] at h
    obtain ⟨e, he, h⟩ := h
    rcases h with rfl | h
    · exact hi _ he
    · exact reach_up hC f a e (hC e (hi e he)) h

theorem mem_deps {ops : Array Oper} {i : Nat} {o : Oper} (ho : ops[i]? = some o) {l : Nat → Bool} (hall : ∀ e ∈ o.after, Region.binds .any e = true → l e.on = true) : ∀ e ∈ depsAt ops i, l e = true := by
  intro e he
  simp only [depsAt, ho, depsOf, List.mem_filterMap, Array.mem_toList_iff] at he
  obtain ⟨x, hx, hxe⟩ := he
  split at hxe
  · rename_i hb; cases hxe; exact hall x hx hb
  · cases hxe

/-- Each operation leaves one value; S is what is known of the world, by which operations have come up. -/
theorem region_valsL {ops : Array Oper} {id : Nat} {a0 : Act} {w0 : World} (S : (Nat → Bool) → World → Prop) (xs : List Value)
    (F : Act) (hF : F = putAll (fun i => xs.getD i undef) 0 ops.toList a0) (hm : P.follows .mixedOrders = true) (hf : fitsR ops = true)
    (hQ : ∀ c (x y : Act) w, x.defers = y.defers → Q (.panic c) x w → Q (.panic c) y w)
    (h0 : S (fun _ => false) w0.drew)
    (hstep : ∀ i o, ops[i]? = some o → ∀ l w, S l w → l i = false → (∀ e ∈ depsAt ops i, l e = true) → (∀ j, l j = true → ∀ e ∈ depsAt ops j, l e = true) →
      ∀ K : Act → World → Prop, (∀ v w', v = xs.getD i undef → S (updR l i true) w' → K (F.put o.dst v) w') →
        if Region.wanted o (yielded ops F.tmps) = true then Oper.wp P o F w K Q else K (F.put o.dst undef) w)
    (hend : ∀ l w, (∀ i, i < ops.size → l i = true) → S l w → Q .normal F w) :
    (Code.region id ops true).wp P Q a0 w0 := by
  refine region_inv hm hf (fun vs => putAll vs 0 ops.toList a0) (fun _ => rfl) hQ (fun l vs w => (S l w ∧ ∀ j, l j = true → ∀ e ∈ depsAt ops j, l e = true) ∧ ∀ j, l j = true → vs j = xs.getD j undef) ⟨⟨h0, fun j h => by cases h⟩, fun j h => by cases h⟩ ?_ ?_
  · intro i o ho l vs w ⟨⟨hS, hC⟩, hR⟩ hl hall K hK
    have hd := mem_deps ho hall
    have hC' : ∀ j, updR l i true j = true → ∀ e ∈ depsAt ops j, updR l i true e = true := fun j hj e he => by
      by_cases hei : e = i
      · subst hei; rw [updR_same]
      · rw [updR_ne _ _ hei]
        by_cases hji : j = i
        · subst hji; exact hd e he
        · rw [updR_ne _ _ hji] at hj; exact hC j hj e he
    have go := hstep i o ho l w hS hl hd hC
    have hfit := fits_spec hf ho
    simp only [fitsAt, Bool.and_eq_true, Array.all_eq_true_iff_forall_mem, List.all_eq_true] at hfit
    obtain ⟨⟨⟨_, hlook⟩, _⟩, hsel⟩ := hfit
    have same : ∀ t ∈ o.looksAt ops, (putAll vs 0 ops.toList a0).tmps[t]? = F.tmps[t]? := fun t ht => by
      rw [hF, putAll_get, putAll_get]
      have := hlook t ht
      cases hj : owner ops.toList t with
      | none => rfl
      | some j =>
        rw [hj] at this
        simp only [Array.any_eq_true', Bool.and_eq_true, beq_iff_eq] at this
        obtain ⟨e, he, hb, heq⟩ := this
        have h1 := hR e.on (hall e he hb)
        rw [heq] at h1
        simp only [Nat.zero_add, h1]
    have hsel' : ∀ cs d, o.op ≠ .select cs d := fun cs d h => by rw [h] at hsel; simp at hsel
    have hsz : (putAll vs 0 ops.toList a0).tmps.size = F.tmps.size := by rw [hF, putAll_size, putAll_size]
    have hdf : F.defers = (putAll vs 0 ops.toList a0).defers := by rw [hF, putAll_defers, putAll_defers]
    have next : ∀ v w', (v = xs.getD i undef ∧ S (updR l i true) w') → K ((putAll vs 0 ops.toList a0).put o.dst v) w' := fun v w' ⟨hv, hS'⟩ => hK v w' ⟨⟨hS', hC'⟩, fun j hj => by
      by_cases hji : j = i
      · subst hji; rw [updR_same]; exact hv
      · rw [updR_ne _ _ hji] at hj ⊢; exact hR j hj⟩
    rw [wanted_alike same]
    by_cases hw : Region.wanted o (yielded ops F.tmps) = true
    · simp only [hw, if_true] at go ⊢
      exact wp_alike (Post := fun v w' => v = xs.getD i undef ∧ S (updR l i true) w') (exec_alike hsel' same) hsz hdf hQ next (go _ fun v w' hv hS' => ⟨v, rfl, hv, hS'⟩)
    · have hw' : Region.wanted o (yielded ops F.tmps) = false := by simpa using hw
      simp only [hw', Bool.false_eq_true, if_false] at go ⊢
      obtain ⟨v, e, hp⟩ := go (fun a' w' => ∃ v, a' = F.put o.dst v ∧ v = xs.getD i undef ∧ S (updR l i true) w') fun v w' hv hS' => ⟨v, rfl, hv, hS'⟩
      rw [put_alike hsz e]
      exact next v w hp
  · intro l vs w hl ⟨⟨hS, _⟩, hR⟩
    have : putAll vs 0 ops.toList a0 = F := by
      have hx : ∀ (os : List Oper) (k : Nat) (a : Act), (∀ j, j < os.length → vs (k + j) = xs.getD (k + j) undef) → putAll vs k os a = putAll (fun i => xs.getD i undef) k os a := by
        intro os
        induction os with
        | nil => intro k a _; rfl
        | cons o os ih =>
          intro k a h
          have h0 := h 0 (by simp)
          simp only [Nat.add_zero] at h0
          simp only [putAll, h0]
          exact ih (k + 1) _ fun j hj => by
            have := h (j + 1) (by simp; omega)
            rwa [show k + (j + 1) = k + 1 + j by omega] at this
      rw [hF]
      exact hx _ 0 a0 fun j hj => by rw [Nat.zero_add]; exact hR j (hl j (by simpa using hj))
    rw [this]
    exact hend l w hl hS

/-- What the kernel reckons: an operation of phase p waits for all turns ahead of p, and the turn p waits for it; a turn has its own phase. -/
def phaseAt (ops : Array Oper) (T : List Nat) (ph : List (Option Nat)) (i : Nat) : Bool :=
  match ph.getD i none with
  | none => (List.range T.length).all fun q => T[q]? != some i
  | some p => (match T[p]? with | some t => i == t || reach ops ops.size i t | none => true) &&
    ((List.range p).all fun q => match T[q]? with | some t => reach ops ops.size t i | none => false) &&
    ((List.range T.length).all fun q => T[q]? != some i || q == p)
def phases (ops : Array Oper) (T : List Nat) (ph : List (Option Nat)) : Bool :=
  ((List.range ops.size).all fun i => phaseAt ops T ph i) && T.all fun t => Nat.blt t ops.size

def preOf (W : Nat → World → Prop) : Option Nat → World → Prop
  | some p, w => W p w
  | none, _ => True
def postOf (W : Nat → World → Prop) (T : List Nat) (i : Nat) : Option Nat → World → World → Prop
  | some p, _, w' => W (if T[p]? = some i then p + 1 else p) w'
  | none, w, w' => w' = w

theorem region_phase {ops : Array Oper} {id : Nat} {a0 : Act} {w0 : World} (W : Nat → World → Prop) (T : List Nat) (ph : List (Option Nat)) (xs : List Value)
    (F : Act) (hF : F = putAll (fun i => xs.getD i undef) 0 ops.toList a0) (hm : P.follows .mixedOrders = true) (hf : fitsR ops = true) (hp : phases ops T ph = true)
    (hQ : ∀ c (x y : Act) w, x.defers = y.defers → Q (.panic c) x w → Q (.panic c) y w)
    (h0 : W 0 w0.drew)
    (hstep : AllOps (fun i o => ∀ w, preOf W (ph.getD i none) w → ∀ K : Act → World → Prop, (∀ v w', v = xs.getD i undef → postOf W T i (ph.getD i none) w w' → K (F.put o.dst v) w') →
        if Region.wanted o (yielded ops F.tmps) = true then Oper.wp P o F w K Q else K (F.put o.dst undef) w) 0 ops.toList)
    (hend : ∀ w, W T.length w → Q .normal F w) :
    (Code.region id ops true).wp P Q a0 w0 := by
  simp only [phases, Bool.and_eq_true, List.all_eq_true, List.mem_range] at hp
  obtain ⟨hp, hT⟩ := hp
  have hTs : ∀ q t, T[q]? = some t → t < ops.size := fun q t h => by
    have := hT t (List.mem_of_getElem? h)
    simpa using this
  refine region_valsL (fun l w => ∀ p, (∀ q, q < p → ∃ t, T[q]? = some t ∧ l t = true) → (∀ t, T[p]? = some t → l t = false) → W p w) xs F hF hm hf hQ ?_ ?_ ?_
  · intro p hp' _
    cases p with
    | zero => exact h0
    | succ p => obtain ⟨t, _, ht⟩ := hp' 0 (by omega); cases ht
  · intro i o ho l w hS hl hd hC K hK
    have ho' : ops.toList[i]? = some o := by rw [Array.getElem?_toList]; exact ho
    have go := hstep.get ho'
    rw [Nat.zero_add] at go
    have hi : i < ops.size := (Array.getElem?_eq_some_iff.1 ho).1
    have hpi := hp i hi
    cases hph : ph.getD i none with
    | none =>
      rw [hph] at go
      simp only [phaseAt, hph, List.all_eq_true, List.mem_range, bne_iff_ne, ne_eq] at hpi
      refine go w trivial K fun v w' hv hw => hK v w' hv ?_
      have hw' : w' = w := hw
      rw [hw']
      have ne : ∀ q t, T[q]? = some t → t ≠ i := fun q t hq e => by
        subst e
        exact hpi q (List.getElem?_eq_some_iff.1 hq).1 hq
      intro p h1 h2
      refine hS p (fun q hq => ?_) fun t ht => ?_
      · obtain ⟨t, ht, hlt⟩ := h1 q hq
        rw [updR_ne _ _ (ne q t ht)] at hlt
        exact ⟨t, ht, hlt⟩
      · have := h2 t ht
        rwa [updR_ne _ _ (ne p t ht)] at this
    | some p =>
      rw [hph] at go
      simp only [phaseAt, hph, Bool.and_eq_true, List.all_eq_true, List.mem_range] at hpi
      obtain ⟨⟨hp1, hp2⟩, hp3⟩ := hpi
      have up : ∀ {a b : Nat}, (∀ e ∈ depsAt ops b, l e = true) → reach ops ops.size a b = true → l a = true := fun h1 h2 => reach_up hC _ _ _ h1 h2
      have before : ∀ q, q < p → ∃ t, T[q]? = some t ∧ l t = true := fun q hq => by
        have := hp2 q hq
        split at this
        · rename_i t ht; exact ⟨t, ht, up hd this⟩
        · cases this
      have now : ∀ t, T[p]? = some t → l t = false := fun t ht => by
        rw [ht] at hp1
        cases hlt : l t with
        | false => rfl
        | true =>
          simp only [Bool.or_eq_true, beq_iff_eq] at hp1
          rcases hp1 with rfl | h
          · rw [hl] at hlt; cases hlt
          · have := up (hC t hlt) h
            rw [hl] at this; cases this
      refine go w (hS p before now) K fun v w' hv hw => hK v w' hv ?_
      have hw' : W (if T[p]? = some i then p + 1 else p) w' := hw
      intro p' h1 h2
      have at_i : ∀ q, T[q]? = some i → q = p := fun q hq => by
        have := hp3 q (List.getElem?_eq_some_iff.1 hq).1
        simpa [hq] using this
      by_cases hTp : T[p]? = some i
      · rw [if_pos hTp] at hw'
        have h3 : p' = p + 1 := by
          rcases Nat.lt_trichotomy p' (p + 1) with hlt | heq | hgt
          · exfalso
            by_cases hpp : p' = p
            · subst hpp
              have := h2 i hTp
              rw [updR_same] at this; cases this
            · obtain ⟨t, ht, hlt'⟩ := before p' (by omega)
              have := h2 t ht
              by_cases hti : t = i
              · subst hti; rw [updR_same] at this; cases this
              · rw [updR_ne _ _ hti, hlt'] at this; cases this
          · exact heq
          · exfalso
            obtain ⟨t, ht, hlt'⟩ := h1 (p + 1) hgt
            have hti : t ≠ i := fun e => by subst e; have := at_i _ ht; omega
            rw [updR_ne _ _ hti] at hlt'
            have hpt := hp t (hTs _ _ ht)
            cases hq : ph.getD t none with
            | none =>
              simp only [phaseAt, hq, List.all_eq_true, List.mem_range, bne_iff_ne, ne_eq] at hpt
              exact hpt _ (List.getElem?_eq_some_iff.1 ht).1 ht
            | some p2 =>
              simp only [phaseAt, hq, Bool.and_eq_true, List.all_eq_true, List.mem_range] at hpt
              have e2 : p + 1 = p2 := by
                have := hpt.2 (p + 1) (List.getElem?_eq_some_iff.1 ht).1
                simpa [ht] using this
              have := hpt.1.2 p (by omega)
              rw [hTp] at this
              have := up (hC t hlt') this
              rw [hl] at this; cases this
        rw [h3]; exact hw'
      · rw [if_neg hTp] at hw'
        have ne : ∀ q t, T[q]? = some t → t ≠ i := fun q t hq e => by
          subst e
          have := at_i _ hq
          subst this
          exact hTp hq
        have h3 : p' = p := by
          rcases Nat.lt_trichotomy p' p with hlt | heq | hgt
          · exfalso
            obtain ⟨t, ht, hlt'⟩ := before p' hlt
            have := h2 t ht
            rw [updR_ne _ _ (ne _ _ ht), hlt'] at this; cases this
          · exact heq
          · exfalso
            obtain ⟨t, ht, hlt'⟩ := h1 p hgt
            rw [updR_ne _ _ (ne _ _ ht), now t ht] at hlt'; cases hlt'
        rw [h3]; exact hw'
  · intro l w hall hS
    refine hend w (hS _ (fun q hq => ?_) fun t ht => ?_)
    · have ht : T[q]? = some T[q] := List.getElem?_eq_getElem hq
      exact ⟨_, ht, hall _ (hTs _ _ ht)⟩
    · rw [List.getElem?_eq_none (Nat.le_refl _)] at ht; cases ht
end

end Go.Proofs.Ytpnhdocimjkakaa
namespace Go.Proofs.Ytpnhdocimjkakaa
open Go.RowKit
section
variable {P : Program} {ST : TypeId} {k : Nat} (hu : P.underlying ST = some (.slice (P.elem ST))) (hs : ∀ w, (sizeOf (P.elem ST)).run P w = .ok k w)
include hu hs
theorem slice_fromK (A : Option Addr) (n cap j : Nat) (hj : j ≤ n) (w : World) :
    (Instr.slice ST (.slice A n cap) (some (.int .i64 (j : Int))) none none).run P w = .ok (.slice (if cap = j then A else A.map (·.add (j * k))) (n - j) (cap - j)) w := by
  have h := run_slice_l (P := P) (w := w) (t := ST) (a := A) (len := n) (cap := cap) hu .i64 (j : Int) (by omega) (by omega)
  rw [h, hs]
  simp [Result.andThen, sliced]
theorem slice_toK (A : Option Addr) (n cap j : Nat) (hj : j ≤ cap) (w : World) :
    (Instr.slice ST (.slice A n cap) none (some (.int .i64 (j : Int))) none).run P w = .ok (.slice A j cap) w := by
  have h := run_slice_h (P := P) (w := w) (t := ST) (a := A) (len := n) (cap := cap) hu .i64 (j : Int) (by omega) (by omega)
  rw [h, hs]
  have : ∀ a : Addr, a.add 0 = a := fun a => by unfold Addr.add; rw [if_pos rfl]
  cases A <;> simp [Result.andThen, sliced, this]
end
section
variable {α : Type} {enc : α → List Value} {k : Nat} {w : World} {K cap : Nat} {A : Option Addr} {l : List α}
theorem Sr.from (h : Sr enc k w K A cap l) {j : Nat} (hj : j ≤ l.length) : Sr enc k w K (if cap = j then A else A.map (·.add (j * k))) (cap - j) (l.drop j) := by
  have hle := h.le
  have hm := h.max
  have hl : (l.drop j).length = l.length - j := List.length_drop
  refine ⟨by omega, by omega, fun e => ?_, fun hn => ?_⟩
  · by_cases hc : cap = j
    · omega
    · rw [if_neg hc] at e
      cases A with
      | none => have := h.nil rfl; omega
      | some a => cases e
  · obtain ⟨ad, e, hb, hc⟩ := h.at_ (by omega)
    subst e
    rw [if_neg (by omega)]
    refine ⟨ad.add (j * k), rfl, by rw [el_block_of_add]; exact hb, fun i x hi q u hu => ?_⟩
    rw [List.getElem?_drop] at hi
    have := hc (j + i) x hi q u hu
    rwa [el_add_of_add, show j * k + (i * k + q) = (j + i) * k + q by rw [Nat.add_mul]; omega]
end
end Go.Proofs.Ytpnhdocimjkakaa
