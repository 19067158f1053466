/- slices.Clone[[]byte,byte]. -/
import Derived.Test.YtkkaehaoahpibaaPk2
import Derived.Test.YtkkaehaoahpibaaPk1
import Derived.Test.YtkkaehaoahpibaaPk0
import Derived.WalkSpells
namespace Go.Proofs.Ytkkaehaoahpibaa
open Go.RowKit


section
variable {P : Program} {Q : Exit → Act → World → Prop}
def depsAt (ops : Array Oper) (i : Nat) : List Nat := match ops[i]? with | some o => depsOf o | none => []
/-- Does i wait for a, by whatever way? -/
def reach (ops : Array Oper) : Nat → Nat → Nat → Bool
  | 0, _, _ => false
  | f + 1, a, i => (depsAt ops i).any fun e => e == a || reach ops f a e
theorem reach_up {ops : Array Oper} {l : Nat → Bool} (hC : ∀ j, l j = true → ∀ e ∈ depsAt ops j, l e = true) :
    ∀ (f a i : Nat), (∀ e ∈ depsAt ops i, l e = true) → reach ops f a i = true → l a = true
  | 0, _, _, _, h => by cases h
  | f + 1, a, i, hi, h => by
    simp only [reach, List.any_eq_true, Bool.or_eq_true, beq_iff_eq] at h
    obtain ⟨e, he, h⟩ := h
    rcases h with rfl | h
    · exact hi _ he
    · exact reach_up hC f a e (hC e (hi e he)) h

theorem mem_deps {ops : Array Oper} {i : Nat} {o : Oper} (ho : ops[i]? = some o) {l : Nat → Bool} (hall : ∀ e ∈ o.after, Region.binds .any e = true → l e.on = true) : ∀ e ∈ depsAt ops i, l e = true := by
  intro e he
  simp only [depsAt, ho, depsOf, List.mem_filterMap, Array.mem_toList_iff] at he
  obtain ⟨x, hx, hxe⟩ := he
  split at hxe
  · rename_i hb; cases hxe; exact hall x hx hb
  · cases hxe

/-- Each operation leaves one value; S is what is known of the world, by which operations have come up. -/
theorem region_valsL {ops : Array Oper} {id : Nat} {a0 : Act} {w0 : World} (S : (Nat → Bool) → World → Prop) (xs : List Value)
    (F : Act) (hF : F = putAll (fun i => xs.getD i undef) 0 ops.toList a0) (hm : P.follows .mixedOrders = true) (hf : fitsR ops = true)
    (hQ : ∀ c (x y : Act) w, x.defers = y.defers → Q (.panic c) x w → Q (.panic c) y w)
    (h0 : S (fun _ => false) w0.drew)
    (hstep : ∀ i o, ops[i]? = some o → ∀ l w, S l w → l i = false → (∀ e ∈ depsAt ops i, l e = true) → (∀ j, l j = true → ∀ e ∈ depsAt ops j, l e = true) →
      ∀ K : Act → World → Prop, (∀ v w', v = xs.getD i undef → S (updR l i true) w' → K (F.put o.dst v) w') →
        if Region.wanted o (yielded ops F.tmps) = true then Oper.wp P o F w K Q else K (F.put o.dst undef) w)
    (hend : ∀ l w, (∀ i, i < ops.size → l i = true) → S l w → Q .normal F w) :
    (Code.region id ops true).wp P Q a0 w0 := by
  refine region_inv hm hf (fun vs => putAll vs 0 ops.toList a0) (fun _ => rfl) hQ (fun l vs w => (S l w ∧ ∀ j, l j = true → ∀ e ∈ depsAt ops j, l e = true) ∧ ∀ j, l j = true → vs j = xs.getD j undef) ⟨⟨h0, fun j h => by cases h⟩, fun j h => by cases h⟩ ?_ ?_
  · intro i o ho l vs w ⟨⟨hS, hC⟩, hR⟩ hl hall K hK
    have hd := mem_deps ho hall
    have hC' : ∀ j, updR l i true j = true → ∀ e ∈ depsAt ops j, updR l i true e = true := fun j hj e he => by
      by_cases hei : e = i
      · subst hei; rw [updR_same]
      · rw [updR_ne _ _ hei]
        by_cases hji : j = i
        · subst hji; exact hd e he
        · rw [updR_ne _ _ hji] at hj; exact hC j hj e he
    have go := hstep i o ho l w hS hl hd hC
    have hfit := fits_spec hf ho
    simp only [fitsAt, Bool.and_eq_true, Array.all_eq_true_iff_forall_mem, List.all_eq_true] at hfit
    obtain ⟨⟨⟨_, hlook⟩, _⟩, hsel⟩ := hfit
    have same : ∀ t ∈ o.looksAt ops, (putAll vs 0 ops.toList a0).tmps[t]? = F.tmps[t]? := fun t ht => by
      rw [hF, putAll_get, putAll_get]
      have := hlook t ht
      cases hj : owner ops.toList t with
      | none => rfl
      | some j =>
        rw [hj] at this
        simp only [Array.any_eq_true', Bool.and_eq_true, beq_iff_eq] at this
        obtain ⟨e, he, hb, heq⟩ := this
        have h1 := hR e.on (hall e he hb)
        rw [heq] at h1
        simp only [Nat.zero_add, h1]
    have hsel' : ∀ cs d, o.op ≠ .select cs d := fun cs d h => by rw [h] at hsel; simp at hsel
    have hsz : (putAll vs 0 ops.toList a0).tmps.size = F.tmps.size := by rw [hF, putAll_size, putAll_size]
    have hdf : F.defers = (putAll vs 0 ops.toList a0).defers := by rw [hF, putAll_defers, putAll_defers]
    have next : ∀ v w', (v = xs.getD i undef ∧ S (updR l i true) w') → K ((putAll vs 0 ops.toList a0).put o.dst v) w' := fun v w' ⟨hv, hS'⟩ => hK v w' ⟨⟨hS', hC'⟩, fun j hj => by
      by_cases hji : j = i
      · subst hji; rw [updR_same]; exact hv
      · rw [updR_ne _ _ hji] at hj ⊢; exact hR j hj⟩
    rw [wanted_alike same]
    by_cases hw : Region.wanted o (yielded ops F.tmps) = true
    · simp only [hw, if_true] at go ⊢
      exact wp_alike (Post := fun v w' => v = xs.getD i undef ∧ S (updR l i true) w') (exec_alike hsel' same) hsz hdf hQ next (go _ fun v w' hv hS' => ⟨v, rfl, hv, hS'⟩)
    · have hw' : Region.wanted o (yielded ops F.tmps) = false := by simpa using hw
      simp only [hw', Bool.false_eq_true, if_false] at go ⊢
      obtain ⟨v, e, hp⟩ := go (fun a' w' => ∃ v, a' = F.put o.dst v ∧ v = xs.getD i undef ∧ S (updR l i true) w') fun v w' hv hS' => ⟨v, rfl, hv, hS'⟩
      rw [put_alike hsz e]
      exact next v w hp
  · intro l vs w hl ⟨⟨hS, _⟩, hR⟩
    have : putAll vs 0 ops.toList a0 = F := by
      have hx : ∀ (os : List Oper) (k : Nat) (a : Act), (∀ j, j < os.length → vs (k + j) = xs.getD (k + j) undef) → putAll vs k os a = putAll (fun i => xs.getD i undef) k os a := by
        intro os
        induction os with
        | nil => intro k a _; rfl
        | cons o os ih =>
          intro k a h
          have h0 := h 0 (by simp)
          simp only [Nat.add_zero] at h0
          simp only [putAll, h0]
          exact ih (k + 1) _ fun j hj => by
            have := h (j + 1) (by simp; omega)
            rwa [show k + (j + 1) = k + 1 + j by omega] at this
      rw [hF]
      exact hx _ 0 a0 fun j hj => by rw [Nat.zero_add]; exact hR j (hl j (by simpa using hj))
    rw [this]
    exact hend l w hl hS

/-- What the kernel reckons: an operation of phase p waits for all turns ahead of p, and the turn p waits for it; a turn has its own phase. -/
def phaseAt (ops : Array Oper) (T : List Nat) (ph : List (Option Nat)) (i : Nat) : Bool :=
  match ph.getD i none with
  | none => (List.range T.length).all fun q => T[q]? != some i
  | some p => (match T[p]? with | some t => i == t || reach ops ops.size i t | none => true) &&
    ((List.range p).all fun q => match T[q]? with | some t => reach ops ops.size t i | none => false) &&
    ((List.range T.length).all fun q => T[q]? != some i || q == p)
def phases (ops : Array Oper) (T : List Nat) (ph : List (Option Nat)) : Bool :=
  ((List.range ops.size).all fun i => phaseAt ops T ph i) && T.all fun t => Nat.blt t ops.size

def preOf (W : Nat → World → Prop) : Option Nat → World → Prop
  | some p, w => W p w
  | none, _ => True
def postOf (W : Nat → World → Prop) (T : List Nat) (i : Nat) : Option Nat → World → World → Prop
  | some p, _, w' => W (if T[p]? = some i then p + 1 else p) w'
  | none, w, w' => w' = w

theorem region_phase {ops : Array Oper} {id : Nat} {a0 : Act} {w0 : World} (W : Nat → World → Prop) (T : List Nat) (ph : List (Option Nat)) (xs : List Value)
    (F : Act) (hF : F = putAll (fun i => xs.getD i undef) 0 ops.toList a0) (hm : P.follows .mixedOrders = true) (hf : fitsR ops = true) (hp : phases ops T ph = true)
    (hQ : ∀ c (x y : Act) w, x.defers = y.defers → Q (.panic c) x w → Q (.panic c) y w)
    (h0 : W 0 w0.drew)
    (hstep : AllOps (fun i o => ∀ w, preOf W (ph.getD i none) w → ∀ K : Act → World → Prop, (∀ v w', v = xs.getD i undef → postOf W T i (ph.getD i none) w w' → K (F.put o.dst v) w') →
        if Region.wanted o (yielded ops F.tmps) = true then Oper.wp P o F w K Q else K (F.put o.dst undef) w) 0 ops.toList)
    (hend : ∀ w, W T.length w → Q .normal F w) :
    (Code.region id ops true).wp P Q a0 w0 := by
  simp only [phases, Bool.and_eq_true, List.all_eq_true, List.mem_range] at hp
  obtain ⟨hp, hT⟩ := hp
  have hTs : ∀ q t, T[q]? = some t → t < ops.size := fun q t h => by
    have := hT t (List.mem_of_getElem? h)
    simpa using this
  refine region_valsL (fun l w => ∀ p, (∀ q, q < p → ∃ t, T[q]? = some t ∧ l t = true) → (∀ t, T[p]? = some t → l t = false) → W p w) xs F hF hm hf hQ ?_ ?_ ?_
  · intro p hp' _
    cases p with
    | zero => exact h0
    | succ p => obtain ⟨t, _, ht⟩ := hp' 0 (by omega); cases ht
  · intro i o ho l w hS hl hd hC K hK
    have ho' : ops.toList[i]? = some o := by rw [Array.getElem?_toList]; exact ho
    have go := hstep.get ho'
    rw [Nat.zero_add] at go
    have hi : i < ops.size := (Array.getElem?_eq_some_iff.1 ho).1
    have hpi := hp i hi
    cases hph : ph.getD i none with
    | none =>
      rw [hph] at go
      simp only [phaseAt, hph, List.all_eq_true, List.mem_range, bne_iff_ne, ne_eq] at hpi
      refine go w trivial K fun v w' hv hw => hK v w' hv ?_
      have hw' : w' = w := hw
      rw [hw']
      have ne : ∀ q t, T[q]? = some t → t ≠ i := fun q t hq e => by
        subst e
        exact hpi q (List.getElem?_eq_some_iff.1 hq).1 hq
      intro p h1 h2
      refine hS p (fun q hq => ?_) fun t ht => ?_
      · obtain ⟨t, ht, hlt⟩ := h1 q hq
        rw [updR_ne _ _ (ne q t ht)] at hlt
        exact ⟨t, ht, hlt⟩
      · have := h2 t ht
        rwa [updR_ne _ _ (ne p t ht)] at this
    | some p =>
      rw [hph] at go
      simp only [phaseAt, hph, Bool.and_eq_true, List.all_eq_true, List.mem_range] at hpi
      obtain ⟨⟨hp1, hp2⟩, hp3⟩ := hpi
      have up : ∀ {a b : Nat}, (∀ e ∈ depsAt ops b, l e = true) → reach ops ops.size a b = true → l a = true := fun h1 h2 => reach_up hC _ _ _ h1 h2
      have before : ∀ q, q < p → ∃ t, T[q]? = some t ∧ l t = true := fun q hq => by
        have := hp2 q hq
        split at this
        · rename_i t ht; exact ⟨t, ht, up hd this⟩
        · cases this
      have now : ∀ t, T[p]? = some t → l t = false := fun t ht => by
        rw [ht] at hp1
        cases hlt : l t with
        | false => rfl
        | true =>
          simp only [Bool.or_eq_true, beq_iff_eq] at hp1
          rcases hp1 with rfl | h
          · rw [hl] at hlt; cases hlt
          · have := up (hC t hlt) h
            rw [hl] at this; cases this
      refine go w (hS p before now) K fun v w' hv hw => hK v w' hv ?_
      have hw' : W (if T[p]? = some i then p + 1 else p) w' := hw
      intro p' h1 h2
      have at_i : ∀ q, T[q]? = some i → q = p := fun q hq => by
        have := hp3 q (List.getElem?_eq_some_iff.1 hq).1
        simpa [hq] using this
      by_cases hTp : T[p]? = some i
      · rw [if_pos hTp] at hw'
        have h3 : p' = p + 1 := by
          rcases Nat.lt_trichotomy p' (p + 1) with hlt | heq | hgt
          · exfalso
            by_cases hpp : p' = p
            · subst hpp
              have := h2 i hTp
              rw [updR_same] at this; cases this
            · obtain ⟨t, ht, hlt'⟩ := before p' (by omega)
              have := h2 t ht
              by_cases hti : t = i
              · subst hti; rw [updR_same] at this; cases this
              · rw [updR_ne _ _ hti, hlt'] at this; cases this
          · exact heq
          · exfalso
            obtain ⟨t, ht, hlt'⟩ := h1 (p + 1) hgt
            have hti : t ≠ i := fun e => by subst e; have := at_i _ ht; omega
            rw [updR_ne _ _ hti] at hlt'
            have hpt := hp t (hTs _ _ ht)
            cases hq : ph.getD t none with
            | none =>
              simp only [phaseAt, hq, List.all_eq_true, List.mem_range, bne_iff_ne, ne_eq] at hpt
              exact hpt _ (List.getElem?_eq_some_iff.1 ht).1 ht
            | some p2 =>
              simp only [phaseAt, hq, Bool.and_eq_true, List.all_eq_true, List.mem_range] at hpt
              have e2 : p + 1 = p2 := by
                have := hpt.2 (p + 1) (List.getElem?_eq_some_iff.1 ht).1
                simpa [ht] using this
              have := hpt.1.2 p (by omega)
              rw [hTp] at this
              have := up (hC t hlt') this
              rw [hl] at this; cases this
        rw [h3]; exact hw'
      · rw [if_neg hTp] at hw'
        have ne : ∀ q t, T[q]? = some t → t ≠ i := fun q t hq e => by
          subst e
          have := at_i _ hq
          subst this
          exact hTp hq
        have h3 : p' = p := by
          rcases Nat.lt_trichotomy p' p with hlt | heq | hgt
          · exfalso
            obtain ⟨t, ht, hlt'⟩ := before p' hlt
            have := h2 t ht
            rw [updR_ne _ _ (ne _ _ ht), hlt'] at this; cases this
          · exact heq
          · exfalso
            obtain ⟨t, ht, hlt'⟩ := h1 p hgt
            rw [updR_ne _ _ (ne _ _ ht), now t ht] at hlt'; cases hlt'
        rw [h3]; exact hw'
  · intro l w hall hS
    refine hend w (hS _ (fun q hq => ?_) fun t ht => ?_)
    · have ht : T[q]? = some T[q] := List.getElem?_eq_getElem hq
      exact ⟨_, ht, hall _ (hTs _ _ ht)⟩
    · rw [List.getElem?_eq_none (Nat.le_refl _)] at ht; cases ht
end

end Go.Proofs.Ytkkaehaoahpibaa
namespace Go.Proofs.Ytkkaehaoahpibaa
open Go.RowKit

def stepOr (b : Bool) (p q : Prop) : Prop := match b with | true => p | false => q
/-- What the kernel reckons: the operation n waits for all others. -/
def lastAll (ops : Array Oper) (n : Nat) : Bool := (ops.size == n + 1) && (List.range n).all fun i => reach ops ops.size i n
theorem region_VS {P : Program} {Q : Exit → Act → World → Prop} {ops : Array Oper} {id : Nat} {a0 : Act} {w0 : World} {ι : Type} (holds : ι → Value → World → Prop) (G E : World → Prop) (n : Nat) (xs : List ι) (d : ι)
    (mono : ∀ p v w w', holds p v w → Below w.heap.size w w' → holds p v w')
    (F : (Nat → Value) → Act) (hF : ∀ vs, F vs = putAll vs 0 ops.toList a0) (hm : P.follows .mixedOrders = true) (hf : fitsR ops = true) (hl : lastAll ops n = true)
    (hQ : ∀ c (x y : Act) w, x.defers = y.defers → Q (.panic c) x w → Q (.panic c) y w)
    (h0 : G w0.drew)
    (hstep : AllOps (fun i o => ∀ vs w, G w → AllD (fun j => holds (xs.getD j d) (vs j) w) (depsOf o) →
      ∀ K : Act → World → Prop, stepOr (Nat.beq i n) (∀ v w', E w' → K ((F vs).put o.dst v) w') (∀ v w', Below w.heap.size w w' → G w' → holds (xs.getD i d) v w' → K ((F vs).put o.dst v) w') →
        if Region.wanted o (yielded ops (F vs).tmps) = true then Oper.wp P o (F vs) w K Q else K ((F vs).put o.dst undef) w) 0 ops.toList)
    (hend : ∀ vs w, E w → Q .normal (F vs) w) :
    (Code.region id ops true).wp P Q a0 w0 := by
  simp only [lastAll, Bool.and_eq_true, beq_iff_eq, List.all_eq_true, List.mem_range] at hl
  obtain ⟨hsz, hlast⟩ := hl
  refine region_inv hm hf F hF hQ (fun l vs w => (∀ j, l j = true → ∀ e ∈ depsAt ops j, l e = true) ∧ (l n = true → E w) ∧ (l n = false → G w ∧ ∀ i, l i = true → holds (xs.getD i d) (vs i) w))
    ⟨(fun _ h => by cases h), (fun h => by cases h), fun _ => ⟨h0, (fun _ h => by cases h)⟩⟩ ?_ (fun l vs w hl hJ => hend vs w (hJ.2.1 (hl n (by omega))))
  intro i o ho l vs w ⟨hC, hE, hG⟩ hli hall K hK
  have hi : i < ops.size := (Array.getElem?_eq_some_iff.1 ho).1
  have hd := mem_deps ho hall
  have hC' : ∀ j, updR l i true j = true → ∀ e ∈ depsAt ops j, updR l i true e = true := fun j hj e he => by
    by_cases hei : e = i
    · subst hei; rw [updR_same]
    · rw [updR_ne _ _ hei]
      by_cases hji : j = i
      · subst hji; exact hd e he
      · rw [updR_ne _ _ hji] at hj; exact hC j hj e he
  have hn : l n = false := by
    cases hln : l n with
    | false => rfl
    | true =>
      by_cases e : i = n
      · subst e; rw [hli] at hln; cases hln
      · have := reach_up hC ops.size i n (hC n hln) (hlast i (by omega))
        rw [hli] at this
        cases this
  obtain ⟨hg, hh⟩ := hG hn
  have ho' : ops.toList[i]? = some o := by rw [Array.getElem?_toList]; exact ho
  have go := hstep.get ho'
  rw [Nat.zero_add] at go
  have hdep : AllD (fun j => holds (xs.getD j d) (vs j) w) (depsOf o) := by
    have hdo : depsAt ops i = depsOf o := by simp [depsAt, ho]
    rw [hdo] at hd
    exact AllD.of (fun j hj => hh j hj) (AllL.mk hd)
  refine go vs w hg hdep K ?_
  by_cases e : i = n
  · subst e
    have hb : Nat.beq i i = true := Nat.beq_refl i
    rw [hb]
    exact fun v w' hw => hK v w' ⟨hC', fun _ => hw, fun h => by rw [updR_same] at h; cases h⟩
  · have hb : Nat.beq i n = false := by
      cases h : Nat.beq i n with
      | false => rfl
      | true => exact absurd (Nat.eq_of_beq_eq_true h) e
    rw [hb]
    refine fun v w' hbl hG' hv => hK v w' ⟨hC', fun h => ?_, fun _ => ⟨hG', fun j hj => ?_⟩⟩
    · rw [updR_ne _ _ (Ne.symm e), hn] at h; cases h
    · by_cases ej : j = i
      · subst ej; rw [updR_same]; exact hv
      · rw [updR_ne _ _ ej] at hj ⊢
        exact mono _ _ _ _ (hh j hj) hbl
end Go.Proofs.Ytkkaehaoahpibaa
namespace Go.Proofs.Ytkkaehaoahpibaa
open Go.RowKit Go.BigFrame

theorem take_drop_b (q : Rq) : q.x.b = q.x.b.take q.x.l ++ q.x.b.drop q.x.l := (List.take_append_drop _ _).symm
/-- The disk, seen from a world behind. -/
structure Gd (w : World) (m : Nat) (room fuse : Int) (down : Bool) (A : Option Addr) (cap : Nat) (qs : List Rq) (wx : World) : Prop where
  k : RK wx m room fuse down A cap qs
  bel : Below w.heap.size w wx
section
variable {w wx w1 : World} {m cap i g : Nat} {room fuse : Int} {down : Bool} {A : Option Addr} {qs : List Rq} {q : Rq}
theorem Gd.c1 (h : Gd w m room fuse down A cap qs wx) : wx.cell? ⟨m, 1, none⟩ = some (.slice A qs.length cap) := h.k.c1
theorem Gd.slot (h : Gd w m room fuse down (some ⟨g, 0, none⟩) cap qs wx) (hi : qs[i]? = some q) : (∀ j u, (encQ q)[j]? = some u → wx.cell? ⟨g, i * 4 + j, none⟩ = some u) ∧ ∀ j, wx.frozen? ⟨g, j, none⟩ = false := h.k.slot hi
theorem Gd.below (h : Gd w m room fuse down A cap qs wx) (hb : Below wx.heap.size wx w1) : Gd w m room fuse down A cap qs w1 := ⟨h.k.below hb, h.bel.trans (hb.mono h.bel.size)⟩
set_option maxRecDepth 100000 in
set_option maxHeartbeats 3200000 in
theorem rbytes_any (h : RK w m room fuse down A cap qs) (hiq : qs[i]? = some q) (hlen : qs.length ≤ 1025) (hsum : q.x.b.length ≤ 67108864) :
    Calls Try.prog 31 #[rP m, .int .i64 (i : Int)] w (NewB w q.x.b) := by
  have hil : i < qs.length := (List.getElem?_eq_some_iff.1 hiq).1
  obtain ⟨g, rfl⟩ := h.addr (by omega)
  have hle := (h.so.sr encQ_len).1.le
  have hmx := (h.so.sr encQ_len).1.max
  unfold maxLen at hmx
  have HK0 := Lib.hid h
  have hq := h.gq q (List.mem_of_getElem? hiq)
  have hl1 : (q.x.b.take q.x.l).length = q.x.l := by rw [List.length_take]; have := hq.le; omega
  have hl2 : (q.x.b.drop q.x.l).length = q.x.b.length - q.x.l := List.length_drop
  have HJ := Lib.hid (fun (W : World) (hW : Below w.heap.size w W) => by
    have := rjoin_any (w := W) ((hq.b1.below hW)) ((hq.b2.below hW)) hW.size (by rw [hl1]; have := hq.le; omega) (by rw [hl2]; omega) (take_drop_b q)
    rw [hl1, hl2] at this
    exact this)
  have i1 : (i : Int) < qs.length := by omega
  clear h hq hl1 hl2
  go_enter Try.func31, Try.ntmps31
  go_wp2_with fail
  apply region_V (Hb w) (Gd w m room fuse down (some ⟨g, 0, none⟩) cap qs) [.inl (.pointer (some ⟨m, 0, none⟩)), .inl (.pointer (some ⟨m, 0, none⟩)), .inl (.pointer (some ⟨m, 1, none⟩)), .inl (.slice (some ⟨g, 0, none⟩) qs.length cap), .inl (.int .i64 (i : Int)), .inl (.pointer (some ⟨g, i * 4, none⟩)), .inl (.pointer (some ⟨g, i * 4 + 1, none⟩)), .inl (.slice q.A q.x.l q.c), .inl (.pointer (some ⟨m, 0, none⟩)), .inl (.pointer (some ⟨m, 0, none⟩)), .inl (.pointer (some ⟨m, 1, none⟩)), .inl (.slice (some ⟨g, 0, none⟩) qs.length cap), .inl (.int .i64 (i : Int)), .inl (.pointer (some ⟨g, i * 4, none⟩)), .inl (.pointer (some ⟨g, i * 4 + 2, none⟩)), .inl (.slice q.B (q.x.b.length - q.x.l) q.d), .inr q.x.b, .inr q.x.b] (.inl undef)
  case mono => exact fun p v w w1 h hb => Hb.mono h hb
  case hm => kernel_rfl
  case hf => kernel_rfl
  case hQ => exact (by intro c x y w e h; exact And.intro (e.symm.trans (And.left h)) (And.right h))
  case hF => intro vs; simp only [putAll, Act.put, List.setIfInBounds_toArray, List.set_cons_zero, List.set_cons_succ, Nat.reduceAdd]; rfl
  case h0 => exact ⟨HK0.out.below ⟨rfl, rfl, rfl, Nat.le_refl _, fun _ _ => rfl⟩, ⟨rfl, rfl, rfl, Nat.le_refl _, fun _ _ => rfl⟩⟩
  case hstep =>
    repeat' (first | exact AllOps.nil | apply AllOps.cons)
    · intro vs wx hG hd K hK
      replace hK : ∀ (uu : Value) (w' : World), Below wx.heap.size wx w' → ((Gd w m room fuse down (some ⟨g, 0, none⟩) cap qs)) w' → (Hb w) (.inl (.pointer (some ⟨m, 0, none⟩))) uu w' → K _ w' := hK
      simp only [Act.put, List.setIfInBounds_toArray, List.set_cons_zero, List.set_cons_succ] at hK ⊢
      have HK := Lib.hid hK
      have HG := Lib.hid hG
      clear hK hd
      clear hG
      go_simp
      exact HK.out _ _ (Below.refl _ _) HG.out rfl
    · intro vs wx hG hd K hK
      have e0 : vs 0 = .pointer (some ⟨m, 0, none⟩) := hd.get (j := 0) (by simp [depsOf, Region.binds])
      replace hK : ∀ (uu : Value) (w' : World), Below wx.heap.size wx w' → ((Gd w m room fuse down (some ⟨g, 0, none⟩) cap qs)) w' → (Hb w) (.inl (.pointer (some ⟨m, 0, none⟩))) uu w' → K _ w' := hK
      simp only [Act.put, List.setIfInBounds_toArray, List.set_cons_zero, List.set_cons_succ, e0] at hK ⊢
      have HK := Lib.hid hK
      have HG := Lib.hid hG
      clear hK hd e0
      clear hG
      go_simp
      exact HK.out _ _ (Below.refl _ _) HG.out rfl
    · intro vs wx hG hd K hK
      have e1 : vs 1 = .pointer (some ⟨m, 0, none⟩) := hd.get (j := 1) (by simp [depsOf, Region.binds])
      replace hK : ∀ (uu : Value) (w' : World), Below wx.heap.size wx w' → ((Gd w m room fuse down (some ⟨g, 0, none⟩) cap qs)) w' → (Hb w) (.inl (.pointer (some ⟨m, 1, none⟩))) uu w' → K _ w' := hK
      simp only [Act.put, List.setIfInBounds_toArray, List.set_cons_zero, List.set_cons_succ, e1] at hK ⊢
      have HK := Lib.hid hK
      have HG := Lib.hid hG
      clear hK hd e1
      clear hG
      go_simp
      exact HK.out _ _ (Below.refl _ _) HG.out rfl
    · intro vs wx hG hd K hK
      have e2 : vs 2 = .pointer (some ⟨m, 1, none⟩) := hd.get (j := 2) (by simp [depsOf, Region.binds])
      replace hK : ∀ (uu : Value) (w' : World), Below wx.heap.size wx w' → ((Gd w m room fuse down (some ⟨g, 0, none⟩) cap qs)) w' → (Hb w) (.inl (.slice (some ⟨g, 0, none⟩) qs.length cap)) uu w' → K _ w' := hK
      simp only [Act.put, List.setIfInBounds_toArray, List.set_cons_zero, List.set_cons_succ, e2] at hK ⊢
      have HK := Lib.hid hK
      have HG := Lib.hid hG
      clear hK hd e2
      have gc1 := HG.out.c1
      obtain ⟨gs, _⟩ := HG.out.slot hiq
      have gs1 := gs 1 _ rfl
      have gs2 := gs 2 _ rfl
      clear hG gs
      go_simp
      exact HK.out _ _ (Below.refl _ _) HG.out rfl
    · intro vs wx hG hd K hK
      replace hK : ∀ (uu : Value) (w' : World), Below wx.heap.size wx w' → ((Gd w m room fuse down (some ⟨g, 0, none⟩) cap qs)) w' → (Hb w) (.inl (.int .i64 (i : Int))) uu w' → K _ w' := hK
      simp only [Act.put, List.setIfInBounds_toArray, List.set_cons_zero, List.set_cons_succ] at hK ⊢
      have HK := Lib.hid hK
      have HG := Lib.hid hG
      clear hK hd
      clear hG
      go_simp
      exact HK.out _ _ (Below.refl _ _) HG.out rfl
    · intro vs wx hG hd K hK
      have e3 : vs 3 = .slice (some ⟨g, 0, none⟩) qs.length cap := hd.get (j := 3) (by simp [depsOf, Region.binds])
      have e4 : vs 4 = .int .i64 (i : Int) := hd.get (j := 4) (by simp [depsOf, Region.binds])
      replace hK : ∀ (uu : Value) (w' : World), Below wx.heap.size wx w' → ((Gd w m room fuse down (some ⟨g, 0, none⟩) cap qs)) w' → (Hb w) (.inl (.pointer (some ⟨g, i * 4, none⟩))) uu w' → K _ w' := hK
      simp only [Act.put, List.setIfInBounds_toArray, List.set_cons_zero, List.set_cons_succ, e3, e4] at hK ⊢
      have HK := Lib.hid hK
      have HG := Lib.hid hG
      clear hK hd e3 e4
      clear hG
      go_simp
      exact HK.out _ _ (Below.refl _ _) HG.out rfl
    · intro vs wx hG hd K hK
      have e5 : vs 5 = .pointer (some ⟨g, i * 4, none⟩) := hd.get (j := 5) (by simp [depsOf, Region.binds])
      replace hK : ∀ (uu : Value) (w' : World), Below wx.heap.size wx w' → ((Gd w m room fuse down (some ⟨g, 0, none⟩) cap qs)) w' → (Hb w) (.inl (.pointer (some ⟨g, i * 4 + 1, none⟩))) uu w' → K _ w' := hK
      simp only [Act.put, List.setIfInBounds_toArray, List.set_cons_zero, List.set_cons_succ, e5] at hK ⊢
      have HK := Lib.hid hK
      have HG := Lib.hid hG
      clear hK hd e5
      clear hG
      go_simp
      exact HK.out _ _ (Below.refl _ _) HG.out rfl
    · intro vs wx hG hd K hK
      have e6 : vs 6 = .pointer (some ⟨g, i * 4 + 1, none⟩) := hd.get (j := 6) (by simp [depsOf, Region.binds])
      replace hK : ∀ (uu : Value) (w' : World), Below wx.heap.size wx w' → ((Gd w m room fuse down (some ⟨g, 0, none⟩) cap qs)) w' → (Hb w) (.inl (.slice q.A q.x.l q.c)) uu w' → K _ w' := hK
      simp only [Act.put, List.setIfInBounds_toArray, List.set_cons_zero, List.set_cons_succ, e6] at hK ⊢
      have HK := Lib.hid hK
      have HG := Lib.hid hG
      clear hK hd e6
      have gc1 := HG.out.c1
      obtain ⟨gs, _⟩ := HG.out.slot hiq
      have gs1 := gs 1 _ rfl
      have gs2 := gs 2 _ rfl
      clear hG gs
      go_simp
      exact HK.out _ _ (Below.refl _ _) HG.out rfl
    · intro vs wx hG hd K hK
      replace hK : ∀ (uu : Value) (w' : World), Below wx.heap.size wx w' → ((Gd w m room fuse down (some ⟨g, 0, none⟩) cap qs)) w' → (Hb w) (.inl (.pointer (some ⟨m, 0, none⟩))) uu w' → K _ w' := hK
      simp only [Act.put, List.setIfInBounds_toArray, List.set_cons_zero, List.set_cons_succ] at hK ⊢
      have HK := Lib.hid hK
      have HG := Lib.hid hG
      clear hK hd
      clear hG
      go_simp
      exact HK.out _ _ (Below.refl _ _) HG.out rfl
    · intro vs wx hG hd K hK
      have e8 : vs 8 = .pointer (some ⟨m, 0, none⟩) := hd.get (j := 8) (by simp [depsOf, Region.binds])
      replace hK : ∀ (uu : Value) (w' : World), Below wx.heap.size wx w' → ((Gd w m room fuse down (some ⟨g, 0, none⟩) cap qs)) w' → (Hb w) (.inl (.pointer (some ⟨m, 0, none⟩))) uu w' → K _ w' := hK
      simp only [Act.put, List.setIfInBounds_toArray, List.set_cons_zero, List.set_cons_succ, e8] at hK ⊢
      have HK := Lib.hid hK
      have HG := Lib.hid hG
      clear hK hd e8
      clear hG
      go_simp
      exact HK.out _ _ (Below.refl _ _) HG.out rfl
    · intro vs wx hG hd K hK
      have e9 : vs 9 = .pointer (some ⟨m, 0, none⟩) := hd.get (j := 9) (by simp [depsOf, Region.binds])
      replace hK : ∀ (uu : Value) (w' : World), Below wx.heap.size wx w' → ((Gd w m room fuse down (some ⟨g, 0, none⟩) cap qs)) w' → (Hb w) (.inl (.pointer (some ⟨m, 1, none⟩))) uu w' → K _ w' := hK
      simp only [Act.put, List.setIfInBounds_toArray, List.set_cons_zero, List.set_cons_succ, e9] at hK ⊢
      have HK := Lib.hid hK
      have HG := Lib.hid hG
      clear hK hd e9
      clear hG
      go_simp
      exact HK.out _ _ (Below.refl _ _) HG.out rfl
    · intro vs wx hG hd K hK
      have e10 : vs 10 = .pointer (some ⟨m, 1, none⟩) := hd.get (j := 10) (by simp [depsOf, Region.binds])
      replace hK : ∀ (uu : Value) (w' : World), Below wx.heap.size wx w' → ((Gd w m room fuse down (some ⟨g, 0, none⟩) cap qs)) w' → (Hb w) (.inl (.slice (some ⟨g, 0, none⟩) qs.length cap)) uu w' → K _ w' := hK
      simp only [Act.put, List.setIfInBounds_toArray, List.set_cons_zero, List.set_cons_succ, e10] at hK ⊢
      have HK := Lib.hid hK
      have HG := Lib.hid hG
      clear hK hd e10
      have gc1 := HG.out.c1
      obtain ⟨gs, _⟩ := HG.out.slot hiq
      have gs1 := gs 1 _ rfl
      have gs2 := gs 2 _ rfl
      clear hG gs
      go_simp
      exact HK.out _ _ (Below.refl _ _) HG.out rfl
    · intro vs wx hG hd K hK
      replace hK : ∀ (uu : Value) (w' : World), Below wx.heap.size wx w' → ((Gd w m room fuse down (some ⟨g, 0, none⟩) cap qs)) w' → (Hb w) (.inl (.int .i64 (i : Int))) uu w' → K _ w' := hK
      simp only [Act.put, List.setIfInBounds_toArray, List.set_cons_zero, List.set_cons_succ] at hK ⊢
      have HK := Lib.hid hK
      have HG := Lib.hid hG
      clear hK hd
      clear hG
      go_simp
      exact HK.out _ _ (Below.refl _ _) HG.out rfl
    · intro vs wx hG hd K hK
      have e11 : vs 11 = .slice (some ⟨g, 0, none⟩) qs.length cap := hd.get (j := 11) (by simp [depsOf, Region.binds])
      have e12 : vs 12 = .int .i64 (i : Int) := hd.get (j := 12) (by simp [depsOf, Region.binds])
      replace hK : ∀ (uu : Value) (w' : World), Below wx.heap.size wx w' → ((Gd w m room fuse down (some ⟨g, 0, none⟩) cap qs)) w' → (Hb w) (.inl (.pointer (some ⟨g, i * 4, none⟩))) uu w' → K _ w' := hK
      simp only [Act.put, List.setIfInBounds_toArray, List.set_cons_zero, List.set_cons_succ, e11, e12] at hK ⊢
      have HK := Lib.hid hK
      have HG := Lib.hid hG
      clear hK hd e11 e12
      clear hG
      go_simp
      exact HK.out _ _ (Below.refl _ _) HG.out rfl
    · intro vs wx hG hd K hK
      have e13 : vs 13 = .pointer (some ⟨g, i * 4, none⟩) := hd.get (j := 13) (by simp [depsOf, Region.binds])
      replace hK : ∀ (uu : Value) (w' : World), Below wx.heap.size wx w' → ((Gd w m room fuse down (some ⟨g, 0, none⟩) cap qs)) w' → (Hb w) (.inl (.pointer (some ⟨g, i * 4 + 2, none⟩))) uu w' → K _ w' := hK
      simp only [Act.put, List.setIfInBounds_toArray, List.set_cons_zero, List.set_cons_succ, e13] at hK ⊢
      have HK := Lib.hid hK
      have HG := Lib.hid hG
      clear hK hd e13
      clear hG
      go_simp
      exact HK.out _ _ (Below.refl _ _) HG.out rfl
    · intro vs wx hG hd K hK
      have e14 : vs 14 = .pointer (some ⟨g, i * 4 + 2, none⟩) := hd.get (j := 14) (by simp [depsOf, Region.binds])
      replace hK : ∀ (uu : Value) (w' : World), Below wx.heap.size wx w' → ((Gd w m room fuse down (some ⟨g, 0, none⟩) cap qs)) w' → (Hb w) (.inl (.slice q.B (q.x.b.length - q.x.l) q.d)) uu w' → K _ w' := hK
      simp only [Act.put, List.setIfInBounds_toArray, List.set_cons_zero, List.set_cons_succ, e14] at hK ⊢
      have HK := Lib.hid hK
      have HG := Lib.hid hG
      clear hK hd e14
      have gc1 := HG.out.c1
      obtain ⟨gs, _⟩ := HG.out.slot hiq
      have gs1 := gs 1 _ rfl
      have gs2 := gs 2 _ rfl
      clear hG gs
      go_simp
      exact HK.out _ _ (Below.refl _ _) HG.out rfl
    · intro vs wx hG hd K hK
      have e7 : vs 7 = .slice q.A q.x.l q.c := hd.get (j := 7) (by simp [depsOf, Region.binds])
      have e15 : vs 15 = .slice q.B (q.x.b.length - q.x.l) q.d := hd.get (j := 15) (by simp [depsOf, Region.binds])
      replace hK : ∀ (uu : Value) (w' : World), Below wx.heap.size wx w' → ((Gd w m room fuse down (some ⟨g, 0, none⟩) cap qs)) w' → (Hb w) (.inr q.x.b) uu w' → K _ w' := hK
      simp only [Act.put, List.setIfInBounds_toArray, List.set_cons_zero, List.set_cons_succ, e7, e15] at hK ⊢
      have HK := Lib.hid hK
      have HG := Lib.hid hG
      clear hK hd e7 e15
      clear hG
      go_simp
      go_at_call 42
      refine (HJ.out _ HG.out.bel).mono ?_
      rintro e w1 ⟨A9, c9, rfl, ho, hb⟩
      exact HK.out _ _ hb (HG.out.below hb) ⟨A9, c9, rfl, ho.more HG.out.bel.size⟩
    · intro vs wx hG hd K hK
      obtain ⟨A16, c16, e16, q16⟩ : ∃ Aq cq, vs 16 = .slice Aq q.x.b.length cq ∧ Ob wx w.heap.size (.slice Aq q.x.b.length cq) q.x.b := hd.get (j := 16) (by simp [depsOf, Region.binds])
      replace hK : ∀ (uu : Value) (w' : World), Below wx.heap.size wx w' → ((Gd w m room fuse down (some ⟨g, 0, none⟩) cap qs)) w' → (Hb w) (.inr q.x.b) uu w' → K _ w' := hK
      simp only [Act.put, List.setIfInBounds_toArray, List.set_cons_zero, List.set_cons_succ, e16] at hK ⊢
      have HK := Lib.hid hK
      have HG := Lib.hid hG
      clear hK hd e16
      clear hG
      go_simp
      exact HK.out _ _ (Below.refl _ _) HG.out ⟨A16, c16, rfl, q16⟩
  case hend =>
    intro vs wx hG hv
    obtain ⟨A9, c9, e17, ho⟩ : ∃ A c, vs 17 = .slice A q.x.b.length c ∧ Ob wx w.heap.size (.slice A q.x.b.length c) q.x.b := hv 17 (by decide)
    rw [e17]
    clear hv e17
    go_wp2_with fail
    go_ret
    exact ⟨A9, c9, rfl, ho, hG.bel⟩
end
end Go.Proofs.Ytkkaehaoahpibaa
namespace Go.Proofs.Ytkkaehaoahpibaa
open Go.RowKit

theorem grown_below {W w w1 : World} {v : Value} {B : Nat} (h : Below B W w) (hg : w.grownBy w1 v.ownBlock) (hB : B ≤ w.heap.size) (ho : ∀ k, v.ownBlock = some k → B ≤ k) : Below B W w1 := h.grown hg hB ho
/-- A new slice with the bytes l; nothing else has turned. -/
def NewBytes (w : World) (l : List UInt8) (e : Ending) (w' : World) : Prop :=
  ∃ A' cap', e = .returned (.slice A' l.length cap') ∧ Ob w' w.heap.size (.slice A' l.length cap') l ∧ Below w.heap.size w w'

theorem clone_any (K : Nat) (A : Option Addr) (n cap : Nat) (l : List UInt8) (w : World) (hn : l.length = n) (hb : Bs w K A cap l) (hK : K ≤ w.heap.size) (hsz : l.length ≤ 140737488355328) :
    Calls Try.prog 55 #[.slice A n cap] w (NewBytes w l) := by
  subst hn
  have hle := hb.le
  have hmax := hb.max
  unfold maxLen at hmax
  cases A with
  | none =>
    have hc := hb.nil rfl
    have hl : l = [] := List.eq_nil_of_length_eq_zero (by omega)
    subst hl hc
    have hq := Lib.run_eql_slice_nil (P := Try.prog) w 32 5 none 0 0 0 0 Try.underlying32
    go_enter Try.func55, Try.ntmps55
    go_wp2
    go_ret
    exact ⟨none, 0, rfl, Ob.empty _ _, Below.refl _ _⟩
  | some ad =>
    have hq := Lib.run_eql_slice_nil (P := Try.prog) w 32 5 (some ad) l.length cap 0 0 Try.underlying32
    go_enter Try.func55, Try.ntmps55
    go_wp2_with (at_builtin; refine wpList_app _ rfl (.tmp 5) (.tmp 6) rfl w.heap.size (.slice (some ⟨w.heap.size, 0, none⟩) 0 0) [] rfl (lit_ob _ w.heap.size w.heap.size rfl (Nat.le_refl _) _ 0 [] rfl rfl (by decide)) (some ad) l.length cap l rfl rfl K (hb.alloc hK _) l.length (by simp) (by simpa using hsz) (by simp) ?_; intro A2 cap2 w2 hown2 hgrow2 hat2; have B2 : Below w.heap.size w w2 := grown_below ((Below.refl _ _).alloc (Nat.le_refl _) _) hgrow2 (by simp) (by simp [Value.ownBlock]))
    go_ret
    exact ⟨A2, cap2, rfl, hown2, B2⟩
end Go.Proofs.Ytkkaehaoahpibaa
