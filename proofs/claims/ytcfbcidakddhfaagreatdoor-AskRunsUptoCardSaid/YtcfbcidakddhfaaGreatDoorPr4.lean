/- The shelf's contract of WriteString of a Builder that the call itself has made, laid at this program. -/
import Derived.Test.YtcfbcidakddhfaaGreatDoorPr2
import Derived.Test.YtcfbcidakddhfaaGreatDoorPr3
import Derived.Test.YtcfbcidakddhfaaGreatDoorRows
import Derived.LoopTactic
namespace Go.Proofs.YtcfbcidakddhfaaGreatDoor
open Go.RowKit


section
variable {P : Program} {Q : Exit → Act → World → Prop}
def depsAt (ops : Array Oper) (i : Nat) : List Nat := match ops[i]? with | some o => depsOf o | none => []
/-- Does i wait for a, by whatever way? -/
def reach (ops : Array Oper) : Nat → Nat → Nat → Bool
  | 0, _, _ => false
  | f + 1, a, i => (depsAt ops i).any fun e => e == a || reach ops f a e
theorem reach_up {ops : Array Oper} {l : Nat → Bool} (hC : ∀ j, l j = true → ∀ e ∈ depsAt ops j, l e = true) :
    ∀ (f a i : Nat), (∀ e ∈ depsAt ops i, l e = true) → reach ops f a i = true → l a = true
  | 0, _, _, _, h => by cases h
  | f + 1, a, i, hi, h => by
    simp only [reach, List.any_eq_true, Bool.or_eq_true, beq_iff_eq] at h
    obtain ⟨e, he, h⟩ := h
    rcases h with rfl | h
    · exact hi _ he
    · exact reach_up hC f a e (hC e (hi e he)) h

theorem mem_deps {ops : Array Oper} {i : Nat} {o : Oper} (ho : ops[i]? = some o) {l : Nat → Bool} (hall : ∀ e ∈ o.after, Region.binds .any e = true → l e.on = true) : ∀ e ∈ depsAt ops i, l e = true := by
  intro e he
  simp only [depsAt, ho, depsOf, List.mem_filterMap, Array.mem_toList_iff] at he
  obtain ⟨x, hx, hxe⟩ := he
  split at hxe
  · rename_i hb; cases hxe; exact hall x hx hb
  · cases hxe

/-- Each operation leaves one value; S is what is known of the world, by which operations have come up. -/
theorem region_valsL {ops : Array Oper} {id : Nat} {a0 : Act} {w0 : World} (S : (Nat → Bool) → World → Prop) (xs : List Value)
    (F : Act) (hF : F = putAll (fun i => xs.getD i undef) 0 ops.toList a0) (hm : P.follows .mixedOrders = true) (hf : fitsR ops = true)
    (hQ : ∀ c (x y : Act) w, x.defers = y.defers → Q (.panic c) x w → Q (.panic c) y w)
    (h0 : S (fun _ => false) w0.drew)
    (hstep : ∀ i o, ops[i]? = some o → ∀ l w, S l w → l i = false → (∀ e ∈ depsAt ops i, l e = true) → (∀ j, l j = true → ∀ e ∈ depsAt ops j, l e = true) →
      ∀ K : Act → World → Prop, (∀ v w', v = xs.getD i undef → S (updR l i true) w' → K (F.put o.dst v) w') →
        if Region.wanted o (yielded ops F.tmps) = true then Oper.wp P o F w K Q else K (F.put o.dst undef) w)
    (hend : ∀ l w, (∀ i, i < ops.size → l i = true) → S l w → Q .normal F w) :
    (Code.region id ops true).wp P Q a0 w0 := by
  refine region_inv hm hf (fun vs => putAll vs 0 ops.toList a0) (fun _ => rfl) hQ (fun l vs w => (S l w ∧ ∀ j, l j = true → ∀ e ∈ depsAt ops j, l e = true) ∧ ∀ j, l j = true → vs j = xs.getD j undef) ⟨⟨h0, fun j h => by cases h⟩, fun j h => by cases h⟩ ?_ ?_
  · intro i o ho l vs w ⟨⟨hS, hC⟩, hR⟩ hl hall K hK
    have hd := mem_deps ho hall
    have hC' : ∀ j, updR l i true j = true → ∀ e ∈ depsAt ops j, updR l i true e = true := fun j hj e he => by
      by_cases hei : e = i
      · subst hei; rw [updR_same]
      · rw [updR_ne _ _ hei]
        by_cases hji : j = i
        · subst hji; exact hd e he
        · rw [updR_ne _ _ hji] at hj; exact hC j hj e he
    have go := hstep i o ho l w hS hl hd hC
    have hfit := fits_spec hf ho
    simp only [fitsAt, Bool.and_eq_true, Array.all_eq_true_iff_forall_mem, List.all_eq_true] at hfit
    obtain ⟨⟨⟨_, hlook⟩, _⟩, hsel⟩ := hfit
    have same : ∀ t ∈ o.looksAt ops, (putAll vs 0 ops.toList a0).tmps[t]? = F.tmps[t]? := fun t ht => by
      rw [hF, putAll_get, putAll_get]
      have := hlook t ht
      cases hj : owner ops.toList t with
      | none => rfl
      | some j =>
        rw [hj] at this
        simp only [Array.any_eq_true', Bool.and_eq_true, beq_iff_eq] at this
        obtain ⟨e, he, hb, heq⟩ := this
        have h1 := hR e.on (hall e he hb)
        rw [heq] at h1
        simp only [Nat.zero_add, h1]
    have hsel' : ∀ cs d, o.op ≠ .select cs d := fun cs d h => by rw [h] at hsel; simp at hsel
    have hsz : (putAll vs 0 ops.toList a0).tmps.size = F.tmps.size := by rw [hF, putAll_size, putAll_size]
    have hdf : F.defers = (putAll vs 0 ops.toList a0).defers := by rw [hF, putAll_defers, putAll_defers]
    have next : ∀ v w', (v = xs.getD i undef ∧ S (updR l i true) w') → K ((putAll vs 0 ops.toList a0).put o.dst v) w' := fun v w' ⟨hv, hS'⟩ => hK v w' ⟨⟨hS', hC'⟩, fun j hj => by
      by_cases hji : j = i
      · subst hji; rw [updR_same]; exact hv
      · rw [updR_ne _ _ hji] at hj ⊢; exact hR j hj⟩
    rw [wanted_alike same]
    by_cases hw : Region.wanted o (yielded ops F.tmps) = true
    · simp only [hw, if_true] at go ⊢
      exact wp_alike (Post := fun v w' => v = xs.getD i undef ∧ S (updR l i true) w') (exec_alike hsel' same) hsz hdf hQ next (go _ fun v w' hv hS' => ⟨v, rfl, hv, hS'⟩)
    · have hw' : Region.wanted o (yielded ops F.tmps) = false := by simpa using hw
      simp only [hw', Bool.false_eq_true, if_false] at go ⊢
      obtain ⟨v, e, hp⟩ := go (fun a' w' => ∃ v, a' = F.put o.dst v ∧ v = xs.getD i undef ∧ S (updR l i true) w') fun v w' hv hS' => ⟨v, rfl, hv, hS'⟩
      rw [put_alike hsz e]
      exact next v w hp
  · intro l vs w hl ⟨⟨hS, _⟩, hR⟩
    have : putAll vs 0 ops.toList a0 = F := by
      have hx : ∀ (os : List Oper) (k : Nat) (a : Act), (∀ j, j < os.length → vs (k + j) = xs.getD (k + j) undef) → putAll vs k os a = putAll (fun i => xs.getD i undef) k os a := by
        intro os
        induction os with
        | nil => intro k a _; rfl
        | cons o os ih =>
          intro k a h
          have h0 := h 0 (by simp)
          simp only [Nat.add_zero] at h0
          simp only [putAll, h0]
          exact ih (k + 1) _ fun j hj => by
            have := h (j + 1) (by simp; omega)
            rwa [show k + (j + 1) = k + 1 + j by omega] at this
      rw [hF]
      exact hx _ 0 a0 fun j hj => by rw [Nat.zero_add]; exact hR j (hl j (by simpa using hj))
    rw [this]
    exact hend l w hl hS

/-- What the kernel reckons: an operation of phase p waits for all turns ahead of p, and the turn p waits for it; a turn has its own phase. -/
def phaseAt (ops : Array Oper) (T : List Nat) (ph : List (Option Nat)) (i : Nat) : Bool :=
  match ph.getD i none with
  | none => (List.range T.length).all fun q => T[q]? != some i
  | some p => (match T[p]? with | some t => i == t || reach ops ops.size i t | none => true) &&
    ((List.range p).all fun q => match T[q]? with | some t => reach ops ops.size t i | none => false) &&
    ((List.range T.length).all fun q => T[q]? != some i || q == p)
def phases (ops : Array Oper) (T : List Nat) (ph : List (Option Nat)) : Bool :=
  ((List.range ops.size).all fun i => phaseAt ops T ph i) && T.all fun t => Nat.blt t ops.size

def preOf (W : Nat → World → Prop) : Option Nat → World → Prop
  | some p, w => W p w
  | none, _ => True
def postOf (W : Nat → World → Prop) (T : List Nat) (i : Nat) : Option Nat → World → World → Prop
  | some p, _, w' => W (if T[p]? = some i then p + 1 else p) w'
  | none, w, w' => w' = w

theorem region_phase {ops : Array Oper} {id : Nat} {a0 : Act} {w0 : World} (W : Nat → World → Prop) (T : List Nat) (ph : List (Option Nat)) (xs : List Value)
    (F : Act) (hF : F = putAll (fun i => xs.getD i undef) 0 ops.toList a0) (hm : P.follows .mixedOrders = true) (hf : fitsR ops = true) (hp : phases ops T ph = true)
    (hQ : ∀ c (x y : Act) w, x.defers = y.defers → Q (.panic c) x w → Q (.panic c) y w)
    (h0 : W 0 w0.drew)
    (hstep : AllOps (fun i o => ∀ w, preOf W (ph.getD i none) w → ∀ K : Act → World → Prop, (∀ v w', v = xs.getD i undef → postOf W T i (ph.getD i none) w w' → K (F.put o.dst v) w') →
        if Region.wanted o (yielded ops F.tmps) = true then Oper.wp P o F w K Q else K (F.put o.dst undef) w) 0 ops.toList)
    (hend : ∀ w, W T.length w → Q .normal F w) :
    (Code.region id ops true).wp P Q a0 w0 := by
  simp only [phases, Bool.and_eq_true, List.all_eq_true, List.mem_range] at hp
  obtain ⟨hp, hT⟩ := hp
  have hTs : ∀ q t, T[q]? = some t → t < ops.size := fun q t h => by
    have := hT t (List.mem_of_getElem? h)
    simpa using this
  refine region_valsL (fun l w => ∀ p, (∀ q, q < p → ∃ t, T[q]? = some t ∧ l t = true) → (∀ t, T[p]? = some t → l t = false) → W p w) xs F hF hm hf hQ ?_ ?_ ?_
  · intro p hp' _
    cases p with
    | zero => exact h0
    | succ p => obtain ⟨t, _, ht⟩ := hp' 0 (by omega); cases ht
  · intro i o ho l w hS hl hd hC K hK
    have ho' : ops.toList[i]? = some o := by rw [Array.getElem?_toList]; exact ho
    have go := hstep.get ho'
    rw [Nat.zero_add] at go
    have hi : i < ops.size := (Array.getElem?_eq_some_iff.1 ho).1
    have hpi := hp i hi
    cases hph : ph.getD i none with
    | none =>
      rw [hph] at go
      simp only [phaseAt, hph, List.all_eq_true, List.mem_range, bne_iff_ne, ne_eq] at hpi
      refine go w trivial K fun v w' hv hw => hK v w' hv ?_
      have hw' : w' = w := hw
      rw [hw']
      have ne : ∀ q t, T[q]? = some t → t ≠ i := fun q t hq e => by
        subst e
        exact hpi q (List.getElem?_eq_some_iff.1 hq).1 hq
      intro p h1 h2
      refine hS p (fun q hq => ?_) fun t ht => ?_
      · obtain ⟨t, ht, hlt⟩ := h1 q hq
        rw [updR_ne _ _ (ne q t ht)] at hlt
        exact ⟨t, ht, hlt⟩
      · have := h2 t ht
        rwa [updR_ne _ _ (ne p t ht)] at this
    | some p =>
      rw [hph] at go
      simp only [phaseAt, hph, Bool.and_eq_true, List.all_eq_true, List.mem_range] at hpi
      obtain ⟨⟨hp1, hp2⟩, hp3⟩ := hpi
      have up : ∀ {a b : Nat}, (∀ e ∈ depsAt ops b, l e = true) → reach ops ops.size a b = true → l a = true := fun h1 h2 => reach_up hC _ _ _ h1 h2
      have before : ∀ q, q < p → ∃ t, T[q]? = some t ∧ l t = true := fun q hq => by
        have := hp2 q hq
        split at this
        · rename_i t ht; exact ⟨t, ht, up hd this⟩
        · cases this
      have now : ∀ t, T[p]? = some t → l t = false := fun t ht => by
        rw [ht] at hp1
        cases hlt : l t with
        | false => rfl
        | true =>
          simp only [Bool.or_eq_true, beq_iff_eq] at hp1
          rcases hp1 with rfl | h
          · rw [hl] at hlt; cases hlt
          · have := up (hC t hlt) h
            rw [hl] at this; cases this
      refine go w (hS p before now) K fun v w' hv hw => hK v w' hv ?_
      have hw' : W (if T[p]? = some i then p + 1 else p) w' := hw
      intro p' h1 h2
      have at_i : ∀ q, T[q]? = some i → q = p := fun q hq => by
        have := hp3 q (List.getElem?_eq_some_iff.1 hq).1
        simpa [hq] using this
      by_cases hTp : T[p]? = some i
      · rw [if_pos hTp] at hw'
        have h3 : p' = p + 1 := by
          rcases Nat.lt_trichotomy p' (p + 1) with hlt | heq | hgt
          · exfalso
            by_cases hpp : p' = p
            · subst hpp
              have := h2 i hTp
              rw [updR_same] at this; cases this
            · obtain ⟨t, ht, hlt'⟩ := before p' (by omega)
              have := h2 t ht
              by_cases hti : t = i
              · subst hti; rw [updR_same] at this; cases this
              · rw [updR_ne _ _ hti, hlt'] at this; cases this
          · exact heq
          · exfalso
            obtain ⟨t, ht, hlt'⟩ := h1 (p + 1) hgt
            have hti : t ≠ i := fun e => by subst e; have := at_i _ ht; omega
            rw [updR_ne _ _ hti] at hlt'
            have hpt := hp t (hTs _ _ ht)
            cases hq : ph.getD t none with
            | none =>
              simp only [phaseAt, hq, List.all_eq_true, List.mem_range, bne_iff_ne, ne_eq] at hpt
              exact hpt _ (List.getElem?_eq_some_iff.1 ht).1 ht
            | some p2 =>
              simp only [phaseAt, hq, Bool.and_eq_true, List.all_eq_true, List.mem_range] at hpt
              have e2 : p + 1 = p2 := by
                have := hpt.2 (p + 1) (List.getElem?_eq_some_iff.1 ht).1
                simpa [ht] using this
              have := hpt.1.2 p (by omega)
              rw [hTp] at this
              have := up (hC t hlt') this
              rw [hl] at this; cases this
        rw [h3]; exact hw'
      · rw [if_neg hTp] at hw'
        have ne : ∀ q t, T[q]? = some t → t ≠ i := fun q t hq e => by
          subst e
          have := at_i _ hq
          subst this
          exact hTp hq
        have h3 : p' = p := by
          rcases Nat.lt_trichotomy p' p with hlt | heq | hgt
          · exfalso
            obtain ⟨t, ht, hlt'⟩ := before p' hlt
            have := h2 t ht
            rw [updR_ne _ _ (ne _ _ ht), hlt'] at this; cases this
          · exact heq
          · exfalso
            obtain ⟨t, ht, hlt'⟩ := h1 p hgt
            rw [updR_ne _ _ (ne _ _ ht), now t ht] at hlt'; cases hlt'
        rw [h3]; exact hw'
  · intro l w hall hS
    refine hend w (hS _ (fun q hq => ?_) fun t ht => ?_)
    · have ht : T[q]? = some T[q] := List.getElem?_eq_getElem hq
      exact ⟨_, ht, hall _ (hTs _ _ ht)⟩
    · rw [List.getElem?_eq_none (Nat.le_refl _)] at ht; cases ht
end

end Go.Proofs.YtcfbcidakddhfaaGreatDoor
namespace Go.Proofs.YtcfbcidakddhfaaGreatDoor
open Go.RowKit

abbrev Pp := ByteArray × ByteArray
/-- A label's two cells. -/
def encP (x : Pp) : List Value := [.string x.1, .string x.2]
theorem encP_len (x : Pp) : (encP x).length = 2 := rfl
theorem encP_one (x : Pp) : ∀ u ∈ encP x, u.oneCell' = true := by intro u hu; simp [encP] at hu; rcases hu with rfl | rfl <;> rfl
theorem info_ap : (Tryz.prog.info? 54).map (fun i => (i.zero, i.size, i.bytes)) = some (some (.agg #[.string ⟨#[]⟩, .string ⟨#[]⟩]), 2, 32) := by kernel_rfl
theorem info_rp : (Tryz.prog.info? 92).map (fun i => (i.zero, i.size, i.bytes)) = some (some (.agg #[.string ⟨#[]⟩, .string ⟨#[]⟩]), 2, 32) := by kernel_rfl

abbrev Lr (w : World) (K : Nat) (A : Option Addr) (cap : Nat) (l : List Pp) : Prop := Sr encP 2 w K A cap l
abbrev La (w : World) (K : Nat) (v : Value) (l : List Pp) : Prop := So encP 2 w K 54 v l
abbrev Ld (w : World) (K : Nat) (v : Value) (l : List Pp) : Prop := So encP 2 w K 92 v l
theorem lr_cells {w : World} {K cap : Nat} {A : Option Addr} {l : List Pp} (h : Lr w K A cap l) {i : Nat} (hi : i < l.length) : ∃ ad : Addr, A = some ad ∧ ad.block < K ∧ w.cell? (ad.add (i * 2)) = some (.string l[i].1) ∧ w.cell? ⟨(ad.add (i * 2)).block, (ad.add (i * 2)).off + 1, none⟩ = some (.string l[i].2) := by
  obtain ⟨ad, e, hb, h0, h1⟩ := h.get2 hi
  exact ⟨ad, e, hb, h0 _ rfl, h1 1 _ (by decide) rfl⟩

theorem grown_belowE {W w w1 : World} {v : Value} {B : Nat} (h : Below B W w) (hg : w.grownBy w1 v.ownBlock) (hB : B ≤ w.heap.size) (ho : ∀ k, v.ownBlock = some k → B ≤ k) : Below B W w1 := h.grown hg hB ho

/-- A new slice of the labels l; nothing else has turned. -/
def NewA (w : World) (l : List Pp) (e : Ending) (w' : World) : Prop :=
  ∃ A' cap', e = .returned (.slice A' l.length cap') ∧ La w' w.heap.size (.slice A' l.length cap') l ∧ Below w.heap.size w w'
def NewD (w : World) (l : List Pp) (e : Ending) (w' : World) : Prop :=
  ∃ A' cap', e = .returned (.slice A' l.length cap') ∧ Ld w' w.heap.size (.slice A' l.length cap') l ∧ Below w.heap.size w w'

set_option maxHeartbeats 1600000 in
theorem to_any (K : Nat) (A : Option Addr) (n cap : Nat) (l : List Pp) (w : World) (hln : l.length = n) (hp : Lr w K A cap l) (hK : K ≤ w.heap.size) (hl : l.length * 32 ≤ 140737488355328) :
    Calls Tryz.prog 19 #[.slice A n cap] w (NewA w l) := by
  subst hln
  have hle := hp.le
  have hmax := hp.max
  unfold maxLen at hmax
  go_enter Tryz.func19, Tryz.ntmps19
  go_wp2
  go_loopw [3, 8] (fun v i wr => ∃ (k c : Nat) (B : Option Addr), k ≤ l.length ∧ i = .int .i64 k ∧ v = .slice B k c ∧ La wr w.heap.size (.slice B k c) (l.take k) ∧ Below w.heap.size w wr) (fun _ i _ => l.length - (intOf i).toNat)
  case atStart => exact ⟨0, 0, none, Nat.zero_le _, rfl, rfl, by simpa using So.empty _ _ _ _ _, Below.refl _ _⟩
  case round =>
    obtain ⟨k, c, B, hk, rfl, rfl, hps, hbl⟩ := hrel
    have z := hbl.size
    by_cases hlt : k < l.length
    · obtain ⟨ad, rfl, hadK, h1, h2⟩ := lr_cells (hp.below (hbl.mono hK)) hlt
      have htk : l.take (k + 1) = l.take k ++ [l[k]] := List.take_succ_eq_append_getElem hlt
      have hln : (l.take k).length = k := by simp; omega
      generalize l[k] = x at *
      obtain ⟨xn, xv⟩ := x
      simp only at h1 h2
      have HT := Lib.hid htk
      have HL := Lib.hid hln
      have hps1 := hps.alloc (.cells #[.string xn, .string xv] 92)
      clear htk hln
      go_wp2_with (at_builtin; refine wpList_pushE Tryz.underlying47 info_ap rfl (by decide) (wr.alloc (.cells #[.string xn, .string xv] 92)) rfl (.tmp 12) (.tmp 18) rfl w.heap.size (.slice B k c) (l.take k) rfl hps1 (xn, xv) _ rfl rfl (encP_one _) _ (wr.heap.size + 1) (by simp) rfl (k + 1) (by rw [HL.out]) (by unfold maxLen; omega) (by omega) (by omega) ?_; intro A2 cap2 w2 hps2 hgrow2 hat2; have B2 : Below w.heap.size w w2 := grown_belowE (hbl.alloc z _) hgrow2 (by simp; omega) (fun _ h => (hps1.lt _ h).1))
      go_roundw
      case rel => exact ⟨k + 1, cap2, A2, by omega, by go_num, rfl, by rw [HT.out]; exact hps2, B2⟩
      case measure => simp [intOf]; omega
    · have hkl : k = l.length := by omega
      subst hkl
      rw [List.take_length] at hps
      go_wp2
      go_ret
      exact ⟨B, c, rfl, hps, hbl⟩
end Go.Proofs.YtcfbcidakddhfaaGreatDoor
namespace Go.Proofs.YtcfbcidakddhfaaGreatDoor
open Go.RowKit

section
variable {α : Type} {enc : α → List Value} {k : Nat} {P : Program}

theorem flatMap_len (henc : ∀ x, (enc x).length = k) (l : List α) : (l.flatMap enc).length = l.length * k := by
  induction l with
  | nil => simp
  | cons x l ih => rw [List.flatMap_cons, List.length_append, ih, henc, List.length_cons, Nat.add_mul]; omega
theorem flatMap_split (henc : ∀ x, (enc x).length = k) : ∀ (l : List α) (j : Nat) (u : Value), (l.flatMap enc)[j]? = some u → ∃ i x q, l[i]? = some x ∧ (enc x)[q]? = some u ∧ j = i * k + q
  | [], j, u, h => by simp at h
  | y :: l, j, u, h => by
    rw [List.flatMap_cons] at h
    by_cases hj : j < (enc y).length
    · rw [List.getElem?_append_left hj] at h
      exact ⟨0, y, j, rfl, h, by omega⟩
    · rw [List.getElem?_append_right (by omega)] at h
      obtain ⟨i, x, q, h1, h2, h3⟩ := flatMap_split henc l _ u h
      refine ⟨i + 1, x, q, by simpa using h1, h2, ?_⟩
      rw [henc] at h3 hj
      rw [Nat.add_mul]
      omega

theorem run_appE {T ST : TypeId} (hund : P.underlying ST = some (.slice T)) {z : Value} {bytes : Nat} (hinfo : (P.info? T).map (fun i => (i.zero, i.size, i.bytes)) = some (some z, k, bytes)) (hz : z.cells.size = k) (hk : 0 < k)
    (henc : ∀ x, (enc x).length = k) (h1 : ∀ x, ∀ u ∈ enc x, u.oneCell' = true) (w : World) (ty : TypeId) {K K' : Nat} {v : Value} {l m : List α} (hown : So enc k w K T v l) {A : Option Addr} {cap : Nat} (hsrc : Sr enc k w K' A cap m)
    (hm : l.length + m.length ≤ maxLen) (hsz : (l.length + m.length) * bytes ≤ 140737488355328) (hbase : K ≤ w.heap.size) :
    ∃ A' cap' w', (Builtin.append_ #[ST, ST] ty #[v, .slice A m.length cap]).run P w = .ok (.slice A' (l.length + m.length) cap') w' ∧ So enc k w' K T (.slice A' (l.length + m.length) cap') (l ++ m) ∧ w.grownBy w' v.ownBlock ∧
      ((Value.slice A' (l.length + m.length) cap').ownBlock = v.ownBlock ∨ (Value.slice A' (l.length + m.length) cap').ownBlock = some w.heap.size) := by
  obtain ⟨i0, hi, hz0, hz1, hz2⟩ := info_parts hinfo
  rcases A with _ | ad
  · have hc := hsrc.nil rfl
    have hm0 : m = [] := List.eq_nil_of_length_eq_zero (by have := hsrc.le; omega)
    subst hm0
    subst hc
    obtain ⟨A', cap', hv⟩ := hown.form
    have hrun := run_append_owned_none (P := P) w K ST ty T i0 k hund hi v _ _ hown
    exact ⟨A', cap', w, by rw [hv] at hrun ⊢; exact hrun, by rw [List.append_nil]; exact hv ▸ hown, ⟨rfl, rfl, rfl, Nat.le_refl _, fun _ _ _ => rfl⟩, .inl (by rw [hv]; rfl)⟩
  · obtain ⟨v', w', hr, h2, h3, _, h5⟩ := run_append_own_at (P := P) w K ST ty T i0 z k bytes hund hi hz0 hz1 hz2 hz hk v _ _ hown ad m.length cap (m.flatMap enc) (flatMap_len henc m)
      (fun j u hj => by
        obtain ⟨i, x, q, e1, e2, e3⟩ := flatMap_split henc m j u hj
        have hpos : 0 < m.length := by have := (List.getElem?_eq_some_iff.1 e1).1; omega
        obtain ⟨ad', he, _, hcell⟩ := hsrc.at_ hpos
        cases he
        rw [e3]
        exact hcell i x e1 q u e2)
      (fun u hu => by
        obtain ⟨x, _, hx⟩ := List.mem_flatMap.1 hu
        exact h1 x u hx) hm hsz hbase
    have h2' : So enc k w' K T v' (l ++ m) := by unfold So; rw [List.length_append, List.flatMap_append]; exact h2
    obtain ⟨A', cap', hv⟩ := h2'.form
    rw [List.length_append] at hv
    subst hv
    exact ⟨A', cap', w', hr, h2', h3, h5⟩

theorem wpList_appE {T ST : TypeId} (hund : P.underlying ST = some (.slice T)) {z : Value} {bytes : Nat} (hinfo : (P.info? T).map (fun i => (i.zero, i.size, i.bytes)) = some (some z, k, bytes)) (hz : z.cells.size = k) (hk : 0 < k)
    (henc : ∀ x, (enc x).length = k) (h1 : ∀ x, ∀ u ∈ enc x, u.oneCell' = true)
    {ops : Array Oper} {rest : List Oper} {o : Oper} {a : Act} {Q : Exit → Act → World → Prop} (w : World) (hgd : o.guard = none) (s x : Operand)
    (ho : o.op = .call { callee := .builtin .append, args := #[s, x], argTypes := #[ST, ST] })
    (K : Nat) (v : Value) (l : List α) (hs : a.eval s = v) (hown : So enc k w K T v l) (A : Option Addr) (M cap : Nat) (m : List α) (hx : a.eval x = .slice A M cap) (hM : m.length = M) (K' : Nat) (hsrc : Sr enc k w K' A cap m)
    (N : Nat) (hN : l.length + m.length = N) (hm : N ≤ maxLen) (hsz : N * bytes ≤ 140737488355328) (hbase : K ≤ w.heap.size)
    (h : ∀ A' cap' w', So enc k w' K T (.slice A' N cap') (l ++ m) → w.grownBy w' v.ownBlock → ((Value.slice A' N cap').ownBlock = v.ownBlock ∨ (Value.slice A' N cap').ownBlock = some w.heap.size) → wpList P ops Q rest (a.put o.dst (.slice A' N cap')) w') : wpList P ops Q (o :: rest) a w := by
  subst hN hM
  refine wpList_plain hgd fun _ hK => ?_
  obtain ⟨A', cap', w', hr, h2, h3, h4⟩ := run_appE hund hinfo hz hk henc h1 w o.type hown hsrc hm hsz hbase
  unfold Oper.wp execOp
  simp only [ho, resolve, invoke, builtin, Sem.run_bind, Sem.run_pure, Result.andThen_ok, List.map_toArray, List.map_cons, List.map_nil, hs, hx, hr]
  exact hK _ _ (h A' cap' w' h2 h3 h4)

theorem lit_so (w : World) (K : Nat) (T : TypeId) (H : Nat) (hH : w.heap.size = H) (hK : K ≤ H) (cs : Array Value) (n : Nat) (l : List α) (henc : ∀ x, (enc x).length = k) (h : cs.toList = l.flatMap enc) (hn : l.length = n) (hm : n ≤ maxLen) : So enc k (w.alloc (.cells cs T)) K T (.slice (some ⟨H, 0, none⟩) n n) l := by
  subst hH hn
  have := World.ownsRow_lit (e := T) (size := k) w cs l.length hK hm (by rw [← Array.length_toList, h, flatMap_len henc])
  rw [h] at this
  exact this
end
end Go.Proofs.YtcfbcidakddhfaaGreatDoor
namespace Go.Proofs.YtcfbcidakddhfaaGreatDoor
open Go.RowKit

structure Tn (P : Nat → Prop) (w w' : World) : Prop where
  os : w'.os = w.os
  tape : w'.tape = w.tape
  output : w'.output = w.output
  size : w.heap.size ≤ w'.heap.size
  block : ∀ k, k < w.heap.size → ¬ P k → w'.heap[k]? = w.heap[k]?

section
variable {P Q R : Nat → Prop} {w w1 w2 w' : World}
theorem Tn.refl (P : Nat → Prop) (w : World) : Tn P w w := ⟨rfl, rfl, rfl, Nat.le_refl _, fun _ _ _ => rfl⟩
theorem Tn.thenQ (h : Tn P w w1) (h2 : Tn Q w1 w2) (hQ : ∀ k, k < w.heap.size → Q k → P k) : Tn P w w2 :=
  ⟨h2.os.trans h.os, h2.tape.trans h.tape, h2.output.trans h.output, Nat.le_trans h.size h2.size, fun k hk hn =>
    (h2.block k (Nat.lt_of_lt_of_le hk h.size) (fun q => hn (hQ k hk q))).trans (h.block k hk hn)⟩
theorem Tn.then (h : Tn P w w1) (h2 : Tn P w1 w2) : Tn P w w2 := h.thenQ h2 fun _ _ h => h
theorem Tn.mono (h : Tn P w w') (hP : ∀ k, k < w.heap.size → P k → Q k) : Tn Q w w' :=
  ⟨h.os, h.tape, h.output, h.size, fun k hk hn => h.block k hk fun p => hn (hP k hk p)⟩
theorem Tn.ofBelow {B : Nat} (h : Below B w w') : Tn (B ≤ ·) w w' := ⟨h.os, h.tape, h.output, h.size, fun k _ hn => h.block k (by omega)⟩
theorem Tn.ofNew (h : Below w.heap.size w w') : Tn P w w' := ⟨h.os, h.tape, h.output, h.size, fun k hk _ => h.block k hk⟩
theorem Tn.below {B : Nat} (h : Tn P w w') (hB : B ≤ w.heap.size) (hP : ∀ k, k < w.heap.size → P k → B ≤ k) : Below B w w' :=
  ⟨h.os, h.tape, h.output, h.size, fun k hk => h.block k (by omega) fun p => by have := hP k (by omega) p; omega⟩
theorem Tn.ofGrown {row : Option Nat} (h : w.grownBy w' row) : Tn (fun k => some k = row) w w' := ⟨h.os, h.tape, h.output, h.size, fun k hk hn => h.block k hk hn⟩
theorem Tn.setCell (w : World) (b o : Nat) (v : Value) : Tn (· = b) w (w.setCell ⟨b, o, none⟩ v) :=
  ⟨rfl, rfl, rfl, by simp [World.setCell], fun k _ hn => by
    simp only [World.setCell]; rw [Array.getElem?_modify, if_neg (fun e => hn e.symm)]⟩
theorem Tn.alloc (w : World) (o : Obj) : Tn P w (w.alloc o) := ⟨rfl, rfl, rfl, by simp, fun k hk _ => Below.heap_alloc w o k hk⟩
theorem Tn.drew (w : World) : Tn P w w.drew := ⟨rfl, rfl, rfl, Nat.le_refl _, fun _ _ _ => rfl⟩
theorem Tn.cell (h : Tn P w w') {p : Addr} {v : Value} (hc : w.cell? p = some v) (hn : ¬ P p.block) : w'.cell? p = some v :=
  (World.cell?_of_block (h.block _ (World.block_lt_of_cell? w _ hc) hn)).trans hc
theorem Tn.frozen (h : Tn P w w') {p : Addr} (hp : p.block < w.heap.size) (hn : ¬ P p.block) : w'.frozen? p = w.frozen? p :=
  World.frozen?_of_block (h.block _ hp hn)
end
end Go.Proofs.YtcfbcidakddhfaaGreatDoor
namespace Go.Proofs.YtcfbcidakddhfaaGreatDoor
open Go.RowKit

set_option maxHeartbeats 1600000 in
theorem rIsName_any (s : ByteArray) (w : World) (hs : s.size ≤ maxLen) : Calls Tryz.prog 61 #[.string s] w fun e w' => e = .returned (.bool (nameB s)) ∧ w = w' := by
  unfold maxLen at hs
  go_enter Tryz.func61, Tryz.ntmps61
  go_wp2
  go_loop [3] (fun i => ∃ k : Nat, k ≤ s.size ∧ i = .int .i64 k ∧ Hid (nameTo s k = true)) (fun i => s.size - (intOf i).toNat)
  case atStart => exact ⟨0, Nat.zero_le _, rfl, Lib.hid (nameTo_zero s)⟩
  case round =>
    obtain ⟨k, hk, rfl, HT⟩ := hrel
    by_cases hlt : k < s.size
    · have hb := byteAt_get s k hlt
      have HB := Lib.hid hb
      clear hb
      by_cases hc : nameC k ((s[k]).toNat : Int) = true
      · have HN : Hid (nameTo s (k + 1) = true) := Lib.hid (by rw [nameTo_succ, HT.out, ← HB.out, hc]; rfl)
        have HC := Lib.hid hc
        clear hc
        go_wp2
        all_goals first
          | (go_round
             case rel => exact ⟨k + 1, by omega, by go_num, HN⟩
             case measure => simp [intOf]; omega)
          | (exfalso; have hc := HC.out; simp [nameC, letN, digN] at *; omega)
      · have hc : nameC k ((s[k]).toNat : Int) = false := by simpa using hc
        have HF : Hid (nameB s = false) := Lib.hid (by unfold nameB; rw [nameTo_false (k := k) (by rw [← HB.out]; exact hc) hlt]; simp)
        have HC := Lib.hid hc
        clear hc
        go_wp2
        all_goals first
          | (exfalso; have hc := HC.out; simp [nameC, letN, digN] at *; omega)
          | (go_ret; exact ⟨ret_bool HF.out.symm, rfl⟩)
    · have hks : k = s.size := by omega
      have HF : Hid (nameTo s s.size = true) := Lib.hid (hks ▸ HT.out)
      clear hks
      by_cases h1 : 1 ≤ s.size
      · by_cases h2 : s.size ≤ 32
        · have HG : Hid (nameB s = true) := Lib.hid (by rw [nameB_of h1 h2, HF.out])
          go_wp2_with fail
          go_ret
          exact ⟨ret_bool (by first | (rw [HG.out]; done) | (rw [HG.out]; apply decide_eq_true; omega) | (rw [HG.out]; apply decide_eq_false; omega)), rfl⟩
        · have HG : Hid (nameB s = false) := Lib.hid (nameB_no (.inr (by omega)))
          go_wp2_with fail
          go_ret
          exact ⟨ret_bool (by first | (rw [HG.out]; done) | (rw [HG.out]; apply decide_eq_true; omega) | (rw [HG.out]; apply decide_eq_false; omega)), rfl⟩
      · have HG : Hid (nameB s = false) := Lib.hid (nameB_no (.inl (by omega)))
        go_wp2_with fail
        go_ret
        exact ⟨ret_bool (by first | (rw [HG.out]; done) | (rw [HG.out]; apply decide_eq_true; omega) | (rw [HG.out]; apply decide_eq_false; omega)), rfl⟩
end Go.Proofs.YtcfbcidakddhfaaGreatDoor
namespace Go.Proofs.YtcfbcidakddhfaaGreatDoor
open Go.Shelf Go.RowKit

end Go.Proofs.YtcfbcidakddhfaaGreatDoor
