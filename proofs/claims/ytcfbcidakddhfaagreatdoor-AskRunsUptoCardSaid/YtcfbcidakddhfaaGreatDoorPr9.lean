/- The document's Quote and Unquote. -/
import Derived.Test.YtcfbcidakddhfaaGreatDoorPr6
import Derived.Test.YtcfbcidakddhfaaGreatDoorPr4
import Derived.Test.YtcfbcidakddhfaaGreatDoorPr1
import Derived.Lib.IndexMore
import Derived.Lib.Strings
import Derived.Test.YtcfbcidakddhfaaGreatDoorPr5
import Derived.ChangeMaps5
import Derived.Deep.Slices
import Derived.Deep.Fields
import Derived.Test.YtcfbcidakddhfaaGreatDoorPr2
import Derived.Lib.Join
import Derived.Lib.ItoaNum
import Derived.Lib.Hide
import Derived.Test.YtcfbcidakddhfaaGreatDoorPr7
namespace Go.Proofs.YtcfbcidakddhfaaGreatDoor
open Go.RowKit

theorem region_LL {P : Program} {Q : Exit → Act → World → Prop} {ops : Array Oper} {id : Nat} {a0 : Act} {w0 : World} {ι : Type} (holds : (Nat → Bool) → ι → Value → World → Prop) (G : World → Prop) (Z : Nat → World → Prop) (Bx : Value → Nat → World → Prop) (a s c : Nat) (xs : List ι) (d : ι)
    (F : (Nat → Value) → Act) (hF : ∀ vs, F vs = putAll vs 0 ops.toList a0) (hm : P.follows .mixedOrders = true) (hf : fitsR ops = true)
    (hk : (Nat.blt a ops.size && Nat.blt s ops.size && (depsAt ops s).contains a && (depsAt ops s).contains c && !Nat.beq a s && !Nat.beq a c && !Nat.beq c s) = true)
    (hQ : ∀ c (x y : Act) w, x.defers = y.defers → Q (.panic c) x w → Q (.panic c) y w)
    (hsu : ∀ l w, holds l (xs.getD s d) undef w) (h0 : G w0.drew)
    (hstep : AllOps (fun i o => ∀ l vs w, l i = false → (reach ops ops.size i s = true → l s = false) → G w → AllD (fun j => Nat.beq j a = false → holds l (xs.getD j d) (vs j) w) (depsOf o) → (∀ g, Nat.beq i s = true → vs a = .pointer (some ⟨g, 0, none⟩) → Z g w →
        ∀ K : Act → World → Prop, (∀ w', G w' → Bx (vs c) g w' → (∀ j u, Nat.beq j i = false → Nat.beq j a = false → holds l (xs.getD j d) u w → holds (updR l i true) (xs.getD j d) u w') → K ((F vs).put o.dst undef) w') → if Region.wanted o (yielded ops (F vs).tmps) = true then Oper.wp P o (F vs) w K Q else K ((F vs).put o.dst undef) w) ∧
      (Nat.beq i s = false → ∀ K : Act → World → Prop, (∀ v w', G w' → (∀ j u, Nat.beq j i = false → Nat.beq j a = false → holds l (xs.getD j d) u w → holds (updR l i true) (xs.getD j d) u w') → (∀ g, Z g w → Z g w') → (l s = true → ∀ u g, Bx u g w → Bx u g w') → (Nat.beq i a = true → ∃ g, v = .pointer (some ⟨g, 0, none⟩) ∧ Z g w') → (Nat.beq i a = false → holds (updR l i true) (xs.getD i d) v w') → K ((F vs).put o.dst v) w') →
        if Region.wanted o (yielded ops (F vs).tmps) = true then Oper.wp P o (F vs) w K Q else K ((F vs).put o.dst undef) w)) 0 ops.toList)
    (hend : ∀ vs w g, G w → vs a = .pointer (some ⟨g, 0, none⟩) → Bx (vs c) g w → (∃ l : Nat → Bool, (∀ i, i < ops.size → l i = true) ∧ ∀ i, i < ops.size → Nat.beq i a = false → Nat.beq i s = false → holds l (xs.getD i d) (vs i) w) → vs s = undef → Q .normal (F vs) w) :
    (Code.region id ops true).wp P Q a0 w0 := by
  simp only [Bool.and_eq_true, Nat.blt_eq, List.contains_iff_mem, Bool.not_eq_true'] at hk
  obtain ⟨⟨⟨⟨⟨⟨ha, hs⟩, hda⟩, hdc⟩, has⟩, hac⟩, hcs⟩ := hk
  have nb : ∀ {x y : Nat}, Nat.beq x y = false → x ≠ y := fun h e => by subst e; rw [Nat.beq_refl] at h; cases h
  have bn : ∀ {x y : Nat}, x ≠ y → Nat.beq x y = false := fun {x y} h => by
    cases h9 : Nat.beq x y with
    | false => rfl
    | true => exact absurd (Nat.eq_of_beq_eq_true h9) h
  refine region_inv hm hf F hF hQ (fun l vs w => (∀ j, l j = true → ∀ e ∈ depsAt ops j, l e = true) ∧ G w ∧ (∀ i, l i = true → i ≠ a → i ≠ s → holds l (xs.getD i d) (vs i) w) ∧ (l s = true → l a = true ∧ l c = true ∧ vs s = undef) ∧ (l a = true → ∃ g, vs a = .pointer (some ⟨g, 0, none⟩) ∧ (l s = false → Z g w) ∧ (l s = true → Bx (vs c) g w)))
    ⟨(fun _ h => by cases h), h0, (fun i h => by cases h), (fun h => by cases h), (fun h => by cases h)⟩ ?_ (fun l vs w hl hJ => ?_)
  · intro i o ho l vs w ⟨hC, hG, hH, hS, hA⟩ hli hall K hK
    have hd := mem_deps ho hall
    have hC' : ∀ j, updR l i true j = true → ∀ e ∈ depsAt ops j, updR l i true e = true := fun j hj e he => by
      by_cases hei : e = i
      · subst hei; rw [updR_same]
      · rw [updR_ne _ _ hei]
        by_cases hji : j = i
        · subst hji; exact hd e he
        · rw [updR_ne _ _ hji] at hj; exact hC j hj e he
    have hrs : reach ops ops.size i s = true → l s = false := fun hr => by
      cases hls : l s with
      | false => rfl
      | true =>
        by_cases e : i = s
        · subst e; rw [hli] at hls; cases hls
        · have := reach_up hC ops.size i s (hC s hls) hr
          rw [hli] at this
          cases this
    have hdo : depsAt ops i = depsOf o := by simp [depsAt, ho]
    have ho' : ops.toList[i]? = some o := by rw [Array.getElem?_toList]; exact ho
    have go := hstep.get ho'
    rw [Nat.zero_add] at go
    have hdep : AllD (fun j => Nat.beq j a = false → holds l (xs.getD j d) (vs j) w) (depsOf o) := by
      rw [← hdo]
      refine AllD.of (l := fun j => l j) (fun j hj h9 => ?_) (AllL.mk hd)
      by_cases e : j = s
      · subst e
        rw [(hS hj).2.2]
        exact hsu l w
      · exact hH j hj (nb h9) e
    obtain ⟨g1, g2⟩ := go l vs w hli hrs hG hdep
    by_cases e : i = s
    · subst e
      obtain ⟨g, eg, hz, _⟩ := hA (hd a hda)
      refine g1 g (Nat.beq_refl _) eg (hz hli) K fun w' hG' hb hk => hK _ w' ⟨hC', hG', fun j hj hja hjs => ?_, fun _ => ?_, fun _ => ⟨g, ?_, fun h => ?_, fun _ => ?_⟩⟩
      · rw [updR_ne _ _ hjs] at hj
        rw [updR_ne vs _ hjs]
        exact hk j _ (bn hjs) (bn hja) (hH j hj hja hjs)
      · rw [updR_ne _ _ (nb has), updR_ne _ _ (nb hcs), updR_same]
        exact ⟨hd a hda, hd c hdc, rfl⟩
      · rw [updR_ne _ _ (nb has)]; exact eg
      · rw [updR_same] at h; cases h
      · rw [updR_ne _ _ (nb hcs)]; exact hb
    · refine g2 (bn e) K fun v w' hG' hkp hzk hbk h1 h2 => hK _ w' ⟨hC', hG', fun j hj hja hjs => ?_, fun h => ?_, fun h => ?_⟩
      · by_cases ej : j = i
        · subst ej; rw [updR_same]; exact h2 (bn hja)
        · rw [updR_ne _ _ ej] at hj
          rw [updR_ne vs _ ej]
          exact hkp j _ (bn ej) (bn hja) (hH j hj hja hjs)
      · rw [updR_ne _ _ (Ne.symm e)] at h ⊢
        obtain ⟨q1, q2, q3⟩ := hS h
        have e1 : a ≠ i := fun e9 => by subst e9; rw [hli] at q1; cases q1
        have e2 : c ≠ i := fun e9 => by subst e9; rw [hli] at q2; cases q2
        rw [updR_ne _ _ e1, updR_ne _ _ e2]
        exact ⟨q1, q2, q3⟩
      · by_cases ea : a = i
        · subst ea
          obtain ⟨g, eg, hz⟩ := h1 (Nat.beq_refl _)
          have hls : l s = false := by
            cases hls : l s with
            | false => rfl
            | true => have := (hS hls).1; rw [hli] at this; cases this
          refine ⟨g, by rw [updR_same]; exact eg, fun _ => hz, fun h9 => ?_⟩
          rw [updR_ne _ _ (Ne.symm e), hls] at h9
          cases h9
        · rw [updR_ne _ _ ea] at h ⊢
          obtain ⟨g, eg, hz, hx⟩ := hA h
          refine ⟨g, eg, fun h9 => ?_, fun h9 => ?_⟩
          · rw [updR_ne _ _ (Ne.symm e)] at h9
            exact hzk _ (hz h9)
          · rw [updR_ne _ _ (Ne.symm e)] at h9
            have e2 : c ≠ i := fun e9 => by subst e9; have := (hS h9).2.1; rw [hli] at this; cases this
            rw [updR_ne _ _ e2]
            exact hbk h9 _ _ (hx h9)
  · obtain ⟨_, hG, hH, hS, hA⟩ := hJ
    obtain ⟨g, eg, _, hx⟩ := hA (hl a ha)
    exact hend vs w g hG eg (hx (hl s hs)) ⟨l, hl, fun i hi h1 h2 => hH i (hl i hi) (nb h1) (nb h2)⟩ (hS (hl s hs)).2.2
end Go.Proofs.YtcfbcidakddhfaaGreatDoor
namespace Go.Proofs.YtcfbcidakddhfaaGreatDoor
open Go.RowKit

abbrev Rp := ByteArray × Int × ByteArray
def nilR : Rp := (⟨#[]⟩, 0, ⟨#[]⟩)
def opB (o : Int) : Bool := decide (1 ≤ o ∧ o ≤ 4)
def emB (s : ByteArray) : Bool := s.toList == []
theorem emB_iff (s : ByteArray) : emB s = decide (s.size = 0) := by
  have hl : s.data.toList.length = s.size := by simp
  unfold emB
  rw [Lib.toList_data, Bool.eq_iff_iff, beq_iff_eq, decide_eq_true_eq, ← hl]
  exact List.length_eq_zero_iff.symm
def ruleB (x : Rp) : Bool := nameB x.1 && opB x.2.1 && (emB x.2.2 || valB x.2.2)
def rulesTo (l : List Rp) (k : Nat) : Bool := (l.take k).all ruleB
theorem rulesTo_zero (l : List Rp) : rulesTo l 0 = true := by simp [rulesTo]
theorem getR_eq {l : List Rp} {k : Nat} (h : k < l.length) : l.getD k nilR = l[k] := by
  rw [List.getD_eq_getElem?_getD, List.getElem?_eq_getElem h]; rfl
theorem rulesTo_succ {l : List Rp} {k : Nat} (h : k < l.length) : rulesTo l (k + 1) = (rulesTo l k && ruleB (l.getD k nilR)) := by
  rw [rulesTo, List.take_succ_eq_append_getElem h, List.all_append, getR_eq h]
  simp [rulesTo]
theorem rulesTo_all (l : List Rp) : rulesTo l l.length = l.all ruleB := by simp [rulesTo]
theorem all_getR {l : List Rp} {k : Nat} (h : k < l.length) (p : Rp → Bool) (hb : p (l.getD k nilR) = false) : l.all p = false := by
  rw [List.all_eq_false]
  exact ⟨l[k], List.getElem_mem h, by rw [← getR_eq h, hb]; decide⟩
def rulesL (l : List Rp) : Bool := decide (l.length ≤ 16) && l.all ruleB
theorem rulesL_many {l : List Rp} (h : 16 < l.length) : rulesL l = false := by
  have : ¬ l.length ≤ 16 := by omega
  simp [rulesL, this]
theorem rulesL_of {l : List Rp} (h : l.length ≤ 16) : rulesL l = l.all ruleB := by simp [rulesL, h]

def holdB (o : Int) (r v : ByteArray) : Bool :=
  if o = 1 then v.toList == r.toList else if o = 2 then !(v.toList == r.toList) else if o = 3 then Lib.hasPrefix v.data.toList r.data.toList else if o = 4 then Lib.contains v.data.toList r.data.toList else false
def oneB (s : List Pp) (x : Rp) : Bool := holdB x.2.1 x.2.2 (getL s x.1)
def allTo (s : List Pp) (l : List Rp) (k : Nat) : Bool := (l.take k).all (oneB s)
theorem allTo_zero (s : List Pp) (l : List Rp) : allTo s l 0 = true := by simp [allTo]
theorem allTo_succ (s : List Pp) {l : List Rp} {k : Nat} (h : k < l.length) : allTo s l (k + 1) = (allTo s l k && oneB s (l.getD k nilR)) := by
  rw [allTo, List.take_succ_eq_append_getElem h, List.all_append, getR_eq h]
  simp [allTo]
def allB (s : List Pp) (l : List Rp) : Bool := l.all (oneB s)
theorem allTo_all (s : List Pp) (l : List Rp) : allTo s l l.length = allB s l := by simp [allTo, allB]
theorem allB_no {s : List Pp} {l : List Rp} {k : Nat} (h : k < l.length) (hb : oneB s (l.getD k nilR) = false) : allB s l = false := all_getR h _ hb

theorem hasPrefix_refl (l : List UInt8) : Lib.hasPrefix l l = true := by simp [Lib.hasPrefix]
theorem contains_refl (l : List UInt8) : Lib.contains l l = true := by
  unfold Lib.contains
  rcases Lib.index_spec l l with ⟨_, h⟩ | ⟨i, h, _⟩
  · have h0 := h 0 (Nat.zero_le _)
    unfold Lib.occAt at h0
    rw [List.drop_zero, Bool.eq_false_iff] at h0
    exact absurd (List.isPrefixOf_iff_prefix.2 (List.prefix_refl l)) h0
  · rw [h]; simp
theorem allB_append (s : List Pp) (x y : List Rp) : allB s (x ++ y) = (allB s x && allB s y) := by simp [allB]
theorem oneB_is (s : List Pp) (n : ByteArray) : oneB s (n, 1, getL s n) = true := by simp [oneB, holdB]
theorem oneB_begins (s : List Pp) (n : ByteArray) : oneB s (n, 3, getL s n) = true := by simp [oneB, holdB, hasPrefix_refl]
theorem oneB_holds (s : List Pp) (n : ByteArray) : oneB s (n, 4, getL s n) = true := by simp [oneB, holdB, contains_refl]
theorem oneB_not (s : List Pp) (n : ByteArray) : oneB s (n, 2, getL s n) = false := by simp [oneB, holdB]

/-- Does a text stand in another one at a place? -/
def standB (s : List UInt8) (i : Nat) (p : List UInt8) : Bool := p.isPrefixOf (s.drop i)
def standTo (s p : List UInt8) (k : Nat) : Bool := (List.range k).any fun i => standB s i p
theorem standTo_zero (s p : List UInt8) : standTo s p 0 = false := rfl
theorem standTo_succ (s p : List UInt8) (k : Nat) : standTo s p (k + 1) = (standTo s p k || standB s k p) := by simp [standTo, List.range_succ]
theorem contains_stand (s p : List UInt8) : Lib.contains s p = standTo s p (s.length + 1) := by
  unfold Lib.contains
  rw [Bool.eq_iff_iff]
  simp only [decide_eq_true_eq, standTo, List.any_eq_true, List.mem_range]
  rcases Lib.index_spec s p with ⟨h, hn⟩ | ⟨i, h, hi, ho, _⟩
  · constructor
    · intro h0; omega
    · rintro ⟨j, hj, hs⟩
      have := hn j (by omega)
      rw [Lib.occAt] at this
      rw [standB, this] at hs
      cases hs
  · exact ⟨fun _ => ⟨i, by omega, ho⟩, fun _ => by omega⟩
theorem contains_yes {s p : List UInt8} {k : Nat} (hk : k ≤ s.length) (h : standB s k p = true) : Lib.contains s p = true := by
  rw [contains_stand, standTo, List.any_eq_true]
  exact ⟨k, List.mem_range.2 (by omega), h⟩
theorem standB_take (s p : List UInt8) (i : Nat) : (((s.drop i).take p.length) == p) = standB s i p := by
  unfold standB
  rw [Bool.eq_iff_iff, beq_iff_eq, List.isPrefixOf_iff_prefix]
  constructor
  · intro e; rw [← e]; exact List.take_prefix _ _
  · intro e
    obtain ⟨t, e⟩ := e
    rw [← e]; simp
theorem standB_long {s p : List UInt8} {i : Nat} (h : s.length < i + p.length) : standB s i p = false ∨ p = [] := by
  by_cases hp : p = []
  · exact .inr hp
  · left
    unfold standB
    rw [Bool.eq_false_iff]
    intro e
    rw [List.isPrefixOf_iff_prefix] at e
    have := e.length_le
    rw [List.length_drop] at this
    have : 0 < p.length := by
      cases p with
      | nil => exact absurd rfl hp
      | cons => simp
    omega

/-- Rules that ask for all labels of a set hold of it. -/
def isR (x : Pp) : Rp := (x.1, 1, x.2)
theorem ltB_irr (a : ByteArray) : ltB a a = false := by
  unfold ltB
  have h : ∀ l : List UInt8, Op.bytesLess l l = false := by
    intro l
    induction l with
    | nil => rfl
    | cons c l ih => simp [Op.bytesLess, ih]
  exact h _
end Go.Proofs.YtcfbcidakddhfaaGreatDoor
namespace Go.Proofs.YtcfbcidakddhfaaGreatDoor
open Go.ChangeShapes Go.WideShapes Go.ChangeAt Go.RowKit Go.Deep

theorem cells_rp : Tryz.prog.cellsOf 92 = 2 := by kernel_rfl
theorem one_rp : ∀ {fs : Array Field}, Tryz.prog.underlying 92 = some (.struct fs) → oneCellFields Tryz.prog fs = true := by
  intro fs h
  rw [Tryz.underlying92] at h
  injection h with h
  injection h with h
  subst h
  kernel_rfl

theorem bulk_mem {H : Type} : ∀ (l : List (DataW H)) (x : DataW H), x ∈ l → Rows.uptoBulk x ≤ Rows.uptoBulkAll l
  | [], _, h => by simp at h
  | y :: r, x, h => by
    rcases List.mem_cons.1 h with rfl | h
    · simp only [Rows.uptoBulkAll]; omega
    · have := bulk_mem r x h
      simp only [Rows.uptoBulkAll]; omega

set_option maxRecDepth 100000 in
theorem open_prs {H : Type} {enc : TypeId × Value → H} {W : World} {base : Nat} {v : Value} {d : DataW H} {p : List MemPlace}
    (hv : Value.okWide Tryz.prog W .any base 62 v) (h : DataW.Trod enc Tryz.prog W 0 (fun _ => true) true 62 v d p) :
    ∃ A cap l, v = .slice A l.length cap ∧ Lr W W.heap.size A cap l ∧ l.length ≤ Rows.uptoBulk d ∧ ∀ x ∈ l, x.1.size ≤ Rows.uptoBulk d ∧ x.2.size ≤ Rows.uptoBulk d := by
  obtain ⟨a1, len, cap, rfl⟩ := okWide_slice Tryz.underlying62 hv
  obtain ⟨fuel, hf⟩ := h
  rcases open_slice Tryz.underlying62 hf with ⟨hcs, hx⟩ | ⟨a, len', cap', m, n, D, Pl, hcs, _, hl, hmx, hmm, hx, hi⟩
  · simp [Value.cells] at hcs
    obtain ⟨rfl, rfl, rfl⟩ := hcs
    exact ⟨none, 0, [], rfl, Sr.none_ _ _, by simp, fun x hx => by simp at hx⟩
  · simp [Value.cells] at hcs
    obtain ⟨rfl, rfl, rfl⟩ := hcs
    have hlm : len ≤ m := by rw [hmm]; split <;> omega
    have each : ∀ i, i < len → ∃ x : Pp, W.cell? (a.add (i * 2)) = some (.string x.1) ∧ W.cell? (a.add (i * 2 + 1)) = some (.string x.2) ∧ D i = .agg [.lit (.string x.1.data.toList), .lit (.string x.2.data.toList)] := fun i hil => by
      obtain ⟨cs', hc, ht⟩ := hi i (by omega)
      rw [cells_rp] at hc
      obtain ⟨_, hcl, hat⟩ := World.cells?_some hc
      obtain ⟨ys, n', _, hy, _, hlen, hg⟩ := DataW.trod_struct Tryz.underlying92 ht
      match cs', hcl with
      | [u0, u1], _ =>
        have hone := one_rp Tryz.underlying92
        have g0 := hg 0 _ rfl
        have g1 := hg 1 _ rfl
        obtain ⟨o0, k0⟩ := hone_of hone 0 _ rfl
        obtain ⟨o1, k1⟩ := hone_of hone 1 _ rfl
        rw [o0, k0] at g0
        rw [o1, k1] at g1
        simp only [List.drop_zero, List.take_succ_cons, List.take_zero, List.drop_succ_cons] at g0 g1
        match ys, hlen with
        | [y0, y1], _ =>
          obtain ⟨s0, e0, d0, _⟩ := DataW.trod_string Tryz.underlying9 g0
          obtain ⟨s1, e1, d1, _⟩ := DataW.trod_string Tryz.underlying9 g1
          simp at e0 e1
          subst e0 e1 d0 d1
          have h0 := hat 0 (by omega)
          have h1 := hat 1 (by omega)
          rw [Go.Deep.add_add] at h0 h1
          rw [Nat.add_zero] at h0
          simp only [Prod.mk.injEq] at hy
          exact ⟨(s0, s1), h0, h1, by rw [hy.1]; rfl⟩
    obtain ⟨f, hf'⟩ := choose_lt each
    have hll : ((List.range len).map f).length = len := by simp
    simp only [Prod.mk.injEq] at hx
    have hbulk := len_le_bulk ((List.range len).map D)
    simp only [List.length_map, List.length_range] at hbulk
    refine ⟨some a, cap, (List.range len).map f, by rw [hll], ⟨by rw [hll]; exact hl, hmx, (fun h => by cases h), fun hn => ⟨a, rfl, ?_, fun i x hk => ?_⟩⟩, ?_, ?_⟩
    · rw [hll] at hn
      have := World.block_lt_of_cell? W _ (hf' 0 hn).1
      rwa [el_block_of_add] at this
    · simp only [List.getElem?_map, Option.map_eq_some_iff] at hk
      obtain ⟨j, hj, he⟩ := hk
      obtain ⟨hj1, hj2⟩ := List.getElem?_eq_some_iff.1 hj
      simp at hj1 hj2
      subst hj2
      have h2 := hf' i hj1
      rw [he] at h2
      intro q u hu
      match q, hu with
      | 0, hu =>
        simp [encP] at hu
        subst hu
        exact h2.1
      | 1, hu =>
        simp [encP] at hu
        subst hu
        exact h2.2.1
    · rw [hll, hx.1]
      simp only [Rows.uptoBulk]
      omega
    · intro x hxm
      obtain ⟨i, hi1, rfl⟩ := List.mem_map.1 hxm
      rw [List.mem_range] at hi1
      have hD := (hf' i hi1).2.2
      have hmem : D i ∈ (List.range len).map D := List.mem_map.2 ⟨i, List.mem_range.2 hi1, rfl⟩
      have hb := bulk_mem _ _ hmem
      rw [hD] at hb
      simp only [Rows.uptoBulk, Rows.uptoBulkAll] at hb
      have l1 : (f i).1.data.toList.length = (f i).1.size := by simp
      have l2 : (f i).2.data.toList.length = (f i).2.size := by simp
      rw [hx.1]
      simp only [Rows.uptoBulk]
      omega
end Go.Proofs.YtcfbcidakddhfaaGreatDoor
namespace Go.Proofs.YtcfbcidakddhfaaGreatDoor
open Go.RowKit

def encS (s : ByteArray) : List Value := [.string s]
theorem encS_len (s : ByteArray) : (encS s).length = 1 := rfl
theorem encS_one (s : ByteArray) : ∀ u ∈ encS s, u.oneCell' = true := by intro u hu; simp [encS] at hu; subst hu; rfl
/-- A label's part of the text. -/
def partL (x : Pp) : List UInt8 := x.1.data.toList ++ [61] ++ quoteB x.2
def partS (x : Pp) : ByteArray := x.1 ++ ⟨#[61]⟩ ++ ⟨(quoteB x.2).toArray⟩
theorem app_list (a b : ByteArray) : (a ++ b).data.toList = a.data.toList ++ b.data.toList := by simp
theorem partS_list (x : Pp) : (partS x).data.toList = partL x := by simp [partS, partL]
theorem partL_len {x : Pp} (h : x.1.size ≤ 1048576 ∧ x.2.size ≤ 1048576) : (partL x).length ≤ 4000000 := by
  have h2 := quoteB_len x.2
  have h3 : x.1.data.toList.length = x.1.size := by simp
  simp only [partL, List.length_append, List.length_singleton, h3]
  omega
theorem joinTail_len (sep : List UInt8) (M : Nat) : ∀ l : List (List UInt8), (∀ x ∈ l, x.length ≤ M) → (Lib.joinTail sep l).length ≤ l.length * (M + sep.length)
  | [], _ => by simp [Lib.joinTail]
  | x :: l, h => by
    have h1 := h x (by simp)
    have h2 := joinTail_len sep M l (fun z hz => h z (by simp [hz]))
    have e : Lib.joinTail sep (x :: l) = sep ++ x ++ Lib.joinTail sep l := by simp [Lib.joinTail]
    rw [e, List.length_append, List.length_append, List.length_cons, Nat.add_mul, Nat.one_mul]
    omega
theorem join_len_le (sep : List UInt8) (M : Nat) (l : List (List UInt8)) (h : ∀ x ∈ l, x.length ≤ M) : (Lib.join l sep).length ≤ l.length * (M + sep.length) := by
  cases l with
  | nil => simp [Lib.join_nil]
  | cons x l =>
    have h1 := h x (by simp)
    have h2 := joinTail_len sep M l (fun z hz => h z (by simp [hz]))
    rw [Lib.join_cons, List.length_append, List.length_cons, Nat.add_mul, Nat.one_mul]
    omega
theorem joinTail_snoc (sep y : List UInt8) (l : List (List UInt8)) : Lib.joinTail sep (l ++ [y]) = Lib.joinTail sep l ++ (sep ++ y) := by simp [Lib.joinTail]
theorem join_snoc (sep y : List UInt8) {l : List (List UInt8)} (h : l ≠ []) : Lib.join (l ++ [y]) sep = Lib.join l sep ++ (sep ++ y) := by
  cases l with
  | nil => exact absurd rfl h
  | cons x l => rw [List.cons_append, Lib.join_cons, Lib.join_cons, joinTail_snoc, List.append_assoc]
def textB (l : List Pp) : List UInt8 := 123 :: (Lib.join (l.map partL) [44] ++ [125])
theorem parts_len {l : List Pp} (h : Sm l) : (Lib.join (l.map partL) [44]).length ≤ l.length * 4000001 := by
  have := join_len_le [44] 4000000 (l.map partL) (fun x hx => by
    obtain ⟨p, hp, rfl⟩ := List.mem_map.1 hx
    exact partL_len (h p hp))
  simpa using this
theorem parts_list (l : List Pp) : (l.map partS).map (·.data.toList) = l.map partL := by
  rw [List.map_map]
  apply List.map_congr_left
  intro x _
  exact partS_list x
end Go.Proofs.YtcfbcidakddhfaaGreatDoor
namespace Go.Proofs.YtcfbcidakddhfaaGreatDoor
open Go.RowKit

abbrev dec (n : Nat) : List UInt8 := Lib.decDigits n
/-- The string s, and of what was there nothing has turned. -/
def Str1 (w : World) (l : List UInt8) (e : Ending) (w' : World) : Prop := e = .returned (.string (strB l)) ∧ Below w.heap.size w w'

theorem dec_small {n : Nat} (h : n < 10) : dec n = [UInt8.ofNat (48 + n)] := by unfold dec; rw [Lib.decDigits, dif_pos h]
theorem dec_big {n : Nat} (h : ¬ n < 10) : dec n = dec (n / 10) ++ [UInt8.ofNat (48 + n % 10)] := by unfold dec; rw [Lib.decDigits, dif_neg h]
theorem dec_len {n : Nat} (h : n < 18446744073709551616) : (dec n).length ≤ 20 := by
  unfold dec
  rw [Lib.decDigits_length]
  by_cases h0 : n = 0
  · subst h0; rw [Lib.nDigits_small (by decide)]; decide
  · have := Lib.numDigits_eq n (by omega) h
    split at this <;> omega
theorem dec_pos (n : Nat) : 1 ≤ (dec n).length := by unfold dec; rw [Lib.decDigits_length]; exact Lib.nDigits_pos n
theorem itoa_neg {n : Int} (h : n < 0) : Lib.itoa n = 45 :: dec n.natAbs := by unfold Lib.itoa; rw [if_pos h]
theorem itoa_pos {n : Int} (h : ¬ n < 0) : Lib.itoa n = dec n.toNat := by unfold Lib.itoa; rw [if_neg h]
theorem itoa_len {n : Int} (h0 : -9223372036854775808 ≤ n) (h1 : n ≤ 9223372036854775807) : (Lib.itoa n).length ≤ 21 := by
  by_cases h : n < 0
  · rw [itoa_neg h]; have := dec_len (n := n.natAbs) (by omega); simp; omega
  · rw [itoa_pos h]; have := dec_len (n := n.toNat) (by omega); omega
theorem digit_toNat {n : Nat} (h : n < 10) : ((UInt8.ofNat (48 + n)).toNat : Int) = 48 + (n : Int) := by
  simp [UInt8.toNat_ofNat']; omega
theorem w64 {x : Int} (h0 : 0 ≤ x) (h1 : x < 18446744073709551616) : IntKind.u64.wrap x = x := by rw [IntKind.wrap_u64]; omega
theorem strB_app (l m : List UInt8) : strB l ++ strB m = strB (l ++ m) := by
  unfold strB
  apply ByteArray.ext
  simp [ByteArray.data_append]

/-- string([]byte{c}). -/
theorem conv1 (w : World) (x : Int) (c : UInt8) (h : x = (c.toNat : Int)) :
    (convert 179 9 (.slice (some ⟨w.heap.size, 0, none⟩) 1 1)).run Tryz.prog (w.alloc (.cells #[.int .u8 x] 5)) = .ok (.string (strB [c])) (w.alloc (.cells #[.int .u8 x] 5)) :=
  bs_str (lit_bs w _ #[.int .u8 x] [c] (by subst h; rfl) (by simp [maxLen])) rfl
end Go.Proofs.YtcfbcidakddhfaaGreatDoor
namespace Go.Proofs.YtcfbcidakddhfaaGreatDoor
open Go.RowKit

theorem cell1 (n : Int) (c : UInt8) (h : n = (c.toNat : Int)) : [Value.int .u8 n] = [c].map bv := by subst h; rfl

end Go.Proofs.YtcfbcidakddhfaaGreatDoor
