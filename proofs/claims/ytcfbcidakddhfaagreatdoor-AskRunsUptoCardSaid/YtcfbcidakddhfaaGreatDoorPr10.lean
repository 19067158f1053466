/- Get of labels: the program's and the document's. -/
import Derived.Test.YtcfbcidakddhfaaGreatDoorPr8
import Derived.Test.YtcfbcidakddhfaaGreatDoorPr5
import Derived.Test.YtcfbcidakddhfaaGreatDoorPr9
import Derived.Lib.IndexMore
import Derived.WalkSpells
namespace Go.Proofs.YtcfbcidakddhfaaGreatDoor
open Go.RowKit

section
variable {P : Program} {Q : Exit → Act → World → Prop}
/-- As fitsAt, but the slot that operation n writes may be looked at ahead of it. -/
def fitsAtN (ops : Array Oper) (n i : Nat) (o : Oper) : Bool :=
  (match o.dst with | some d => owner ops.toList d == some i | none => true) &&
  ((o.looksAt ops).all fun t => match owner ops.toList t with | some j => (j == n) || o.after.any fun e => Region.binds .any e && e.on == j | none => true) &&
  (o.after.all fun e => !Region.binds .any e || Nat.blt e.on i) &&
  (match o.op with | .select _ _ => false | _ => true)
def fitsN (ops : Array Oper) (n : Nat) : Bool := (List.range ops.size).all fun i => match ops[i]? with | some o => fitsAtN ops n i o | none => true
theorem fitsN_spec {ops : Array Oper} {n : Nat} (h : fitsN ops n = true) {i : Nat} {o : Oper} (hi : ops[i]? = some o) : fitsAtN ops n i o = true := by
  have hlt : i < ops.size := (Array.getElem?_eq_some_iff.1 hi).1
  have := List.all_eq_true.1 h i (List.mem_range.2 hlt)
  simpa [hi] using this
theorem readyN_nil {ops : Array Oper} {n : Nat} (hf : fitsN ops n = true) {listed : Array Bool} (hs : listed.size = ops.size) (h : Region.ready .any ops listed = []) : ∀ i, i < ops.size → listed.getD i false = true := by
  intro i
  induction i using Nat.strongRecOn with
  | ind i ih =>
    intro hi
    by_cases hl : listed.getD i false = true
    · exact hl
    · exfalso
      have hi' : i < listed.size := by omega
      have ho : ops[i]? = some ops[i] := Array.getElem?_eq_getElem hi
      have hfit := fitsN_spec hf ho
      simp only [fitsAtN, Bool.and_eq_true, Array.all_eq_true_iff_forall_mem] at hfit
      have : i ∈ Region.ready .any ops listed := mem_ready.2 ⟨by simpa [hi'] using hl, _, ho, fun e he hb => by
        have := hfit.1.2 e he
        simp [hb] at this
        have h2 : e.on < i := by simpa using this
        exact ih e.on h2 (Nat.lt_trans h2 hi)⟩
      rw [h] at this
      cases this

theorem any_of_invN {ops : Array Oper} (n : Nat) (hf : fitsN ops n = true) {a0 : Act} {F : (Nat → Value) → Act} (hF : ∀ vs, F vs = putAll vs 0 ops.toList a0)
    (hQ : ∀ c (x y : Act) w, x.defers = y.defers → Q (.panic c) x w → Q (.panic c) y w) (J : (Nat → Bool) → (Nat → Value) → World → Prop)
    (hstep : ∀ i o, ops[i]? = some o → ∀ l vs w, J l vs w → l i = false → (∀ e ∈ o.after, Region.binds .any e = true → l e.on = true) →
      ∀ K : Act → World → Prop, (∀ v w', J (updR l i true) (updR vs i v) w' → K ((F vs).put o.dst v) w') →
        if Region.wanted o (yielded ops (F vs).tmps) = true then Oper.wp P o (F vs) w K Q else K ((F vs).put o.dst undef) w)
    (hend : ∀ l vs w, (∀ i, i < ops.size → l i = true) → J l vs w → Q .normal (F vs) w) :
    ∀ (fuel : Nat) (listed : Array Bool) (vs : Nat → Value) (a : Act) (w : World), todo ops.size listed ≤ fuel → listed.size = ops.size →
      a.defers = a0.defers → a.tmps.size = a0.tmps.size → (∀ t, (∀ j, owner ops.toList t = some j → j = n ∨ listed.getD j false = true) → a.tmps[t]? = (F vs).tmps[t]?) →
      J (fun j => listed.getD j false) vs w → wpAny P .any ops Q fuel listed a w := by
  have fin : ∀ (listed : Array Bool) (vs : Nat → Value) (a : Act) (w : World), listed.size = ops.size → a.defers = a0.defers →
      (∀ t, (∀ j, owner ops.toList t = some j → j = n ∨ listed.getD j false = true) → a.tmps[t]? = (F vs).tmps[t]?) → J (fun j => listed.getD j false) vs w →
      Region.ready .any ops listed = [] → Q .normal a w := fun listed vs a w hs hd ha hJ hr => by
    have hall := readyN_nil hf hs hr
    have own_lt : ∀ (l : List Oper) t j, owner l t = some j → j < l.length := by
      intro l
      induction l with
      | nil => intro t j h; cases h
      | cons x r ih =>
        intro t j h
        simp only [owner] at h
        split at h
        · rename_i k hk; have := ih t k hk; simp at h; subst h; simp; omega
        · split at h
          · simp at h; subst h; simp
          · cases h
    have : a = F vs := by
      have ht : a.tmps = (F vs).tmps := Array.ext_getElem? fun t => ha t fun j hj => .inr (hall j (by simpa using own_lt _ t j hj))
      have hdd : a.defers = (F vs).defers := by rw [hF, putAll_defers]; exact hd
      cases a; cases hv : F vs; rw [hv] at ht hdd; simp at ht hdd; rw [ht, hdd]
    rw [this]
    exact hend _ vs w (fun i hi => hall i hi) hJ
  intro fuel
  induction fuel with
  | zero =>
    intro listed vs a w ht hs hd hsz ha hJ
    have hr : Region.ready .any ops listed = [] := by
      refine List.eq_nil_iff_forall_not_mem.2 fun i hi => ?_
      obtain ⟨h0, o, ho, _⟩ := mem_ready.1 hi
      have := todo_set (Array.getElem?_eq_some_iff.1 ho).1 hs h0
      omega
    exact ⟨hr, fin listed vs a w hs hd ha hJ hr⟩
  | succ fuel ih =>
    intro listed vs a w ht hs hd hsz ha hJ
    refine ⟨fin listed vs a w hs hd ha hJ, fun i hi => ?_⟩
    obtain ⟨h0, o, ho, hall⟩ := mem_ready.1 hi
    have hlt : i < ops.size := (Array.getElem?_eq_some_iff.1 ho).1
    have hfit := fitsN_spec hf ho
    simp only [fitsAtN, Bool.and_eq_true, Array.all_eq_true_iff_forall_mem, List.all_eq_true] at hfit
    obtain ⟨⟨⟨hdst, hlook⟩, hback⟩, hsel⟩ := hfit
    have hfs : (F vs).tmps.size = a.tmps.size := by rw [hF, putAll_size]; exact hsz.symm
    have same : ∀ t ∈ o.looksAt ops, a.tmps[t]? = (F vs).tmps[t]? := fun t hlt => ha t fun j hj => by
      have := hlook t hlt
      rw [hj] at this
      simp only [Bool.or_eq_true, beq_iff_eq, Array.any_eq_true', Bool.and_eq_true] at this
      rcases this with h9 | ⟨e, he, hb, heq⟩
      · exact .inl h9
      · right; rw [← heq]; exact hall e he hb
    have hsel' : ∀ cs d, o.op ≠ .select cs d := fun cs d h => by rw [h] at hsel; simp at hsel
    have hl : listed.getD i false = false := by
      have hi' : i < listed.size := by omega
      simpa [hi'] using h0
    have go := hstep i o ho (fun j => listed.getD j false) vs w hJ hl hall
    have next : ∀ v w', J (updR (fun j => listed.getD j false) i true) (updR vs i v) w' → wpAny P .any ops Q fuel (listed.setIfInBounds i true) (a.put o.dst v) w' := fun v w' hJ' => by
      refine ih _ (updR vs i v) _ w' (by have := todo_set hlt hs h0; omega) (by simpa using hs) (by rw [put_defers]; exact hd) (by rw [put_size]; exact hsz) (fun t hown => ?_) ?_
      · rw [hF, putAll_get]
        by_cases hdt : o.dst = some t
        · rw [hdt] at hdst
          simp only [beq_iff_eq] at hdst
          rw [hdst]
          simp only [Nat.zero_add, updR_same, hdt, Act.put, Array.getElem?_setIfInBounds, hsz]
          simp
        · have h1 : (a.put o.dst v).tmps[t]? = a.tmps[t]? := by
            cases hd' : o.dst with
            | none => rfl
            | some d =>
              have hne : d ≠ t := fun e => hdt (by rw [hd', e])
              simp [Act.put, Array.getElem?_setIfInBounds_ne hne]
          rw [h1, ha t (fun j hj => by
            rcases hown j hj with h2 | h2
            · exact .inl h2
            right
            by_cases hji : i = j
            · subst hji
              exfalso
              have own_dst : ∀ (l : List Oper) j, owner l t = some j → ∃ x, l[j]? = some x ∧ x.dst = some t := by
                intro l
                induction l with
                | nil => intro j h; cases h
                | cons x r ih2 =>
                  intro j h
                  simp only [owner] at h
                  split at h
                  · rename_i k hk; obtain ⟨y, hy, hyd⟩ := ih2 k hk; simp at h; subst h; exact ⟨y, by simpa using hy, hyd⟩
                  · split at h
                    · rename_i hx; simp at h; subst h; exact ⟨x, by simp, hx⟩
                    · cases h
              obtain ⟨x, hx, hxd⟩ := own_dst _ _ hj
              rw [Array.getElem?_toList, ho] at hx
              cases hx
              exact hdt hxd
            · rw [getD_set_ne false hji] at h2; exact h2), hF, putAll_get]
          cases hw : owner ops.toList t with
          | none => rfl
          | some j =>
            have hji : j ≠ i := fun e => by
              subst e
              have own_dst : ∀ (l : List Oper) j, owner l t = some j → ∃ x, l[j]? = some x ∧ x.dst = some t := by
                intro l
                induction l with
                | nil => intro j h; cases h
                | cons x r ih2 =>
                  intro j h
                  simp only [owner] at h
                  split at h
                  · rename_i k hk; obtain ⟨y, hy, hyd⟩ := ih2 k hk; simp at h; subst h; exact ⟨y, by simpa using hy, hyd⟩
                  · split at h
                    · rename_i hx; simp at h; subst h; exact ⟨x, by simp, hx⟩
                    · cases h
              obtain ⟨x, hx, hxd⟩ := own_dst _ _ hw
              rw [Array.getElem?_toList, ho] at hx
              cases hx
              exact hdt hxd
            simp only [Nat.zero_add, updR_ne vs v hji]
      · have : (fun j => (listed.setIfInBounds i true).getD j false) = updR (fun j => listed.getD j false) i true := by
          funext j
          by_cases hji : j = i
          · subst hji; simp [updR, show j < listed.size by omega]
          · rw [updR_ne _ _ hji, getD_set_ne false (Ne.symm hji)]
        rw [this]; exact hJ'
    unfold wpOp
    simp only [ho]
    rw [wanted_alike same]
    by_cases hw : Region.wanted o (yielded ops (F vs).tmps) = true
    · simp only [hw, if_true] at go ⊢
      exact .inl (wp_alike (Post := fun v w' => J (updR (fun j => listed.getD j false) i true) (updR vs i v) w') (exec_alike hsel' same) hfs.symm (by rw [hF, putAll_defers]; exact hd.symm) hQ next (go _ fun v w' hp => ⟨v, rfl, hp⟩))
    · have hw' : Region.wanted o (yielded ops (F vs).tmps) = false := by simpa using hw
      simp only [hw', Bool.false_eq_true, if_false] at go ⊢
      obtain ⟨v, e, hp⟩ := go (fun a' w' => ∃ v, a' = (F vs).put o.dst v ∧ J (updR (fun j => listed.getD j false) i true) (updR vs i v) w') fun v w' hp => ⟨v, rfl, hp⟩
      rw [put_alike hfs.symm e]
      exact next v w hp

/-- A STATEMENT WHOSE ORDER IS OPEN: an invariant of what has come up, of what it left, and of the world. -/
theorem region_invN {ops : Array Oper} {id : Nat} {a0 : Act} {w0 : World} (n : Nat) (X : Value) (hm : P.follows .mixedOrders = true) (hf : fitsN ops n = true) (hX : ∀ t, owner ops.toList t = some n → a0.tmps[t]? = some X)
    (F : (Nat → Value) → Act) (hF : ∀ vs, F vs = putAll vs 0 ops.toList a0)
    (hQ : ∀ c (x y : Act) w, x.defers = y.defers → Q (.panic c) x w → Q (.panic c) y w) (J : (Nat → Bool) → (Nat → Value) → World → Prop)
    (h0 : J (fun _ => false) (updR (fun _ => undef) n X) w0.drew)
    (hstep : ∀ i o, ops[i]? = some o → ∀ l vs w, J l vs w → l i = false → (∀ e ∈ o.after, Region.binds .any e = true → l e.on = true) →
      ∀ K : Act → World → Prop, (∀ v w', J (updR l i true) (updR vs i v) w' → K ((F vs).put o.dst v) w') →
        if Region.wanted o (yielded ops (F vs).tmps) = true then Oper.wp P o (F vs) w K Q else K ((F vs).put o.dst undef) w)
    (hend : ∀ l vs w, (∀ i, i < ops.size → l i = true) → J l vs w → Q .normal (F vs) w) :
    (Code.region id ops true).wp P Q a0 w0 := by
  refine wp_region_any hm ?_
  refine any_of_invN n hf hF hQ J hstep hend ops.size _ (updR (fun _ => undef) n X) a0 _ ?_ (by simp) rfl rfl (fun t ht => ?_) ?_
  · unfold todo
    exact Nat.le_trans List.countP_le_length (by simp)
  · rw [hF, putAll_get]
    cases hw : owner ops.toList t with
    | none => rfl
    | some j =>
      rcases ht j hw with h1 | h1
      · subst h1
        have h2 := hX t hw
        rw [h2]
        have h3 : t < a0.tmps.size := (Array.getElem?_eq_some_iff.1 h2).1
        simp [h3, updR_same]
      · exfalso
        by_cases hj : j < ops.size
        · simp [hj] at h1
        · simp [hj] at h1
  · have : (fun j => (Array.replicate ops.size false).getD j false) = fun _ => false := by
      funext j
      by_cases hj : j < ops.size <;> simp [hj]
    rw [this]; exact h0

end
/-- The slot that an operation writes holds what it held. -/
theorem region_own {ops : Array Oper} {a0 : Act} {t d : Tmp} {n : Nat} {X : Value} (hd : (ops[n]?).bind (·.dst) = some d) (ht : owner ops.toList t = some n) (hX : a0.tmps[d]? = some X) : a0.tmps[t]? = some X := by
  obtain ⟨x, hx, hxd⟩ := own_dst _ _ ht
  rw [Array.getElem?_toList] at hx
  rw [hx, Option.bind_some, hxd] at hd
  cases hd
  exact hX
theorem region_VN {P : Program} {Q : Exit → Act → World → Prop} {ops : Array Oper} {id : Nat} {a0 : Act} {w0 : World} {ι : Type} (holds : ι → Value → World → Prop) (G : World → Prop) (E : Value → World → Prop) (n : Nat) (X : Value) (hX : ∀ t, owner ops.toList t = some (n + 1) → a0.tmps[t]? = some X) (xs : List ι) (d : ι)
    (mono : ∀ p v w w', holds p v w → Below w.heap.size w w' → holds p v w')
    (F : (Nat → Value) → Act) (hF : ∀ vs, F vs = putAll vs 0 ops.toList a0) (hm : P.follows .mixedOrders = true) (hf : fitsN ops (n + 1) = true) (hl : lastBut ops n = true)
    (hQ : ∀ c (x y : Act) w, x.defers = y.defers → Q (.panic c) x w → Q (.panic c) y w)
    (h0 : G w0.drew)
    (hstep : AllOps (fun i o => stepOr (Nat.beq i (n + 1))
      (∀ vs w, E (vs n) w → ∀ K : Act → World → Prop, K ((F vs).put o.dst (vs n)) w → if Region.wanted o (yielded ops (F vs).tmps) = true then Oper.wp P o (F vs) w K Q else K ((F vs).put o.dst undef) w)
      (∀ vs w, vs (n + 1) = X → G w → AllD (fun j => holds (xs.getD j d) (vs j) w) (depsOf o) →
      ∀ K : Act → World → Prop, stepOr (Nat.beq i n) (∀ v w', E v w' → K ((F vs).put o.dst v) w') (∀ v w', Below w.heap.size w w' → G w' → holds (xs.getD i d) v w' → K ((F vs).put o.dst v) w') →
        if Region.wanted o (yielded ops (F vs).tmps) = true then Oper.wp P o (F vs) w K Q else K ((F vs).put o.dst undef) w)) 0 ops.toList)
    (hend : ∀ vs w, E (vs n) w → vs (n + 1) = vs n → Q .normal (F vs) w) :
    (Code.region id ops true).wp P Q a0 w0 := by
  simp only [lastBut, Bool.and_eq_true, beq_iff_eq, List.all_eq_true, List.mem_range, List.contains_iff_mem] at hl
  obtain ⟨⟨hsz, hlast⟩, hdn⟩ := hl
  refine region_invN (n + 1) X hm hf hX F hF hQ (fun l vs w => (l (n + 1) = false → vs (n + 1) = X) ∧ (∀ j, l j = true → ∀ e ∈ depsAt ops j, l e = true) ∧ (l n = true → E (vs n) w ∧ (l (n + 1) = true → vs (n + 1) = vs n)) ∧ (l n = false → G w ∧ ∀ i, l i = true → holds (xs.getD i d) (vs i) w))
    ⟨(fun _ => updR_same _ _ _), (fun _ h => by cases h), (fun h => by cases h), fun _ => ⟨h0, (fun _ h => by cases h)⟩⟩ ?_ (fun l vs w hl hJ => by
      have h1 := hJ.2.2.1 (hl n (by omega))
      exact hend vs w h1.1 (h1.2 (hl (n + 1) (by omega))))
  intro i o ho l vs w ⟨hXX, hC, hE, hG⟩ hli hall K hK
  have hi : i < ops.size := (Array.getElem?_eq_some_iff.1 ho).1
  have hd := mem_deps ho hall
  have hC' : ∀ j, updR l i true j = true → ∀ e ∈ depsAt ops j, updR l i true e = true := fun j hj e he => by
    by_cases hei : e = i
    · subst hei; rw [updR_same]
    · rw [updR_ne _ _ hei]
      by_cases hji : j = i
      · subst hji; exact hd e he
      · rw [updR_ne _ _ hji] at hj; exact hC j hj e he
  have ho' : ops.toList[i]? = some o := by rw [Array.getElem?_toList]; exact ho
  have go := hstep.get ho'
  rw [Nat.zero_add] at go
  by_cases e1 : i = n + 1
  · subst e1
    have hb : Nat.beq (n + 1) (n + 1) = true := Nat.beq_refl _
    rw [hb] at go
    have hln := hd n hdn
    obtain ⟨hEn, _⟩ := hE hln
    refine go vs w hEn K (hK _ _ ⟨(fun h => by rw [updR_same] at h; cases h), hC', fun _ => ?_, fun h => ?_⟩)
    · rw [updR_ne _ _ (by omega : n ≠ n + 1), updR_same]
      exact ⟨hEn, fun _ => updR_same _ _ _⟩
    · rw [updR_ne _ _ (by omega : n ≠ n + 1), hln] at h
      cases h
  · have hb1 : Nat.beq i (n + 1) = false := by
      cases h : Nat.beq i (n + 1) with
      | false => rfl
      | true => exact absurd (Nat.eq_of_beq_eq_true h) e1
    rw [hb1] at go
    have hn : l n = false := by
      cases hln : l n with
      | false => rfl
      | true =>
        by_cases e : i = n
        · subst e; rw [hli] at hln; cases hln
        · have := reach_up hC ops.size i n (hC n hln) (hlast i (by omega))
          rw [hli] at this
          cases this
    have hn1 : l (n + 1) = false := by
      cases h : l (n + 1) with
      | false => rfl
      | true => have := hC (n + 1) h n hdn; rw [hn] at this; cases this
    obtain ⟨hg, hh⟩ := hG hn
    have hdep : AllD (fun j => holds (xs.getD j d) (vs j) w) (depsOf o) := by
      have hdo : depsAt ops i = depsOf o := by simp [depsAt, ho]
      rw [hdo] at hd
      exact AllD.of (fun j hj => hh j hj) (AllL.mk hd)
    refine go vs w (hXX hn1) hg hdep K ?_
    by_cases e : i = n
    · subst e
      have hb : Nat.beq i i = true := Nat.beq_refl i
      rw [hb]
      exact fun v w' hw => hK v w' ⟨fun _ => by rw [updR_ne _ _ (by omega : i + 1 ≠ i)]; exact hXX hn1, hC', fun _ => ⟨by rw [updR_same]; exact hw, fun h => by rw [updR_ne _ _ (by omega : i + 1 ≠ i), hn1] at h; cases h⟩, fun h => by rw [updR_same] at h; cases h⟩
    · have hb : Nat.beq i n = false := by
        cases h : Nat.beq i n with
        | false => rfl
        | true => exact absurd (Nat.eq_of_beq_eq_true h) e
      rw [hb]
      refine fun v w' hbl hG' hv => hK v w' ⟨fun _ => by rw [updR_ne _ _ (fun e9 => e1 e9.symm)]; exact hXX hn1, hC', fun h => ?_, fun _ => ⟨hG', fun j hj => ?_⟩⟩
      · rw [updR_ne _ _ (Ne.symm e), hn] at h; cases h
      · by_cases ej : j = i
        · subst ej; rw [updR_same]; exact hv
        · rw [updR_ne _ _ ej] at hj ⊢
          exact mono _ _ _ _ (hh j hj) hbl
end Go.Proofs.YtcfbcidakddhfaaGreatDoor
namespace Go.Proofs.YtcfbcidakddhfaaGreatDoor
open Go.RowKit

/-- The bytes up to the next '=', and those behind it. -/
def nmOf : List UInt8 → List UInt8
  | [] => []
  | c :: l => if (c.toNat : Int) = 61 then [] else c :: nmOf l
def rsOf : List UInt8 → List UInt8
  | [] => []
  | c :: l => if (c.toNat : Int) = 61 then l else rsOf l
theorem cut_spec : ∀ l : List UInt8, (Lib.index l [61] = -1 ∧ nmOf l = l ∧ rsOf l = []) ∨ ∃ i : Nat, Lib.index l [61] = (i : Int) ∧ nmOf l = l.take i ∧ rsOf l = l.drop (i + 1) ∧ i < l.length
  | [] => .inl ⟨rfl, rfl, rfl⟩
  | c :: l => by
    have h61 : ((61 : UInt8).toNat : Int) = 61 := rfl
    by_cases hc : (c.toNat : Int) = 61
    · have hcc : c = 61 := UInt8.toNat_inj.1 (by have : (61 : UInt8).toNat = 61 := rfl; omega)
      subst hcc
      refine .inr ⟨0, by simp [Lib.index, List.isPrefixOf], by rw [nmOf, if_pos hc]; rfl, by rw [rsOf, if_pos hc]; rfl, by simp⟩
    · have hne : ¬ (61 : UInt8) = c := by rintro rfl; exact hc rfl
      have hp : ([61] : List UInt8).isPrefixOf (c :: l) = false := by simp [List.isPrefixOf, hne]
      have e : Lib.index (c :: l) [61] = if Lib.index l [61] == -1 then -1 else Lib.index l [61] + 1 := by
        rw [Lib.index, hp]; simp
      rw [e, nmOf, if_neg hc, rsOf, if_neg hc]
      rcases cut_spec l with ⟨h1, h2, h3⟩ | ⟨i, h1, h2, h3, h4⟩
      · exact .inl ⟨by rw [h1]; rfl, by rw [h2], h3⟩
      · refine .inr ⟨i + 1, ?_, by rw [h2]; rfl, by rw [h3]; rfl, by simp; omega⟩
        rw [h1, if_neg (by simp)]
        rfl
theorem cut_eq (l : List UInt8) : (Lib.cut l [61]).1 = nmOf l ∧ (Lib.cut l [61]).2.1 = rsOf l := by
  rcases cut_spec l with ⟨h1, h2, h3⟩ | ⟨i, h1, h2, h3, h4⟩
  · have : ¬ (0 : Int) ≤ -1 := by decide
    unfold Lib.cut
    rw [h1, if_neg this]
    exact ⟨h2.symm, h3.symm⟩
  · unfold Lib.cut
    rw [h1, if_pos (by omega), Int.toNat_natCast]
    exact ⟨h2.symm, h3.symm⟩
theorem rsOf_len (l : List UInt8) : rsOf l = [] ∨ (nmOf l).length + 1 + (rsOf l).length = l.length := by
  rcases cut_spec l with ⟨h1, h2, h3⟩ | ⟨i, h1, h2, h3, h4⟩
  · exact .inl h3
  · right
    rw [h2, h3, List.length_take, List.length_drop]
    omega
theorem nmOf_len (l : List UInt8) : (nmOf l).length ≤ l.length := by
  rcases cut_spec l with ⟨h1, h2, h3⟩ | ⟨i, h1, h2, h3, h4⟩
  · rw [h2]; exact Nat.le_refl _
  · rw [h2, List.length_take]; omega

/-- The label with which bytes begin, and how many it has. -/
def partP (l : List UInt8) : (List UInt8 × List UInt8) × Nat := if (unqL (rsOf l)).2 = 0 then (([], []), 0) else ((nmOf l, (unqL (rsOf l)).1), (nmOf l).length + 1 + (unqL (rsOf l)).2)
theorem unqL_len (l : List UInt8) : (unqL l).1.length ≤ l.length ∧ (unqL l).2 ≤ l.length := by
  cases l with
  | nil => simp [unqL]
  | cons c r =>
    rw [unqL]
    split
    · have := unqGo_len r false [] 1
      simp at this ⊢
      omega
    · simp
theorem partP_len (l : List UInt8) : (partP l).2 ≤ l.length ∧ (partP l).1.1.length ≤ l.length ∧ (partP l).1.2.length ≤ l.length := by
  have h1 := unqL_len (rsOf l)
  have h3 := nmOf_len l
  unfold partP
  split
  · simp
  · rename_i h
    have hl : (nmOf l).length + 1 + (rsOf l).length = l.length := by
      rcases rsOf_len l with e | e
      · rw [e] at h; exact absurd rfl h
      · exact e
    simp only
    omega
def mkP (p : List UInt8 × List UInt8) : Pp := (⟨p.1.toArray⟩, ⟨p.2.toArray⟩)
/-- The labels that stand in bytes, behind the opening brace, up to the closing one at the end. -/
def readGo : Nat → List UInt8 → List Pp → Option (List Pp)
  | 0, _, _ => none
  | f + 1, l, acc =>
    if (partP l).2 = 0 then none
    else if l.drop (partP l).2 = [125] then some (acc ++ [mkP (partP l).1])
    else if Lib.hasPrefix (l.drop (partP l).2) [44] = true then readGo f (l.drop ((partP l).2 + 1)) (acc ++ [mkP (partP l).1])
    else none
def readB (t : List UInt8) : Option (List Pp) := if t = [123, 125] then some [] else if Lib.hasPrefix t [123] = true then readGo (t.length + 1) (t.drop 1) [] else none
theorem readGo_fuel : ∀ (f g : Nat) (l : List UInt8) (acc : List Pp), l.length < f → l.length < g → readGo f l acc = readGo g l acc
  | 0, _, l, _, h, _ => by omega
  | _ + 1, 0, l, _, _, h => by omega
  | f + 1, g + 1, l, acc, hf, hg => by
    rw [readGo, readGo]
    split
    · rfl
    · split
      · rfl
      · split
        · rename_i h1 h2 h3
          have hl : 0 < l.length := by
            cases l with
            | nil => simp at h3; exact absurd h3 (by simp [Lib.hasPrefix])
            | cons => simp
          exact readGo_fuel f g _ _ (by rw [List.length_drop]; omega) (by rw [List.length_drop]; omega)
        · rfl
/-- The error, and the set. -/
def parseE (t : List UInt8) : Int := if 4096 < t.length then 10 else match readB t with
  | none => 10
  | some l => if rightL l = true then 0 else 40
def parseL (t : List UInt8) : List Pp := if 4096 < t.length then [] else match readB t with
  | none => []
  | some l => if rightL l = true then l else []
theorem ext_drop (s : ByteArray) (k : Nat) : s.extract k s.size = ⟨(s.data.toList.drop k).toArray⟩ := by
  apply ByteArray.ext
  apply Array.toList_inj.1
  simp only [ByteArray.data_extract, Array.toList_extract, List.extract_eq_take_drop]
  rw [List.take_of_length_le (by simp)]
end Go.Proofs.YtcfbcidakddhfaaGreatDoor
namespace Go.Proofs.YtcfbcidakddhfaaGreatDoor
open Go.RowKit

set_option maxHeartbeats 3200000 in
theorem rCompare_any (K : Nat) (A B : Option Addr) (n m cap cbp : Nat) (a b : List Pp) (w : World) (hn : a.length = n) (hm : b.length = m) (ha : Lr w K A cap a) (hb : Lr w K B cbp b) (hK : K ≤ w.heap.size) :
    Calls Tryz.prog 14 #[.slice A n cap, .slice B m cbp] w fun e w' => e = .returned (.int .i64 (cmpL a b)) ∧ Below w.heap.size w w' := by
  subst hn hm
  have hle := ha.le
  have hmax := ha.max
  have hle2 := hb.le
  have hmax2 := hb.max
  unfold maxLen at hmax hmax2
  go_enter Tryz.func14, Tryz.ntmps14
  go_wp2
  go_loopw [5] (fun i wr => ∃ k : Nat, k ≤ a.length ∧ k ≤ b.length ∧ i = .int .i64 k ∧ Hid (cmpL a b = cmpL (a.drop k) (b.drop k)) ∧ Below w.heap.size w wr) (fun i _ => a.length - (intOf i).toNat)
  case atStart => exact ⟨0, Nat.zero_le _, Nat.zero_le _, rfl, Lib.hid rfl, Below.refl _ _⟩
  case round =>
    obtain ⟨k, hk, hk2, rfl, HT, hbl⟩ := hrel
    have z := hbl.size
    by_cases hlt : k < a.length
    · by_cases hlt2 : k < b.length
      · obtain ⟨ad, rfl, hadK, h1, h2⟩ := lr_at (ha.below (hbl.mono hK)) hlt
        obtain ⟨bd, rfl, hbdK, h3, h4⟩ := lr_at (hb.below (hbl.mono hK)) hlt2
        have hstep := cmpL_step hlt hlt2
        generalize (a.getD k nilP).1 = xn at *
        generalize (a.getD k nilP).2 = xv at *
        generalize (b.getD k nilP).1 = yn at *
        generalize (b.getD k nilP).2 = yv at *
        unfold ltB at hstep
        have i1 : (k : Int) < a.length := by omega
        have i2 : (k : Int) < b.length := by omega
        by_cases q1 : (xn.toList == yn.toList) = true
        · by_cases q2 : (xv.toList == yv.toList) = true
          · have HN : Hid (cmpL a b = cmpL (a.drop (k + 1)) (b.drop (k + 1))) := Lib.hid (by rw [HT.out, hstep, q1, q2]; rfl)
            clear hstep
            go_wp2_with fail
            go_quiet (fail)
            go_wp2_with fail
            go_quiet (fail)
            go_wp2_with fail
            go_roundw
            case rel => exact ⟨k + 1, by omega, by omega, by go_num, HN, by (repeat (first | exact hbl | apply below_drewN))⟩
            case measure => simp [intOf]; omega
          · have q2 : (xv.toList == yv.toList) = false := by simpa using q2
            by_cases q3 : Op.bytesLess xv.toList yv.toList = true
            · have HF : Hid (cmpL a b = -1) := Lib.hid (by rw [HT.out, hstep, q1, q2, q3]; rfl)
              clear hstep
              go_wp2_with fail
              go_quiet (fail)
              go_wp2_with fail
              go_quiet (fail)
              go_wp2_with fail
              go_quiet (fail)
              go_wp2_with fail
              go_ret
              exact ⟨ret_int HF.out.symm, by (repeat (first | exact hbl | apply below_drewN))⟩
            · have q3 : Op.bytesLess xv.toList yv.toList = false := by simpa using q3
              have HF : Hid (cmpL a b = 1) := Lib.hid (by rw [HT.out, hstep, q1, q2, q3]; rfl)
              clear hstep
              go_wp2_with fail
              go_quiet (fail)
              go_wp2_with fail
              go_quiet (fail)
              go_wp2_with fail
              go_quiet (fail)
              go_wp2_with fail
              go_ret
              exact ⟨ret_int HF.out.symm, by (repeat (first | exact hbl | apply below_drewN))⟩
        · have q1 : (xn.toList == yn.toList) = false := by simpa using q1
          by_cases q3 : Op.bytesLess xn.toList yn.toList = true
          · have HF : Hid (cmpL a b = -1) := Lib.hid (by rw [HT.out, hstep, q1, q3]; rfl)
            clear hstep
            go_wp2_with fail
            go_quiet (fail)
            go_wp2_with fail
            go_quiet (fail)
            go_wp2_with fail
            go_ret
            exact ⟨ret_int HF.out.symm, by (repeat (first | exact hbl | apply below_drewN))⟩
          · have q3 : Op.bytesLess xn.toList yn.toList = false := by simpa using q3
            have HF : Hid (cmpL a b = 1) := Lib.hid (by rw [HT.out, hstep, q1, q3]; rfl)
            clear hstep
            go_wp2_with fail
            go_quiet (fail)
            go_wp2_with fail
            go_quiet (fail)
            go_wp2_with fail
            go_ret
            exact ⟨ret_int HF.out.symm, by (repeat (first | exact hbl | apply below_drewN))⟩
      · have HF : Hid (cmpL a b = 1) := Lib.hid (by rw [HT.out]; exact cmpL_right hlt (by omega))
        have hg : b.length < a.length := by omega
        go_wp2_with fail
        go_ret
        exact ⟨ret_int HF.out.symm, hbl⟩
    · have hke : k = a.length := by omega
      by_cases hlt2 : k < b.length
      · have HF : Hid (cmpL a b = -1) := Lib.hid (by rw [HT.out]; exact cmpL_left (by omega) hlt2)
        have hg : a.length < b.length := by omega
        have HE := Lib.hid hke
        clear hke
        go_wp2_with fail
        go_ret
        exact ⟨ret_int HF.out.symm, hbl⟩
      · have HF : Hid (cmpL a b = 0) := Lib.hid (by rw [HT.out]; exact cmpL_both (by omega) (by omega))
        have hg : ¬ a.length < b.length := by omega
        have hg2 : ¬ b.length < a.length := by omega
        have HE := Lib.hid hke
        clear hke
        go_wp2_with fail
        go_ret
        exact ⟨ret_int HF.out.symm, hbl⟩
end Go.Proofs.YtcfbcidakddhfaaGreatDoor
namespace Go.Proofs.YtcfbcidakddhfaaGreatDoor
open Go.RowKit

set_option maxHeartbeats 1600000 in
theorem getv_any (K : Nat) (A : Option Addr) (n cap : Nat) (l : List Pp) (s : ByteArray) (w : World) (hln : l.length = n) (hp : Lr w K A cap l) (hK : K ≤ w.heap.size) :
    Calls Tryz.prog 55 #[.slice A n cap, .string s] w (NewStr w (getL l s)) := by
  subst hln
  have hle := hp.le
  have hmax := hp.max
  unfold maxLen at hmax
  go_enter Tryz.func55, Tryz.ntmps55
  go_wp2
  go_loopw [9] (fun i wr => ∃ k : Nat, k ≤ l.length ∧ i = .int .i64 k ∧ Hid (getL l s = getL (l.drop k) s) ∧ Below w.heap.size w wr) (fun i _ => l.length - (intOf i).toNat)
  case atStart => exact ⟨0, Nat.zero_le _, rfl, Lib.hid rfl, Below.refl _ _⟩
  case round =>
    obtain ⟨k, hk, rfl, HT, hbl⟩ := hrel
    have z := hbl.size
    by_cases hlt : k < l.length
    · obtain ⟨ad, rfl, hadK, h1, h2⟩ := lr_at (hp.below (hbl.mono hK)) hlt
      have hstep := getL_drop hlt s
      generalize (l.getD k nilP).1 = xn at *
      generalize (l.getD k nilP).2 = xv at *
      by_cases hq : (xn.toList == s.toList) = true
      · have HF : Hid (getL l s = xv) := Lib.hid (by rw [HT.out, hstep, if_pos hq])
        clear hstep
        go_wp2_with fail
        go_ret
        exact ⟨by rw [HF.out]; rfl, by go_grown⟩
      · have hq : (xn.toList == s.toList) = false := by simpa using hq
        have HN : Hid (getL l s = getL (l.drop (k + 1)) s) := Lib.hid (by rw [HT.out, hstep, hq]; rfl)
        clear hstep
        go_wp2_with fail
        go_roundw
        case rel => exact ⟨k + 1, by omega, by go_num, HN, by go_grown⟩
        case measure => simp [intOf]; omega
    · have hks : k = l.length := by omega
      have HF : Hid (getL l s = ⟨#[]⟩) := Lib.hid (by rw [HT.out, hks, List.drop_length]; rfl)
      clear hks
      go_wp2_with fail
      go_ret
      exact ⟨by rw [HF.out]; rfl, hbl⟩
set_option maxHeartbeats 1600000 in
theorem rGet_any (K : Nat) (A : Option Addr) (n cap : Nat) (l : List Pp) (s : ByteArray) (w : World) (hln : l.length = n) (hp : Lr w K A cap l) (hK : K ≤ w.heap.size) :
    Calls Tryz.prog 63 #[.slice A n cap, .string s] w (NewStr w (getL l s)) := by
  subst hln
  have hle := hp.le
  have hmax := hp.max
  unfold maxLen at hmax
  go_enter Tryz.func63, Tryz.ntmps63
  go_wp2
  go_loopw [5] (fun i wr => ∃ k : Nat, k ≤ l.length ∧ i = .int .i64 k ∧ Hid (getL l s = getL (l.drop k) s) ∧ Below w.heap.size w wr) (fun i _ => l.length - (intOf i).toNat)
  case atStart => exact ⟨0, Nat.zero_le _, rfl, Lib.hid rfl, Below.refl _ _⟩
  case round =>
    obtain ⟨k, hk, rfl, HT, hbl⟩ := hrel
    have z := hbl.size
    by_cases hlt : k < l.length
    · obtain ⟨ad, rfl, hadK, h1, h2⟩ := lr_at (hp.below (hbl.mono hK)) hlt
      have hstep := getL_drop hlt s
      generalize (l.getD k nilP).1 = xn at *
      generalize (l.getD k nilP).2 = xv at *
      by_cases hq : (xn.toList == s.toList) = true
      · have HF : Hid (getL l s = xv) := Lib.hid (by rw [HT.out, hstep, if_pos hq])
        clear hstep
        go_wp2_with fail
        go_ret
        exact ⟨by rw [HF.out]; rfl, hbl⟩
      · have hq : (xn.toList == s.toList) = false := by simpa using hq
        have HN : Hid (getL l s = getL (l.drop (k + 1)) s) := Lib.hid (by rw [HT.out, hstep, hq]; rfl)
        clear hstep
        go_wp2_with fail
        go_roundw
        case rel => exact ⟨k + 1, by omega, by go_num, HN, hbl⟩
        case measure => simp [intOf]; omega
    · have hks : k = l.length := by omega
      have HF : Hid (getL l s = ⟨#[]⟩) := Lib.hid (by rw [HT.out, hks, List.drop_length]; rfl)
      clear hks
      go_wp2_with fail
      go_ret
      exact ⟨by rw [HF.out]; rfl, hbl⟩
end Go.Proofs.YtcfbcidakddhfaaGreatDoor
