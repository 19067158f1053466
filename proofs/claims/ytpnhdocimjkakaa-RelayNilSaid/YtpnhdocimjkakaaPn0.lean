
import Derived.WalkKit
import Derived.Orders
import Derived.WalkSpells
import Derived.WalkLawsBesides
import Derived.Handy
import Derived.Lib.Hide
import Derived.Deep.RegionHeld3
import Derived.Deep.DeepCutAuto
namespace Go.Proofs.Ytpnhdocimjkakaa
open Go.RowKit

section
variable {P : Program} {Q : Exit → Act → World → Prop}

/-- What every operation left, put into its slot, in the text's order. -/
def putAll (vs : Nat → Value) : Nat → List Oper → Act → Act
  | _, [], a => a
  | k, o :: os, a => putAll vs (k + 1) os (a.put o.dst (vs k))
/-- The last operation that writes a slot. -/
def owner : List Oper → Tmp → Option Nat
  | [], _ => none
  | o :: os, t => match owner os t with
    | some j => some (j + 1)
    | none => if o.dst = some t then some 0 else none

theorem put_size (a : Act) (d : Option Tmp) (v : Value) : (a.put d v).tmps.size = a.tmps.size := by
  cases d <;> simp [Act.put]
theorem put_defers (a : Act) (d : Option Tmp) (v : Value) : (a.put d v).defers = a.defers := by
  cases d <;> rfl
theorem putAll_size (vs : Nat → Value) : ∀ (os : List Oper) (k : Nat) (a : Act), (putAll vs k os a).tmps.size = a.tmps.size
  | [], _, _ => rfl
  | _ :: os, k, _ => (putAll_size vs os (k + 1) _).trans (put_size _ _ _)
theorem putAll_defers (vs : Nat → Value) : ∀ (os : List Oper) (k : Nat) (a : Act), (putAll vs k os a).defers = a.defers
  | [], _, _ => rfl
  | _ :: os, k, _ => (putAll_defers vs os (k + 1) _).trans (put_defers _ _ _)
theorem putAll_get (vs : Nat → Value) (t : Tmp) : ∀ (os : List Oper) (k : Nat) (a : Act),
    (putAll vs k os a).tmps[t]? = match owner os t with | some j => (if t < a.tmps.size then some (vs (k + j)) else none) | none => a.tmps[t]?
  | [], _, _ => rfl
  | o :: os, k, a => by
    rw [putAll, putAll_get vs t os (k + 1)]
    simp only [owner]
    cases h : owner os t with
    | some j => simp only [put_size, show k + 1 + j = k + (j + 1) by omega]
    | none =>
      by_cases hd : o.dst = some t
      · simp only [hd, if_true, Act.put, Nat.add_zero, Array.getElem?_setIfInBounds]
      · simp only [hd, if_false]
        cases hd' : o.dst with
        | none => rfl
        | some d =>
          have hne : d ≠ t := fun e => hd (by rw [hd', e])
          simp [Act.put, Array.getElem?_setIfInBounds_ne hne]

/-- What the kernel reckons of a statement's operations: each slot has one writer, each waits for those that it looks at, and for earlier ones alone. -/
def fitsAt (ops : Array Oper) (i : Nat) (o : Oper) : Bool :=
  (match o.dst with | some d => owner ops.toList d == some i | none => true) &&
  ((o.looksAt ops).all fun t => match owner ops.toList t with | some j => o.after.any fun e => Region.binds .any e && e.on == j | none => true) &&
  (o.after.all fun e => !Region.binds .any e || Nat.blt e.on i) &&
  (match o.op with | .select _ _ => false | _ => true)
def fitsR (ops : Array Oper) : Bool := (List.range ops.size).all fun i => match ops[i]? with | some o => fitsAt ops i o | none => true

theorem fits_spec {ops : Array Oper} (h : fitsR ops = true) {i : Nat} {o : Oper} (hi : ops[i]? = some o) : fitsAt ops i o = true := by
  have hlt : i < ops.size := (Array.getElem?_eq_some_iff.1 hi).1
  have := List.all_eq_true.1 h i (List.mem_range.2 hlt)
  simpa [hi] using this

def updR {α : Type} (f : Nat → α) (i : Nat) (v : α) : Nat → α := fun j => if j = i then v else f j
theorem updR_same {α : Type} (f : Nat → α) (i : Nat) (v : α) : updR f i v i = v := by simp [updR]
theorem updR_ne {α : Type} (f : Nat → α) {i j : Nat} (v : α) (h : j ≠ i) : updR f i v j = f j := by simp [updR, h]

theorem put_alike {a b : Act} {d : Option Tmp} {u v : Value} (hs : a.tmps.size = b.tmps.size) (h : b.put d u = b.put d v) : a.put d u = a.put d v := by
  cases d with
  | none => rfl
  | some t =>
    by_cases ht : t < b.tmps.size
    · have := congrArg (fun x => x.tmps[t]?) h
      simp [Act.put, ht] at this
      rw [this]
    · have ht' : a.tmps.size ≤ t := hs ▸ Nat.le_of_not_lt ht
      simp [Act.put, Array.setIfInBounds_eq_of_size_le ht']

/-- One operation at one frame, and at another one that it can't tell from it. -/
theorem wp_alike {o : Oper} {a b : Act} {w : World} {K : Act → World → Prop} {Post : Value → World → Prop} (he : execOp a.eval o = execOp b.eval o)
    (hs : a.tmps.size = b.tmps.size) (hd : b.defers = a.defers) (hQ : ∀ c (x y : Act) w, x.defers = y.defers → Q (.panic c) x w → Q (.panic c) y w) (hK : ∀ v w', Post v w' → K (a.put o.dst v) w')
    (h : Oper.wp P o b w (fun a' w' => ∃ v, a' = b.put o.dst v ∧ Post v w') Q) : Oper.wp P o a w K Q := by
  have one : ∀ {u : Value} {w' : World}, (∃ v, b.put o.dst u = b.put o.dst v ∧ Post v w') → K (a.put o.dst u) w' := fun ⟨v, e, hp⟩ => by
    rw [put_alike hs e]; exact hK v _ hp
  unfold Oper.wp at *
  rw [he]
  generalize (execOp b.eval o).run P w = r at *
  cases r with
  | ok n w' =>
    cases n <;> simp only [Oper.upon] at h ⊢
    case value u => exact one h
    case skip => exact one h
    case defer d =>
      obtain ⟨v, e, _⟩ := h
      have := congrArg (fun x => x.defers.length) e
      simp [put_defers] at this
    case enter f args =>
      refine Calls.mono h fun e w'' he => ?_
      cases e with
      | returned u => exact one he
      | panicked c => exact hQ _ _ _ _ hd he
      | outgrown => exact he
    case row row args => exact Rows.mono h fun u w'' he => one he
  | halt x w' =>
    cases x <;> simp only [Oper.upon] at h ⊢
    case panic u => exact hQ _ _ _ _ hd h

/-- Two frames that an operation can't tell from one another: its operands and its guard's slot hold the same. -/
theorem eval_alike {a b : Act} {x : Operand} (h : ∀ t, x = .tmp t → a.tmps[t]? = b.tmps[t]?) : a.eval x = b.eval x := by
  cases x with
  | tmp t => simp only [Act.eval, Array.getD_eq_getD_getElem?, h t rfl]
  | _ => rfl
theorem exec_alike {ops : Array Oper} {a b : Act} {o : Oper} (hsel : ∀ cs d, o.op ≠ .select cs d) (h : ∀ t ∈ o.looksAt ops, a.tmps[t]? = b.tmps[t]?) : execOp a.eval o = execOp b.eval o :=
  execOp_congr o hsel fun x hx => eval_alike fun t ht => h t (by
    subst ht
    exact List.mem_append_left _ (List.mem_filterMap.2 ⟨.tmp t, by simpa using hx, rfl⟩))
theorem wanted_alike {ops : Array Oper} {a b : Act} {o : Oper} (h : ∀ t ∈ o.looksAt ops, a.tmps[t]? = b.tmps[t]?) : Region.wanted o (yielded ops a.tmps) = Region.wanted o (yielded ops b.tmps) := by
  unfold Region.wanted
  cases hg : o.guard with
  | none => rfl
  | some gw =>
    obtain ⟨g, want⟩ := gw
    have hy : yielded ops a.tmps g = yielded ops b.tmps g := by
      unfold yielded
      cases ht : (ops[g]?).bind (·.dst) with
      | none => rfl
      | some t => simp only [Option.bind_some, h t (by simp [Oper.looksAt, hg, ht])]
    simp only [hy]

/-- How many have not come up. -/
def todo (n : Nat) (listed : Array Bool) : Nat := (List.range n).countP fun i => !listed.getD i false
theorem todo_set {n i : Nat} {listed : Array Bool} (hn : i < n) (hs : listed.size = n) (h : listed.getD i true = false) : todo n (listed.setIfInBounds i true) + 1 ≤ todo n listed := by
  have h' : listed.getD i false = false := by
    have hi : i < listed.size := by omega
    simpa [hi] using h
  unfold todo
  have key : ∀ l : List Nat, i ∈ l → l.countP (fun k => !(listed.setIfInBounds i true).getD k false) + 1 ≤ l.countP fun k => !listed.getD k false := by
    have le : ∀ l : List Nat, l.countP (fun k => !(listed.setIfInBounds i true).getD k false) ≤ l.countP fun k => !listed.getD k false := fun l =>
      List.countP_mono_left fun k _ hk => by
        by_cases hik : i = k
        · subst hik
          simp [show i < listed.size by omega] at hk
        · rw [getD_set_ne false hik] at hk; exact hk
    intro l hl
    induction l with
    | nil => cases hl
    | cons x r ih =>
      rcases List.mem_cons.1 hl with rfl | hr
      · have h1 : (listed.setIfInBounds i true).getD i false = true := by simp [show i < listed.size by omega]
        have := le r
        rw [List.countP_cons, List.countP_cons, h1, h']
        simp only [Bool.not_true, Bool.not_false, Bool.false_eq_true, if_true, if_false, Nat.add_zero]
        omega
      · have := ih hr
        have l2 : (!(listed.setIfInBounds i true).getD x false) = true → (!listed.getD x false) = true := fun hk => by
          by_cases hik : i = x
          · subst hik; simp [show i < listed.size by omega] at hk
          · rw [getD_set_ne false hik] at hk; exact hk
        rw [List.countP_cons, List.countP_cons]
        split <;> split <;> simp_all <;> omega
  exact key _ (List.mem_range.2 hn)

theorem readyR_nil {ops : Array Oper} (hf : fitsR ops = true) {listed : Array Bool} (hs : listed.size = ops.size) (h : Region.ready .any ops listed = []) : ∀ i, i < ops.size → listed.getD i false = true := by
  intro i
  induction i using Nat.strongRecOn with
  | ind i ih =>
    intro hi
    by_cases hl : listed.getD i false = true
    · exact hl
    · exfalso
      have hi' : i < listed.size := by omega
      have ho : ops[i]? = some ops[i] := Array.getElem?_eq_getElem hi
      have hfit := fits_spec hf ho
      simp only [fitsAt, Bool.and_eq_true, Array.all_eq_true_iff_forall_mem] at hfit
      have : i ∈ Region.ready .any ops listed := mem_ready.2 ⟨by simpa [hi'] using hl, _, ho, fun e he hb => by
        have := hfit.1.2 e he
        simp [hb] at this
        have h2 : e.on < i := by simpa using this
        exact ih e.on h2 (Nat.lt_trans h2 hi)⟩
      rw [h] at this
      cases this

theorem any_of_inv {ops : Array Oper} (hf : fitsR ops = true) {a0 : Act} {F : (Nat → Value) → Act} (hF : ∀ vs, F vs = putAll vs 0 ops.toList a0)
    (hQ : ∀ c (x y : Act) w, x.defers = y.defers → Q (.panic c) x w → Q (.panic c) y w) (J : (Nat → Bool) → (Nat → Value) → World → Prop)
    (hstep : ∀ i o, ops[i]? = some o → ∀ l vs w, J l vs w → l i = false → (∀ e ∈ o.after, Region.binds .any e = true → l e.on = true) →
      ∀ K : Act → World → Prop, (∀ v w', J (updR l i true) (updR vs i v) w' → K ((F vs).put o.dst v) w') →
        if Region.wanted o (yielded ops (F vs).tmps) = true then Oper.wp P o (F vs) w K Q else K ((F vs).put o.dst undef) w)
    (hend : ∀ l vs w, (∀ i, i < ops.size → l i = true) → J l vs w → Q .normal (F vs) w) :
    ∀ (fuel : Nat) (listed : Array Bool) (vs : Nat → Value) (a : Act) (w : World), todo ops.size listed ≤ fuel → listed.size = ops.size →
      a.defers = a0.defers → a.tmps.size = a0.tmps.size → (∀ t, (∀ j, owner ops.toList t = some j → listed.getD j false = true) → a.tmps[t]? = (F vs).tmps[t]?) →
      J (fun j => listed.getD j false) vs w → wpAny P .any ops Q fuel listed a w := by
  have fin : ∀ (listed : Array Bool) (vs : Nat → Value) (a : Act) (w : World), listed.size = ops.size → a.defers = a0.defers →
      (∀ t, (∀ j, owner ops.toList t = some j → listed.getD j false = true) → a.tmps[t]? = (F vs).tmps[t]?) → J (fun j => listed.getD j false) vs w →
      Region.ready .any ops listed = [] → Q .normal a w := fun listed vs a w hs hd ha hJ hr => by
    have hall := readyR_nil hf hs hr
    have own_lt : ∀ (l : List Oper) t j, owner l t = some j → j < l.length := by
      intro l
      induction l with
      | nil => intro t j h; cases h
      | cons x r ih =>
        intro t j h
        simp only [owner] at h
        split at h
        · rename_i k hk; have := ih t k hk; simp at h; subst h; simp; omega
        · split at h
          · simp at h; subst h; simp
          · cases h
    have : a = F vs := by
      have ht : a.tmps = (F vs).tmps := Array.ext_getElem? fun t => ha t fun j hj => hall j (by simpa using own_lt _ t j hj)
      have hdd : a.defers = (F vs).defers := by rw [hF, putAll_defers]; exact hd
      cases a; cases hv : F vs; rw [hv] at ht hdd; simp at ht hdd; rw [ht, hdd]
    rw [this]
    exact hend _ vs w (fun i hi => hall i hi) hJ
  intro fuel
  induction fuel with
  | zero =>
    intro listed vs a w ht hs hd hsz ha hJ
    have hr : Region.ready .any ops listed = [] := by
      refine List.eq_nil_iff_forall_not_mem.2 fun i hi => ?_
      obtain ⟨h0, o, ho, _⟩ := mem_ready.1 hi
      have := todo_set (Array.getElem?_eq_some_iff.1 ho).1 hs h0
      omega
    exact ⟨hr, fin listed vs a w hs hd ha hJ hr⟩
  | succ fuel ih =>
    intro listed vs a w ht hs hd hsz ha hJ
    refine ⟨fin listed vs a w hs hd ha hJ, fun i hi => ?_⟩
    obtain ⟨h0, o, ho, hall⟩ := mem_ready.1 hi
    have hlt : i < ops.size := (Array.getElem?_eq_some_iff.1 ho).1
    have hfit := fits_spec hf ho
    simp only [fitsAt, Bool.and_eq_true, Array.all_eq_true_iff_forall_mem, List.all_eq_true] at hfit
    obtain ⟨⟨⟨hdst, hlook⟩, hback⟩, hsel⟩ := hfit
    have hfs : (F vs).tmps.size = a.tmps.size := by rw [hF, putAll_size]; exact hsz.symm
    have same : ∀ t ∈ o.looksAt ops, a.tmps[t]? = (F vs).tmps[t]? := fun t hlt => ha t fun j hj => by
      have := hlook t hlt
      rw [hj] at this
      simp only [Array.any_eq_true', Bool.and_eq_true, beq_iff_eq] at this
      obtain ⟨e, he, hb, heq⟩ := this
      rw [← heq]; exact hall e he hb
    have hsel' : ∀ cs d, o.op ≠ .select cs d := fun cs d h => by rw [h] at hsel; simp at hsel
    have hl : listed.getD i false = false := by
      have hi' : i < listed.size := by omega
      simpa [hi'] using h0
    have go := hstep i o ho (fun j => listed.getD j false) vs w hJ hl hall
    have next : ∀ v w', J (updR (fun j => listed.getD j false) i true) (updR vs i v) w' → wpAny P .any ops Q fuel (listed.setIfInBounds i true) (a.put o.dst v) w' := fun v w' hJ' => by
      refine ih _ (updR vs i v) _ w' (by have := todo_set hlt hs h0; omega) (by simpa using hs) (by rw [put_defers]; exact hd) (by rw [put_size]; exact hsz) (fun t hown => ?_) ?_
      · rw [hF, putAll_get]
        by_cases hdt : o.dst = some t
        · rw [hdt] at hdst
          simp only [beq_iff_eq] at hdst
          rw [hdst]
          simp only [Nat.zero_add, updR_same, hdt, Act.put, Array.getElem?_setIfInBounds, hsz]
          simp
        · have h1 : (a.put o.dst v).tmps[t]? = a.tmps[t]? := by
            cases hd' : o.dst with
            | none => rfl
            | some d =>
              have hne : d ≠ t := fun e => hdt (by rw [hd', e])
              simp [Act.put, Array.getElem?_setIfInBounds_ne hne]
          rw [h1, ha t (fun j hj => by
            have h2 := hown j hj
            by_cases hji : i = j
            · subst hji
              exfalso
              have own_dst : ∀ (l : List Oper) j, owner l t = some j → ∃ x, l[j]? = some x ∧ x.dst = some t := by
                intro l
                induction l with
                | nil => intro j h; cases h
                | cons x r ih2 =>
                  intro j h
                  simp only [owner] at h
                  split at h
                  · rename_i k hk; obtain ⟨y, hy, hyd⟩ := ih2 k hk; simp at h; subst h; exact ⟨y, by simpa using hy, hyd⟩
                  · split at h
                    · rename_i hx; simp at h; subst h; exact ⟨x, by simp, hx⟩
                    · cases h
              obtain ⟨x, hx, hxd⟩ := own_dst _ _ hj
              rw [Array.getElem?_toList, ho] at hx
              cases hx
              exact hdt hxd
            · rw [getD_set_ne false hji] at h2; exact h2), hF, putAll_get]
          cases hw : owner ops.toList t with
          | none => rfl
          | some j =>
            have hji : j ≠ i := fun e => by
              subst e
              have own_dst : ∀ (l : List Oper) j, owner l t = some j → ∃ x, l[j]? = some x ∧ x.dst = some t := by
                intro l
                induction l with
                | nil => intro j h; cases h
                | cons x r ih2 =>
                  intro j h
                  simp only [owner] at h
                  split at h
                  · rename_i k hk; obtain ⟨y, hy, hyd⟩ := ih2 k hk; simp at h; subst h; exact ⟨y, by simpa using hy, hyd⟩
                  · split at h
                    · rename_i hx; simp at h; subst h; exact ⟨x, by simp, hx⟩
                    · cases h
              obtain ⟨x, hx, hxd⟩ := own_dst _ _ hw
              rw [Array.getElem?_toList, ho] at hx
              cases hx
              exact hdt hxd
            simp only [Nat.zero_add, updR_ne vs v hji]
      · have : (fun j => (listed.setIfInBounds i true).getD j false) = updR (fun j => listed.getD j false) i true := by
          funext j
          by_cases hji : j = i
          · subst hji; simp [updR, show j < listed.size by omega]
          · rw [updR_ne _ _ hji, getD_set_ne false (Ne.symm hji)]
        rw [this]; exact hJ'
    unfold wpOp
    simp only [ho]
    rw [wanted_alike same]
    by_cases hw : Region.wanted o (yielded ops (F vs).tmps) = true
    · simp only [hw, if_true] at go ⊢
      exact .inl (wp_alike (Post := fun v w' => J (updR (fun j => listed.getD j false) i true) (updR vs i v) w') (exec_alike hsel' same) hfs.symm (by rw [hF, putAll_defers]; exact hd.symm) hQ next (go _ fun v w' hp => ⟨v, rfl, hp⟩))
    · have hw' : Region.wanted o (yielded ops (F vs).tmps) = false := by simpa using hw
      simp only [hw', Bool.false_eq_true, if_false] at go ⊢
      obtain ⟨v, e, hp⟩ := go (fun a' w' => ∃ v, a' = (F vs).put o.dst v ∧ J (updR (fun j => listed.getD j false) i true) (updR vs i v) w') fun v w' hp => ⟨v, rfl, hp⟩
      rw [put_alike hfs.symm e]
      exact next v w hp

/-- A STATEMENT WHOSE ORDER IS OPEN: an invariant of what has come up, of what it left, and of the world. -/
theorem region_inv {ops : Array Oper} {id : Nat} {a0 : Act} {w0 : World} (hm : P.follows .mixedOrders = true) (hf : fitsR ops = true)
    (F : (Nat → Value) → Act) (hF : ∀ vs, F vs = putAll vs 0 ops.toList a0)
    (hQ : ∀ c (x y : Act) w, x.defers = y.defers → Q (.panic c) x w → Q (.panic c) y w) (J : (Nat → Bool) → (Nat → Value) → World → Prop)
    (h0 : J (fun _ => false) (fun _ => undef) w0.drew)
    (hstep : ∀ i o, ops[i]? = some o → ∀ l vs w, J l vs w → l i = false → (∀ e ∈ o.after, Region.binds .any e = true → l e.on = true) →
      ∀ K : Act → World → Prop, (∀ v w', J (updR l i true) (updR vs i v) w' → K ((F vs).put o.dst v) w') →
        if Region.wanted o (yielded ops (F vs).tmps) = true then Oper.wp P o (F vs) w K Q else K ((F vs).put o.dst undef) w)
    (hend : ∀ l vs w, (∀ i, i < ops.size → l i = true) → J l vs w → Q .normal (F vs) w) :
    (Code.region id ops true).wp P Q a0 w0 := by
  refine wp_region_any hm ?_
  refine any_of_inv hf hF hQ J hstep hend ops.size _ (fun _ => undef) a0 _ ?_ (by simp) rfl rfl (fun t ht => ?_) ?_
  · unfold todo
    exact Nat.le_trans List.countP_le_length (by simp)
  · rw [hF, putAll_get]
    cases hw : owner ops.toList t with
    | none => rfl
    | some j =>
      have h1 := ht j hw
      exfalso
      by_cases hj : j < ops.size
      · simp [hj] at h1
      · simp [hj] at h1
  · have : (fun j => (Array.replicate ops.size false).getD j false) = fun _ => false := by
      funext j
      by_cases hj : j < ops.size <;> simp [hj]
    rw [this]; exact h0

/-- Of each operation, with its number. -/
def AllOps (p : Nat → Oper → Prop) : Nat → List Oper → Prop
  | _, [] => True
  | k, o :: os => p k o ∧ AllOps p (k + 1) os
theorem AllOps.get {p : Nat → Oper → Prop} : ∀ {os : List Oper} {k : Nat}, AllOps p k os → ∀ {j : Nat} {o : Oper}, os[j]? = some o → p (k + j) o
  | [], _, _, _, _, hj => by cases hj
  | x :: os, k, h, 0, o, hj => by simp at hj; subst hj; exact h.1
  | x :: os, k, h, j + 1, o, hj => by
    have := AllOps.get h.2 (j := j) (o := o) (by simpa using hj)
    rwa [show k + 1 + j = k + (j + 1) by omega] at this
theorem AllOps.nil {p : Nat → Oper → Prop} {k : Nat} : AllOps p k [] := trivial
theorem AllOps.cons {p : Nat → Oper → Prop} {k : Nat} {o : Oper} {os : List Oper} (h : p k o) (h' : AllOps p (k + 1) os) : AllOps p k (o :: os) := ⟨h, h'⟩
/-- Those that an operation waits for. -/
def depsOf (o : Oper) : List Nat := o.after.toList.filterMap fun e => if Region.binds .any e = true then some e.on else none
def AllR (R : Nat → Value → World → Prop) (vs : Nat → Value) (w : World) : List Nat → Prop
  | [] => True
  | j :: js => R j (vs j) w ∧ AllR R vs w js
theorem AllR.mk {R : Nat → Value → World → Prop} {vs : Nat → Value} {w : World} : ∀ {js : List Nat}, (∀ j ∈ js, R j (vs j) w) → AllR R vs w js
  | [], _ => trivial
  | j :: js, h => ⟨h j (by simp), AllR.mk fun k hk => h k (by simp [hk])⟩
theorem AllR.get {R : Nat → Value → World → Prop} {vs : Nat → Value} {w : World} : ∀ {js : List Nat}, AllR R vs w js → ∀ j ∈ js, R j (vs j) w
  | j :: js, h, k, hk => by
    rcases List.mem_cons.1 hk with rfl | hk
    · exact h.1
    · exact h.2.get k hk

/-- THE COMMON CASE: of each operation's value one thing is known, which later calls and new memory leave true; S is what is known of the world. -/
theorem region_grow {ops : Array Oper} {id : Nat} {a0 : Act} {w0 : World} (S : World → Prop) (R : Nat → Value → World → Prop)
    (F : (Nat → Value) → Act) (hF : ∀ vs, F vs = putAll vs 0 ops.toList a0) (hm : P.follows .mixedOrders = true) (hf : fitsR ops = true)
    (hQ : ∀ c (x y : Act) w, x.defers = y.defers → Q (.panic c) x w → Q (.panic c) y w)
    (h0 : S w0.drew) (stab : ∀ w w', Below w.heap.size w w' → ∀ j v, R j v w → R j v w')
    (hstep : AllOps (fun i o => ∀ vs w, S w → AllR R vs w (depsOf o) →
      ∀ K : Act → World → Prop, (∀ v w', S w' → R i v w' → Below w.heap.size w w' → K ((F vs).put o.dst v) w') →
        if Region.wanted o (yielded ops (F vs).tmps) = true then Oper.wp P o (F vs) w K Q else K ((F vs).put o.dst undef) w) 0 ops.toList)
    (hend : ∀ vs w, S w → AllR R vs w (List.range ops.size) → Q .normal (F vs) w) :
    (Code.region id ops true).wp P Q a0 w0 := by
  refine region_inv hm hf F hF hQ (fun l vs w => S w ∧ ∀ j, l j = true → R j (vs j) w) ⟨h0, fun j h => by cases h⟩ ?_ ?_
  · intro i o ho l vs w ⟨hS, hR⟩ _ hall K hK
    have ho' : ops.toList[i]? = some o := by rw [Array.getElem?_toList]; exact ho
    have := hstep.get ho'
    rw [Nat.zero_add] at this
    refine this vs w hS (AllR.mk fun j hj => ?_) K fun v w' hS' hR' hb => hK v w' ⟨hS', fun j hj => ?_⟩
    · simp only [depsOf, List.mem_filterMap, Array.mem_toList_iff] at hj
      obtain ⟨e, he, hej⟩ := hj
      split at hej
      · rename_i hb; cases hej; exact hR _ (hall e he hb)
      · cases hej
    · by_cases hji : j = i
      · subst hji; rw [updR_same]; exact hR'
      · rw [updR_ne _ _ hji] at hj ⊢; exact stab w w' hb j _ (hR j hj)
  · intro l vs w hl ⟨hS, hR⟩
    exact hend vs w hS (AllR.mk fun j hj => hR j (hl j (List.mem_range.1 hj)))

theorem own_dst {t : Tmp} : ∀ (l : List Oper) j, owner l t = some j → ∃ x, l[j]? = some x ∧ x.dst = some t := by
  intro l
  induction l with
  | nil => intro j h; cases h
  | cons x r ih2 =>
    intro j h
    simp only [owner] at h
    split at h
    · rename_i k hk; obtain ⟨y, hy, hyd⟩ := ih2 k hk; simp at h; subst h; exact ⟨y, by simpa using hy, hyd⟩
    · split at h
      · rename_i hx; simp at h; subst h; exact ⟨x, by simp, hx⟩
      · cases h

/-- THE PLAINEST CASE: each operation leaves one value, whatever the order: xs; S is what is known of the world; each only makes new memory. -/
theorem region_vals {ops : Array Oper} {id : Nat} {a0 : Act} {w0 : World} (S : World → Prop) (xs : List Value)
    (F : Act) (hF : F = putAll (fun i => xs.getD i undef) 0 ops.toList a0) (hm : P.follows .mixedOrders = true) (hf : fitsR ops = true)
    (hQ : ∀ c (x y : Act) w, x.defers = y.defers → Q (.panic c) x w → Q (.panic c) y w)
    (h0 : S w0.drew)
    (hstep : AllOps (fun i o => ∀ w, S w → ∀ K : Act → World → Prop, (∀ v w', v = xs.getD i undef → S w' → K (F.put o.dst v) w') →
        if Region.wanted o (yielded ops F.tmps) = true then Oper.wp P o F w K Q else K (F.put o.dst undef) w) 0 ops.toList)
    (hend : ∀ w, S w → Q .normal F w) :
    (Code.region id ops true).wp P Q a0 w0 := by
  refine region_inv hm hf (fun vs => putAll vs 0 ops.toList a0) (fun _ => rfl) hQ (fun l vs w => S w ∧ ∀ j, l j = true → vs j = xs.getD j undef) ⟨h0, fun j h => by cases h⟩ ?_ ?_
  · intro i o ho l vs w ⟨hS, hR⟩ _ hall K hK
    have ho' : ops.toList[i]? = some o := by rw [Array.getElem?_toList]; exact ho
    have go := hstep.get ho'
    rw [Nat.zero_add] at go
    have hfit := fits_spec hf ho
    simp only [fitsAt, Bool.and_eq_true, Array.all_eq_true_iff_forall_mem, List.all_eq_true] at hfit
    obtain ⟨⟨⟨_, hlook⟩, _⟩, hsel⟩ := hfit
    have same : ∀ t ∈ o.looksAt ops, (putAll vs 0 ops.toList a0).tmps[t]? = F.tmps[t]? := fun t ht => by
      rw [hF, putAll_get, putAll_get]
      have := hlook t ht
      cases hj : owner ops.toList t with
      | none => rfl
      | some j =>
        rw [hj] at this
        simp only [Array.any_eq_true', Bool.and_eq_true, beq_iff_eq] at this
        obtain ⟨e, he, hb, heq⟩ := this
        have h1 := hR e.on (hall e he hb)
        rw [heq] at h1
        simp only [Nat.zero_add, h1]
    have hsel' : ∀ cs d, o.op ≠ .select cs d := fun cs d h => by rw [h] at hsel; simp at hsel
    have hsz : (putAll vs 0 ops.toList a0).tmps.size = F.tmps.size := by rw [hF, putAll_size, putAll_size]
    have hdf : F.defers = (putAll vs 0 ops.toList a0).defers := by rw [hF, putAll_defers, putAll_defers]
    have next : ∀ v w', (v = xs.getD i undef ∧ S w') → K ((putAll vs 0 ops.toList a0).put o.dst v) w' := fun v w' ⟨hv, hS'⟩ => hK v w' ⟨hS', fun j hj => by
      by_cases hji : j = i
      · subst hji; rw [updR_same]; exact hv
      · rw [updR_ne _ _ hji] at hj ⊢; exact hR j hj⟩
    rw [wanted_alike same]
    by_cases hw : Region.wanted o (yielded ops F.tmps) = true
    · simp only [hw, if_true] at go ⊢
      exact wp_alike (Post := fun v w' => v = xs.getD i undef ∧ S w') (exec_alike hsel' same) hsz hdf hQ next (go w hS _ fun v w' hv hS' => ⟨v, rfl, hv, hS'⟩)
    · have hw' : Region.wanted o (yielded ops F.tmps) = false := by simpa using hw
      simp only [hw', Bool.false_eq_true, if_false] at go ⊢
      obtain ⟨v, e, hp⟩ := go w hS (fun a' w' => ∃ v, a' = F.put o.dst v ∧ v = xs.getD i undef ∧ S w') fun v w' hv hS' => ⟨v, rfl, hv, hS'⟩
      rw [put_alike hsz e]
      exact next v w hp
  · intro l vs w hl ⟨hS, hR⟩
    have : putAll vs 0 ops.toList a0 = F := by
      have hx : ∀ (os : List Oper) (k : Nat) (a : Act), (∀ j, j < os.length → vs (k + j) = xs.getD (k + j) undef) → putAll vs k os a = putAll (fun i => xs.getD i undef) k os a := by
        intro os
        induction os with
        | nil => intro k a _; rfl
        | cons o os ih =>
          intro k a h
          have h0 := h 0 (by simp)
          simp only [Nat.add_zero] at h0
          simp only [putAll, h0]
          exact ih (k + 1) _ fun j hj => by
            have := h (j + 1) (by simp; omega)
            rwa [show k + (j + 1) = k + 1 + j by omega] at this
      rw [hF]
      exact hx _ 0 a0 fun j hj => by rw [Nat.zero_add]; exact hR j (hl j (by simpa using hj))
    rw [this]
    exact hend w hS
end
end Go.Proofs.Ytpnhdocimjkakaa
namespace Go.Proofs.Ytpnhdocimjkakaa
open Go.RowKit

theorem bcell {W w1 : World} (hb : Below W.heap.size W w1) : (∀ b o, b < W.heap.size → w1.cell? ⟨b, o, none⟩ = W.cell? ⟨b, o, none⟩) ∧ (∀ b o, b < W.heap.size → w1.frozen? ⟨b, o, none⟩ = W.frozen? ⟨b, o, none⟩) :=
  ⟨fun b o h => hb.cell (p := ⟨b, o, none⟩) h, fun b o h => hb.frozen (p := ⟨b, o, none⟩) h⟩
/-- What a call made behind a world that had only grown. -/
theorem via {B : Nat} {w W w1 : World} (hb : Below W.heap.size W w1) (h : Below B w W) (hB : B ≤ W.heap.size) : Below B w w1 := h.trans (hb.mono hB)
theorem kept {W w1 : World} {p : Addr} {v : Value} (hb : Below W.heap.size W w1) (h : W.cell? p = some v) : w1.cell? p = some v :=
  (hb.cell (World.block_lt_of_cell? W p h)).trans h
theorem keptD {X : World} {p : Addr} {v : Value} (h : X.cell? p = some v) : X.drew.cell? p = some v := h
theorem keptA {X : World} {p : Addr} {v : Value} {o : Obj} (h : X.cell? p = some v) : (X.alloc o).cell? p = some v :=
  (World.cell?_alloc_lt _ _ _ (World.block_lt_of_cell? X p h)).trans h
theorem ret_int {k : IntKind} {a b : Int} (h : a = b) : Ending.returned (.int k a) = .returned (.int k b) := by rw [h]
theorem ret_bool {a b : Bool} (h : a = b) : Ending.returned (.bool a) = .returned (.bool b) := by rw [h]

end Go.Proofs.Ytpnhdocimjkakaa
/- A stamp's bytes, as plain lists. -/
namespace Go.Proofs.Ytpnhdocimjkakaa

/-- A number's k bytes, the highest first. -/
def beN (u k : Nat) : List UInt8 := (List.range k).map fun i => UInt8.ofNat (u / 256 ^ (k - 1 - i))
/-- The first j of them. -/
def beTo (u k j : Nat) : List UInt8 := (List.range j).map fun i => UInt8.ofNat (u / 256 ^ (k - 1 - i))
theorem beTo_all (u k : Nat) : beTo u k k = beN u k := rfl
theorem beTo_zero (u k : Nat) : beTo u k 0 = [] := rfl
theorem beTo_succ (u k j : Nat) : beTo u k (j + 1) = beTo u k j ++ [UInt8.ofNat (u / 256 ^ (k - 1 - j))] := by
  simp [beTo, List.range_succ]
theorem beN_length (u k : Nat) : (beN u k).length = k := by simp [beN]
theorem beTo_length (u k j : Nat) : (beTo u k j).length = j := by simp [beTo]
theorem beN_get (u k i : Nat) (h : i < k) : (beN u k).getD i 0 = UInt8.ofNat (u / 256 ^ (k - 1 - i)) := by simp [beN, h]
/-- Sixty-four bits of an int. -/
def u64N (a : Int) : Nat := (a % 18446744073709551616).toNat
theorem u64N_lt (a : Int) : u64N a < 18446744073709551616 := by unfold u64N; omega
def putB (a b c : Int) : List UInt8 := beN (u64N a) 8 ++ beN (u64N b) 4 ++ beN (u64N c) 4
theorem putB_length (a b c : Int) : (putB a b c).length = 16 := by simp [putB, beN_length]

theorem byte_shift (a : Int) (q : Nat) (h : q ≤ 7) : a / (2 ^ (8 * q) : Int) % 256 = ((UInt8.ofNat (u64N a / 256 ^ q)).toNat : Int) := by
  have e : ((UInt8.ofNat (u64N a / 256 ^ q)).toNat : Int) = ((u64N a / 256 ^ q : Nat) : Int) % 256 := by simp
  rw [e]
  unfold u64N
  rcases (show q = 0 ∨ q = 1 ∨ q = 2 ∨ q = 3 ∨ q = 4 ∨ q = 5 ∨ q = 6 ∨ q = 7 by omega) with rfl | rfl | rfl | rfl | rfl | rfl | rfl | rfl <;> simp only [Nat.reduceMul, Nat.reducePow, Int.reducePow] <;> omega
end Go.Proofs.Ytpnhdocimjkakaa
