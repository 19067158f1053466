/- As region_VS; what holds at the end may speak of the values of the other operations. -/
import Derived.Test.YtpnhdocimjkakaaPn0
import Derived.Test.YtpnhdocimjkakaaProg
import Derived.Test.YtpnhdocimjkakaaPn6
import Derived.Maps.RangeWalk
import Derived.Maps.Own
import Derived.Test.YtpnhdocimjkakaaPn7
import Derived.Test.YtpnhdocimjkakaaPn4
namespace Go.Proofs.Ytpnhdocimjkakaa
open Go.RowKit Go.Maps

abbrev KT : TypeId := 3
abbrev MT : TypeId := 94
theorem law_k : Keyed Try.prog KT := int_keyed Try.underlying3
def I64 (x : Int) : Prop := -9223372036854775808 ≤ x ∧ x ≤ 9223372036854775807
theorem wf_of {x : Int} (h : I64 x) : (Lit.int .i64 x).wf = true := by
  unfold I64 at h
  simp [Lit.wf, IntKind.min, IntKind.max, IntKind.signed, IntKind.bits]
  omega
theorem key_of {x : Int} (h : I64 x) : keyOf Try.prog KT (.int .i64 x) = some (.int .i64 x) := keyOf_int_mk Try.underlying3 (wf_of h)
theorem isKey (x : Int) : WideAt.IsKeyLit (.int .i64 x) := trivial
theorem lit_ne {x y : Int} (h : x ≠ y) : (Lit.int .i64 x) ≠ .int .i64 y := fun e => by injection e with _ e; exact h e

/-- Block b is a map of at most n entries that has f k at k; its keys are those of h. -/
def Im (w : World) (b n : Nat) (f : Int → Int) (h : Int → Bool) : Prop :=
  ∃ D : DataW Unit, w.ownsMap Try.prog KT (plainElem Try.prog KT) b n D ∧ (∀ k, D.atKey (.int .i64 k) (.lit (.int .i64 0)) = .lit (.int .i64 (f k))) ∧ ∀ k, Maps.has D (.int .i64 k) = h k

section
variable {P : Nat → Prop} {w w' : World} {b n : Nat} {f : Int → Int} {h : Int → Bool}
theorem Im.lt (H : Im w b n f h) : b < w.heap.size := by
  obtain ⟨D, hD, _⟩ := H
  exact hD.lt
theorem owns_tn {D : DataW Unit} (hD : w.ownsMap Try.prog KT (plainElem Try.prog KT) b n D) (t : Tn P w w') (hn : ¬ P b) : w'.ownsMap Try.prog KT (plainElem Try.prog KT) b n D := by
  have hlt := hD.lt
  obtain ⟨es, clock, hb, rest⟩ := hD
  exact ⟨es, clock, (t.block b hlt hn).trans hb, rest⟩
theorem Im.tn (H : Im w b n f h) (t : Tn P w w') (hn : ¬ P b) : Im w' b n f h := by
  obtain ⟨D, hD, h1, h2⟩ := H
  exact ⟨D, owns_tn hD t hn, h1, h2⟩
theorem Im.below (H : Im w b n f h) (hb : Below w.heap.size w w') : Im w' b n f h := H.tn (Tn.ofNew (P := fun _ => False) hb) id
theorem Im.made (w : World) : Im (w.alloc (.map #[] 0)) w.heap.size 0 (fun _ => 0) (fun _ => false) :=
  ⟨_, World.ownsMap_made w _ _ _, fun _ => rfl, fun _ => rfl⟩
theorem zero_int (w : World) : (zeroValue KT).run Try.prog w = .ok (.int .i64 0) w := Try.zeroValue3 w
set_option maxRecDepth 100000 in
theorem Im.look (H : Im w b n f h) {k : Int} (hk : I64 k) : (Instr.lookup MT (.map (some b)) (.int .i64 k) false).run Try.prog w = .ok (.int .i64 (f k)) w := by
  obtain ⟨D, hD, h1, _⟩ := H
  obtain ⟨c, hr, hat, _⟩ := hD.lookup_int law_k Try.underlying94 Try.underlying3 (zero_int w) (key_of hk)
  rw [h1] at hat
  injection hat with hat
  injection hat with _ hat
  rw [hr, hat]
theorem put_f {D : DataW Unit} (hm : IsMap D) (h1 : ∀ k, D.atKey (.int .i64 k) (.lit (.int .i64 0)) = .lit (.int .i64 (f k))) (k v j : Int) : (D.put (.int .i64 k) (.lit (.int .i64 v))).atKey (.int .i64 j) (.lit (.int .i64 0)) = .lit (.int .i64 (if j = k then v else f j)) := by
  by_cases e : j = k
  · subst e
    rw [if_pos rfl, Maps.atKey_put_same hm (isKey j)]
  · rw [if_neg e, Maps.atKey_put_other (lit_ne e), h1]
theorem put_h {D : DataW Unit} (hm : IsMap D) (h2 : ∀ k, Maps.has D (.int .i64 k) = h k) (k v j : Int) : Maps.has (D.put (.int .i64 k) (.lit (.int .i64 v))) (.int .i64 j) = (h j || decide (j = k)) := by
  by_cases e : j = k
  · subst e
    rw [Maps.has_put_same hm (isKey j)]; simp
  · rw [Maps.has_put_other (lit_ne e), h2]; simp [e]
/-- m[k] = v at the operation. -/
theorem wpList_imput {ops : Array Oper} {rest : List Oper} {o : Oper} {a : Act} {Q : Exit → Act → World → Prop} (w : World) (hg : o.guard = none) (m x v : Operand) (hop : o.op = Op.mapUpdate MT m x v) (b n : Nat) (f : Int → Int) (h : Int → Bool)
    (hm : a.eval m = .map (some b)) (H : Im w b n f h) (hn : n < maxLen) (k y : Int) (hx : a.eval x = .int .i64 k) (hv : a.eval v = .int .i64 y) (hk : I64 k) (hy : I64 y)
    (hK : ∀ w', Im w' b (n + 1) (fun j => if j = k then y else f j) (fun j => h j || decide (j = k)) → Tn (· = b) w w' → wpList Try.prog ops Q rest (a.put o.dst undef) w') : wpList Try.prog ops Q (o :: rest) a w := by
  obtain ⟨D, hD, h1, h2⟩ := H
  refine wpList_mapUpdate_own w hg m x v MT hop KT KT law_k Try.underlying94 (plainElem Try.prog KT) b n D hm hD hn (.int .i64 k) (.int .i64 y) (.int .i64 k) hx hv (key_of hk) (.lit (.int .i64 y)) [] (plainElem_int Try.underlying3 (wf_of hy)) ?_
  intro w' hD' hgr
  exact hK w' ⟨_, hD', put_f hD.isMap h1 k y, put_h hD.isMap h2 k y⟩ ((Tn.ofGrown hgr).mono fun _ _ e => by injection e)
end

def cnt (l : List Int) (k : Int) : Int := (l.count k : Nat)
theorem cnt_bd (l : List Int) (k : Int) : 0 ≤ cnt l k ∧ cnt l k ≤ l.length := by
  unfold cnt
  have := List.count_le_length (a := k) (l := l)
  omega
theorem cnt_nil : cnt [] = fun _ => 0 := by funext k; rfl
theorem cnt_snoc (l : List Int) (t : Int) : cnt (l ++ [t]) = fun j => if j = t then cnt l t + 1 else cnt l j := by
  funext j
  unfold cnt
  rw [List.count_append]
  by_cases e : j = t
  · subst e; simp
  · have : List.count j [t] = 0 := by rw [List.count_eq_zero]; simpa using e
    rw [if_neg e, this]; simp
theorem cnt_erase {l : List Int} {i : Nat} {t : Int} (h : l[i]? = some t) : cnt (l.eraseIdx i) = fun j => if j = t then cnt l t - 1 else cnt l j := by
  have hi := (List.getElem?_eq_some_iff.1 h).1
  have hs : l = l.take i ++ t :: l.drop (i + 1) := by
    rw [← (List.getElem?_eq_some_iff.1 h).2]
    simp
  have he : l.eraseIdx i = l.take i ++ l.drop (i + 1) := List.eraseIdx_eq_take_drop_succ l i
  funext j
  unfold cnt
  rw [he]
  generalize l.take i = a at *
  generalize l.drop (i + 1) = b at *
  subst hs
  rw [List.count_append]
  by_cases e : j = t
  · subst e
    rw [if_pos rfl, List.count_append, List.count_cons_self]
    omega
  · rw [if_neg e, List.count_append, List.count_cons_of_ne (fun h => e h.symm)]
/-- How many of a list are no longer to come. -/
def gone (l : List Int) (left : Lit → Bool) : Nat := (l.filter fun t => !left (.int .i64 t)).length
theorem gone_none (l : List Int) (left : Lit → Bool) (h : ∀ k, left k = false) : gone l left = l.length := by
  unfold gone
  rw [List.filter_eq_self.2]
  intro t _
  rw [h]; rfl
theorem gone_all {l : List Int} {left : Lit → Bool} (h : ∀ t ∈ l, left (.int .i64 t) = true) : gone l left = 0 := by
  unfold gone
  rw [List.length_eq_zero_iff, List.filter_eq_nil_iff]
  intro t ht
  rw [h t ht]; decide
theorem same_int (x t : Int) : (Lit.int .i64 t).sameKey (.int .i64 x) = decide (t = x) := by
  by_cases e : t = x
  · subst e; rw [WideAt.sameKey_self (isKey t)]; simp
  · rw [Go.Maps.sameKey_ne (lit_ne e)]; simp [e]
theorem gone_step (l : List Int) (left : Lit → Bool) (x : Int) (hx : left (.int .i64 x) = true) : gone l (fun z => left z && !z.sameKey (.int .i64 x)) = gone l left + l.count x := by
  induction l with
  | nil => rfl
  | cons t l ih =>
    unfold gone at *
    rw [List.filter_cons, List.filter_cons, List.count_cons]
    simp only [same_int] at ih ⊢
    by_cases e : t = x
    · subst e
      rw [if_pos (by simp), if_neg (by rw [hx]; decide), if_pos (by simp), List.length_cons, ih]
      omega
    · have e2 : (t == x) = false := by simpa using e
      have e3 : decide (t = x) = false := by simpa using e
      rw [e2, e3, Bool.not_false, Bool.and_true]
      split
      · rw [List.length_cons, List.length_cons, ih]; simp; omega
      · rw [ih]; simp
theorem gone_le (l : List Int) (left : Lit → Bool) : gone l left ≤ l.length := List.length_filter_le _ _
end Go.Proofs.Ytpnhdocimjkakaa
namespace Go.Proofs.Ytpnhdocimjkakaa
open Go.RowKit

theorem region_GS {P : Program} {Q : Exit → Act → World → Prop} {ops : Array Oper} {id : Nat} {a0 : Act} {w0 : World} {ι : Type} (holds : ι → Value → World → Prop) (G : Bool → World → Prop) (E : World → Prop) (p n : Nat) (xs : List ι) (d : ι)
    (F : (Nat → Value) → Act) (hF : ∀ vs, F vs = putAll vs 0 ops.toList a0) (hm : P.follows .mixedOrders = true) (hf : fitsR ops = true) (hl : lastAll ops n = true) (hp : Nat.blt p n = true)
    (hQ : ∀ c (x y : Act) w, x.defers = y.defers → Q (.panic c) x w → Q (.panic c) y w)
    (h0 : G false w0.drew)
    (hstep : AllOps (fun i o => ∀ vs b w, G b w → AllD (fun j => holds (xs.getD j d) (vs j) w) (depsOf o) → (Nat.beq i p = true → b = false) → (Nat.beq i n = true → b = true) →
      ∀ K : Act → World → Prop, stepOr (Nat.beq i n) (∀ v w', E w' → K ((F vs).put o.dst v) w') (∀ v w', G (upG i p b) w' → (∀ j u, Nat.beq j i = false → holds (xs.getD j d) u w → holds (xs.getD j d) u w') → holds (xs.getD i d) v w' → K ((F vs).put o.dst v) w') →
        if Region.wanted o (yielded ops (F vs).tmps) = true then Oper.wp P o (F vs) w K Q else K ((F vs).put o.dst undef) w) 0 ops.toList)
    (hend : ∀ vs w, E w → Q .normal (F vs) w) :
    (Code.region id ops true).wp P Q a0 w0 := by
  simp only [lastAll, Bool.and_eq_true, beq_iff_eq, List.all_eq_true, List.mem_range] at hl
  obtain ⟨hsz, hlast⟩ := hl
  rw [Nat.blt_eq] at hp
  refine region_inv hm hf F hF hQ (fun l vs w => (∀ j, l j = true → ∀ e ∈ depsAt ops j, l e = true) ∧ (l n = true → E w) ∧ (l n = false → G (l p) w ∧ ∀ i, l i = true → holds (xs.getD i d) (vs i) w))
    ⟨(fun _ h => by cases h), (fun h => by cases h), fun _ => ⟨h0, (fun _ h => by cases h)⟩⟩ ?_ (fun l vs w hl hJ => hend vs w (hJ.2.1 (hl n (by omega))))
  intro i o ho l vs w ⟨hC, hE, hG⟩ hli hall K hK
  have hi : i < ops.size := (Array.getElem?_eq_some_iff.1 ho).1
  have hd := mem_deps ho hall
  have hC' : ∀ j, updR l i true j = true → ∀ e ∈ depsAt ops j, updR l i true e = true := fun j hj e he => by
    by_cases hei : e = i
    · subst hei; rw [updR_same]
    · rw [updR_ne _ _ hei]
      by_cases hji : j = i
      · subst hji; exact hd e he
      · rw [updR_ne _ _ hji] at hj; exact hC j hj e he
  have hn : l n = false := by
    cases hln : l n with
    | false => rfl
    | true =>
      by_cases e : i = n
      · subst e; rw [hli] at hln; cases hln
      · have := reach_up hC ops.size i n (hC n hln) (hlast i (by omega))
        rw [hli] at this
        cases this
  obtain ⟨hg, hh⟩ := hG hn
  have ho' : ops.toList[i]? = some o := by rw [Array.getElem?_toList]; exact ho
  have go := hstep.get ho'
  rw [Nat.zero_add] at go
  have hdep : AllD (fun j => holds (xs.getD j d) (vs j) w) (depsOf o) := by
    have hdo : depsAt ops i = depsOf o := by simp [depsAt, ho]
    rw [hdo] at hd
    exact AllD.of (fun j hj => hh j hj) (AllL.mk hd)
  refine go vs (l p) w hg hdep (fun h => by have := Nat.eq_of_beq_eq_true h; subst this; exact hli) (fun h => by
    have := Nat.eq_of_beq_eq_true h
    subst this
    have := reach_up hC ops.size p i hd (hlast p hp)
    exact this) K ?_
  by_cases e : i = n
  · subst e
    have hb : Nat.beq i i = true := Nat.beq_refl i
    rw [hb]
    exact fun v w' hw => hK v w' ⟨hC', fun _ => hw, fun h => by rw [updR_same] at h; cases h⟩
  · have hb : Nat.beq i n = false := by
      cases h : Nat.beq i n with
      | false => rfl
      | true => exact absurd (Nat.eq_of_beq_eq_true h) e
    rw [hb]
    refine fun v w' hG' hk hv => hK v w' ⟨hC', fun h => ?_, fun _ => ⟨by rw [upG_eq]; exact hG', fun j hj => ?_⟩⟩
    · rw [updR_ne _ _ (Ne.symm e), hn] at h; cases h
    · by_cases ej : j = i
      · subst ej; rw [updR_same]; exact hv
      · rw [updR_ne _ _ ej] at hj ⊢
        have hji : Nat.beq j i = false := by
          cases h : Nat.beq j i with
          | false => rfl
          | true => exact absurd (Nat.eq_of_beq_eq_true h) ej
        exact hk j _ hji (hh j hj)
/-- append of a whole slice of flat elements, as an operation of such a statement. -/
theorem step_appE {α : Type} {enc : α → List Value} {k : Nat} {P : Program} {T ST : TypeId} (hund : P.underlying ST = some (.slice T)) {z : Value} {bytes : Nat} (hinfo : (P.info? T).map (fun i => (i.zero, i.size, i.bytes)) = some (some z, k, bytes)) (hz : z.cells.size = k) (hk0 : 0 < k)
    (henc : ∀ x, (enc x).length = k) (h1 : ∀ x, ∀ u ∈ enc x, u.oneCell' = true) {ops : Array Oper} {o : Oper} {a : Act} {w : World} {Kk : Act → World → Prop} {Q : Exit → Act → World → Prop} {Ee : Prop} {tm : Array Value} (hgd : o.guard = none) (s x : Operand)
    (ho : o.op = .call { callee := .builtin .append, args := #[s, x], argTypes := #[ST, ST] })
    (K : Nat) (v : Value) (l : List α) (hs : a.eval s = v) (hown : So enc k w K T v l) (A : Option Addr) (cap : Nat) (m : List α) (hx : a.eval x = .slice A m.length cap) (K' : Nat) (hsrc : Sr enc k w K' A cap m)
    (hm : l.length + m.length ≤ maxLen) (hsz : (l.length + m.length) * bytes ≤ 140737488355328) (hbase : K ≤ w.heap.size)
    (h : ∀ A' cap' w', So enc k w' K T (.slice A' (l.length + m.length) cap') (l ++ m) → w.grownBy w' v.ownBlock → Kk (a.put o.dst (.slice A' (l.length + m.length) cap')) w') :
    if Region.wanted o (yielded ops tm) = true then Oper.wp P o a w Kk Q else Ee := by
  have hw : Region.wanted o (yielded ops tm) = true := by simp [Region.wanted, hgd]
  rw [if_pos hw]
  obtain ⟨A', cap', w', hr, h2, h3, _⟩ := run_appE hund hinfo hz hk0 henc h1 w o.type hown hsrc hm hsz hbase
  unfold Oper.wp execOp
  simp only [ho, resolve, invoke, builtin, Sem.run_bind, Sem.run_pure, Result.andThen_ok, List.map_toArray, List.map_cons, List.map_nil, hs, hx, hr]
  exact h A' cap' w' h2 h3
end Go.Proofs.Ytpnhdocimjkakaa
namespace Go.Proofs.Ytpnhdocimjkakaa
open Go.RowKit

theorem region_VE {P : Program} {Q : Exit → Act → World → Prop} {ops : Array Oper} {id : Nat} {a0 : Act} {w0 : World} {ι : Type} (holds : ι → Value → World → Prop) (G : World → Prop) (E : (Nat → Value) → World → Prop) (n : Nat) (xs : List ι) (d : ι)
    (mono : ∀ p v w w', holds p v w → Below w.heap.size w w' → holds p v w')
    (F : (Nat → Value) → Act) (hF : ∀ vs, F vs = putAll vs 0 ops.toList a0) (hm : P.follows .mixedOrders = true) (hf : fitsR ops = true) (hl : lastAll ops n = true)
    (hQ : ∀ c (x y : Act) w, x.defers = y.defers → Q (.panic c) x w → Q (.panic c) y w)
    (h0 : G w0.drew) (hE : ∀ vs v w, E vs w → E (updR vs n v) w)
    (hstep : AllOps (fun i o => ∀ vs w, G w → AllD (fun j => holds (xs.getD j d) (vs j) w) (depsOf o) →
      ∀ K : Act → World → Prop, stepOr (Nat.beq i n) (∀ v w', E vs w' → K ((F vs).put o.dst v) w') (∀ v w', Below w.heap.size w w' → G w' → holds (xs.getD i d) v w' → K ((F vs).put o.dst v) w') →
        if Region.wanted o (yielded ops (F vs).tmps) = true then Oper.wp P o (F vs) w K Q else K ((F vs).put o.dst undef) w) 0 ops.toList)
    (hend : ∀ vs w, E vs w → Q .normal (F vs) w) :
    (Code.region id ops true).wp P Q a0 w0 := by
  simp only [lastAll, Bool.and_eq_true, beq_iff_eq, List.all_eq_true, List.mem_range] at hl
  obtain ⟨hsz, hlast⟩ := hl
  refine region_inv hm hf F hF hQ (fun l vs w => (∀ j, l j = true → ∀ e ∈ depsAt ops j, l e = true) ∧ (l n = true → E vs w) ∧ (l n = false → G w ∧ ∀ i, l i = true → holds (xs.getD i d) (vs i) w))
    ⟨(fun _ h => by cases h), (fun h => by cases h), fun _ => ⟨h0, (fun _ h => by cases h)⟩⟩ ?_ (fun l vs w hl hJ => hend vs w (hJ.2.1 (hl n (by omega))))
  intro i o ho l vs w ⟨hC, hE1, hG⟩ hli hall K hK
  have hi : i < ops.size := (Array.getElem?_eq_some_iff.1 ho).1
  have hd := mem_deps ho hall
  have hC' : ∀ j, updR l i true j = true → ∀ e ∈ depsAt ops j, updR l i true e = true := fun j hj e he => by
    by_cases hei : e = i
    · subst hei; rw [updR_same]
    · rw [updR_ne _ _ hei]
      by_cases hji : j = i
      · subst hji; exact hd e he
      · rw [updR_ne _ _ hji] at hj; exact hC j hj e he
  have hn : l n = false := by
    cases hln : l n with
    | false => rfl
    | true =>
      by_cases e : i = n
      · subst e; rw [hli] at hln; cases hln
      · have := reach_up hC ops.size i n (hC n hln) (hlast i (by omega))
        rw [hli] at this
        cases this
  obtain ⟨hg, hh⟩ := hG hn
  have ho' : ops.toList[i]? = some o := by rw [Array.getElem?_toList]; exact ho
  have go := hstep.get ho'
  rw [Nat.zero_add] at go
  have hdep : AllD (fun j => holds (xs.getD j d) (vs j) w) (depsOf o) := by
    have hdo : depsAt ops i = depsOf o := by simp [depsAt, ho]
    rw [hdo] at hd
    exact AllD.of (fun j hj => hh j hj) (AllL.mk hd)
  refine go vs w hg hdep K ?_
  by_cases e : i = n
  · subst e
    have hb : Nat.beq i i = true := Nat.beq_refl i
    rw [hb]
    exact fun v w' hw => hK v w' ⟨hC', fun _ => hE vs v w' hw, fun h => by rw [updR_same] at h; cases h⟩
  · have hb : Nat.beq i n = false := by
      cases h : Nat.beq i n with
      | false => rfl
      | true => exact absurd (Nat.eq_of_beq_eq_true h) e
    rw [hb]
    refine fun v w' hbl hG' hv => hK v w' ⟨hC', fun h => ?_, fun _ => ⟨hG', fun j hj => ?_⟩⟩
    · rw [updR_ne _ _ (Ne.symm e), hn] at h; cases h
    · by_cases ej : j = i
      · subst ej; rw [updR_same]; exact hv
      · rw [updR_ne _ _ ej] at hj ⊢
        exact mono _ _ _ _ (hh j hj) hbl
end Go.Proofs.Ytpnhdocimjkakaa
