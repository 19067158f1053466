/- An invariant for a statement that makes several struct variables at once, each from a value of its own, in an open order. -/
import Derived.Test.YtcgkbpjfbahleaaBase
import Derived.Test.YtcgkbpjfbahleaaRegion
namespace Go.Proofs.Ytcgkbpjfbahleaa
open Go.RowKit

theorem cellO {X : World} {p q : Addr} {u v : Value} (hne : p ≠ q) (h : X.cell? q = some v) : (X.setCell p u).cell? q = some v := by
  rw [World.cell?_setCell_other]
  · exact h
  · exact hne
theorem cellS {X : World} {p : Addr} {u : Value} (h : (X.cell? p).isSome = true) : (X.setCell p u).cell? p = some u := by
  obtain ⟨v, hv⟩ := Option.isSome_iff_exists.1 h
  exact World.cell?_setCell_same (w := X) (a := p) (v := u) hv
theorem isOf {X : World} {p : Addr} {v : Value} (h : X.cell? p = some v) : (X.cell? p).isSome = true := by rw [h]; rfl
theorem isS {X : World} {p q : Addr} {u : Value} (h : (X.cell? q).isSome = true) : ((X.setCell p u).cell? q).isSome = true := by
  by_cases e : p = q
  · subst e; rw [cellS h]; rfl
  · rw [World.cell?_setCell_other]
    · exact h
    · exact e
theorem frS {X : World} {p q : Addr} {u : Value} (h : X.frozen? q = false) : (X.setCell p u).frozen? q = false := by simpa using h

def AllL (l : Nat → Bool) : List Nat → Prop
  | [] => True
  | j :: js => l j = true ∧ AllL l js
theorem AllL.mk {l : Nat → Bool} : ∀ {js : List Nat}, (∀ j ∈ js, l j = true) → AllL l js
  | [], _ => trivial
  | j :: _, h => ⟨h j (by simp), AllL.mk fun k hk => h k (by simp [hk])⟩
theorem region_invA {P : Program} {Q : Exit → Act → World → Prop} {ops : Array Oper} {id : Nat} {a0 : Act} {w0 : World} (J : (Nat → Bool) → (Nat → Value) → World → Prop)
    (F : (Nat → Value) → Act) (hF : ∀ vs, F vs = putAll vs 0 ops.toList a0) (hm : P.follows .mixedOrders = true) (hf : fitsR ops = true)
    (hQ : ∀ c (x y : Act) w, x.defers = y.defers → Q (.panic c) x w → Q (.panic c) y w)
    (h0 : J (fun _ => false) (fun _ => undef) w0.drew)
    (hstep : AllOps (fun i o => ∀ l vs w, J l vs w → l i = false → AllL l (depsOf o) →
      ∀ K : Act → World → Prop, (∀ v w', J (updR l i true) (updR vs i v) w' → K ((F vs).put o.dst v) w') →
        if Region.wanted o (yielded ops (F vs).tmps) = true then Oper.wp P o (F vs) w K Q else K ((F vs).put o.dst undef) w) 0 ops.toList)
    (hend : ∀ l vs w, (∀ i, i < ops.size → l i = true) → J l vs w → Q .normal (F vs) w) :
    (Code.region id ops true).wp P Q a0 w0 := by
  refine region_inv hm hf F hF hQ J h0 (fun i o ho l vs w hJ hl hall => ?_) hend
  have ho' : ops.toList[i]? = some o := by rw [Array.getElem?_toList]; exact ho
  have go := hstep.get ho'
  rw [Nat.zero_add] at go
  refine go l vs w hJ hl (AllL.mk fun j hj => ?_)
  simp only [depsOf, List.mem_filterMap, Array.mem_toList_iff] at hj
  obtain ⟨e, he, hej⟩ := hj
  split at hej
  · rename_i hb; cases hej; exact hall e he hb
  · cases hej

/-- A block with room for a stamp; a block that holds one. -/
def Room3 (w : World) (b : Nat) : Prop := ∀ o, o < 3 → (w.cell? ⟨b, o, none⟩).isSome = true ∧ w.frozen? ⟨b, o, none⟩ = false
def At3 (w : World) (b : Nat) (y : Int × Int × Int) : Prop := w.cell? ⟨b, 0, none⟩ = some (.int .i64 y.1) ∧ w.cell? ⟨b, 1, none⟩ = some (.int .u32 y.2.1) ∧ w.cell? ⟨b, 2, none⟩ = some (.int .u32 y.2.2)
theorem At3.below {w w' : World} {b : Nat} {y : Int × Int × Int} (h : At3 w b y) (hb : Below w.heap.size w w') : At3 w' b y := ⟨kept hb h.1, kept hb h.2.1, kept hb h.2.2⟩
theorem Room3.below {w w' : World} {b : Nat} (h : Room3 w b) (hl : b < w.heap.size) (hb : Below w.heap.size w w') : Room3 w' b := fun o ho => by
  obtain ⟨h1, h2⟩ := h o ho
  rw [hb.cell (p := ⟨b, o, none⟩) hl, hb.frozen (p := ⟨b, o, none⟩) hl]
  exact ⟨h1, h2⟩

def store3 (w : World) (b : Nat) (y : Int × Int × Int) : World := ((w.setCell ⟨b, 0, none⟩ (.int .i64 y.1)).setCell ⟨b, 1, none⟩ (.int .u32 y.2.1)).setCell ⟨b, 2, none⟩ (.int .u32 y.2.2)
theorem Room3.store {w : World} {b c : Nat} {y : Int × Int × Int} (h : Room3 w b) : Room3 (store3 w c y) b := fun o ho => by
  obtain ⟨h1, h2⟩ := h o ho
  exact ⟨isS (isS (isS h1)), frS (frS (frS h2))⟩
theorem At3.store {w : World} {b : Nat} {y : Int × Int × Int} (h : Room3 w b) : At3 (store3 w b y) b y :=
  ⟨cellO (by simp) (cellO (by simp) (cellS (h 0 (by omega)).1)), cellO (by simp) (cellS (isS (h 1 (by omega)).1)), cellS (isS (isS (h 2 (by omega)).1))⟩
theorem At3.store_other {w : World} {b c : Nat} {y z : Int × Int × Int} (h : At3 w b y) (hne : c ≠ b) : At3 (store3 w c z) b y := by
  have ne : ∀ i j : Nat, (⟨c, i, none⟩ : Addr) ≠ ⟨b, j, none⟩ := fun i j e => hne (congrArg Addr.block e)
  exact ⟨cellO (ne _ _) (cellO (ne _ _) (cellO (ne _ _) h.1)), cellO (ne _ _) (cellO (ne _ _) (cellO (ne _ _) h.2.1)), cellO (ne _ _) (cellO (ne _ _) (cellO (ne _ _) h.2.2))⟩
theorem store3_size (w : World) (b : Nat) (y : Int × Int × Int) : (store3 w b y).heap.size = w.heap.size := by simp [store3]

/-- m values, k variables that are made, k stores into them: what holds of those that have come up. -/
structure Lets (S : World → Prop) (N m k : Nat) (xs : Nat → Value) (ys : Nat → Int × Int × Int) (l : Nat → Bool) (vs : Nat → Value) (w : World) : Prop where
  s : S w
  n : N ≤ w.heap.size
  v : ∀ j, j < m → l j = true → vs j = xs j
  p : ∀ i, i < k → l (m + i) = true → ∃ b, vs (m + i) = .pointer (some ⟨b, 0, none⟩) ∧ N ≤ b ∧ b < w.heap.size ∧ Room3 w b
  d : ∀ i j, i < k → j < k → i ≠ j → l (m + i) = true → l (m + j) = true → vs (m + i) ≠ vs (m + j)
  h : ∀ i, i < k → l (m + k + i) = true → l (m + i) = true ∧ ∀ b, vs (m + i) = .pointer (some ⟨b, 0, none⟩) → At3 w b (ys i)

variable {S : World → Prop} {N m k : Nat} {xs : Nat → Value} {ys : Nat → Int × Int × Int} {l : Nat → Bool} {vs : Nat → Value} {w : World}

theorem Lets.value (J : Lets S N m k xs ys l vs w) {i : Nat} (hi : i < m) {v : Value} (hv : v = xs i) {w' : World} (hb : Below w.heap.size w w') (hS : S w') : Lets S N m k xs ys (updR l i true) (updR vs i v) w' where
  s := hS
  n := Nat.le_trans J.n hb.size
  v := fun j hj hl => by
    by_cases e : j = i
    · subst e; rw [updR_same]; exact hv
    · rw [updR_ne _ _ e] at hl ⊢; exact J.v j hj hl
  p := fun j hj hl => by
    rw [updR_ne _ _ (by omega)] at hl ⊢
    obtain ⟨b, h1, h2, h3, h4⟩ := J.p j hj hl
    exact ⟨b, h1, h2, Nat.lt_of_lt_of_le h3 hb.size, h4.below h3 hb⟩
  d := fun a c ha hc hac hla hlc => by
    rw [updR_ne _ _ (by omega)] at hla hlc ⊢
    rw [updR_ne _ _ (by omega)]
    exact J.d a c ha hc hac hla hlc
  h := fun j hj hl => by
    rw [updR_ne _ _ (by omega)] at hl ⊢
    obtain ⟨h1, h2⟩ := J.h j hj hl
    refine ⟨h1, fun b hb' => ?_⟩
    rw [updR_ne _ _ (by omega)] at hb'
    exact (h2 b hb').below hb

theorem Lets.made (J : Lets S N m k xs ys l vs w) {i : Nat} (hi : i < k) (hl : l (m + i) = false) {z0 z1 z2 : Value} {T : TypeId} (hS : S (w.alloc (.cells #[z0, z1, z2] T))) :
    Lets S N m k xs ys (updR l (m + i) true) (updR vs (m + i) (.pointer (some ⟨w.heap.size, 0, none⟩))) (w.alloc (.cells #[z0, z1, z2] T)) := by
  have hb : Below w.heap.size w (w.alloc (.cells #[z0, z1, z2] T)) := (Below.refl _ _).alloc (Nat.le_refl _) _
  refine ⟨hS, Nat.le_trans J.n hb.size, fun j hj hl' => ?_, fun j hj hl' => ?_, fun a c ha hc hac hla hlc => ?_, fun j hj hl' => ?_⟩
  · rw [updR_ne _ _ (by omega)] at hl' ⊢; exact J.v j hj hl'
  · by_cases e : j = i
    · subst e
      rw [updR_same]
      refine ⟨w.heap.size, rfl, J.n, by simp, fun o ho => ?_⟩
      match o, ho with
      | 0, _ => exact ⟨by simp, by simp⟩
      | 1, _ => exact ⟨by simp, by simp⟩
      | 2, _ => exact ⟨by simp, by simp⟩
    · rw [updR_ne _ _ (by omega)] at hl' ⊢
      obtain ⟨b, h1, h2, h3, h4⟩ := J.p j hj hl'
      exact ⟨b, h1, h2, Nat.lt_of_lt_of_le h3 hb.size, h4.below h3 hb⟩
  · have far : ∀ j, j < k → l (m + j) = true → vs (m + j) ≠ .pointer (some ⟨w.heap.size, 0, none⟩) := fun j hj h e => by
      obtain ⟨b, h1, _, h3, _⟩ := J.p j hj h
      rw [h1] at e
      have e' : b = w.heap.size := congrArg (fun x => match x with | Value.pointer (some a) => a.block | _ => 0) e
      omega
    by_cases ea : a = i
    · subst ea
      rw [updR_same, updR_ne _ _ (by omega)]
      rw [updR_ne _ _ (by omega)] at hlc
      exact fun e => far c hc hlc e.symm
    · rw [updR_ne _ _ (by omega)] at hla
      rw [updR_ne vs _ (j := m + a) (by omega)]
      by_cases ec : c = i
      · subst ec; rw [updR_same]; exact far a ha hla
      · rw [updR_ne _ _ (by omega)] at hlc ⊢; exact J.d a c ha hc hac hla hlc
  · rw [updR_ne _ _ (by omega)] at hl'
    obtain ⟨h1, h2⟩ := J.h j hj hl'
    have ej : j ≠ i := fun e => by subst e; rw [hl] at h1; cases h1
    rw [updR_ne _ _ (by omega)]
    refine ⟨h1, fun b hb' => ?_⟩
    rw [updR_ne _ _ (by omega)] at hb'
    exact (h2 b hb').below hb

theorem Lets.stored (J : Lets S N m k xs ys l vs w) {i : Nat} (hi : i < k) (hl : l (m + i) = true) {b : Nat} (hv : vs (m + i) = .pointer (some ⟨b, 0, none⟩)) (hS : S (store3 w b (ys i))) (u : Value) :
    Lets S N m k xs ys (updR l (m + k + i) true) (updR vs (m + k + i) u) (store3 w b (ys i)) := by
  refine ⟨hS, by rw [store3_size]; exact J.n, fun j hj hl' => ?_, fun j hj hl' => ?_, fun a c ha hc hac hla hlc => ?_, fun j hj hl' => ?_⟩
  · rw [updR_ne _ _ (by omega)] at hl' ⊢; exact J.v j hj hl'
  · rw [updR_ne _ _ (by omega)] at hl' ⊢
    obtain ⟨c, h1, h2, h3, h4⟩ := J.p j hj hl'
    exact ⟨c, h1, h2, by rw [store3_size]; exact h3, h4.store⟩
  · rw [updR_ne _ _ (by omega)] at hla hlc ⊢
    rw [updR_ne _ _ (by omega)]
    exact J.d a c ha hc hac hla hlc
  · by_cases e : j = i
    · subst e
      rw [updR_ne _ _ (by omega)]
      refine ⟨hl, fun c hc => ?_⟩
      rw [updR_ne _ _ (by omega), hv] at hc
      simp at hc
      subst hc
      obtain ⟨c, h1, _, _, h4⟩ := J.p j hj hl
      rw [hv] at h1
      simp at h1
      subst h1
      exact At3.store h4
    · rw [updR_ne _ _ (by omega)] at hl' ⊢
      obtain ⟨h1, h2⟩ := J.h j hj hl'
      refine ⟨h1, fun c hc => ?_⟩
      rw [updR_ne _ _ (by omega)] at hc
      refine (h2 c hc).store_other fun ebc => ?_
      subst ebc
      exact J.d i j hi hj (Ne.symm e) hl h1 (by rw [hv, hc])

end Go.Proofs.Ytcgkbpjfbahleaa
