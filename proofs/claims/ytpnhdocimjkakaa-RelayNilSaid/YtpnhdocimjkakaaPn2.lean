/- The post of a law: true, and only new memory was made. -/
import Derived.Test.YtpnhdocimjkakaaPn0
import Derived.Test.YtpnhdocimjkakaaRows
import Derived.Test.YtpnhdocimjkakaaProg
import Derived.Shelf.Small.Bits
namespace Go.Proofs.Ytpnhdocimjkakaa
open Go.RowKit

theorem cellO {X : World} {p q : Addr} {u v : Value} (hne : p ≠ q) (h : X.cell? q = some v) : (X.setCell p u).cell? q = some v := by
  rw [World.cell?_setCell_other]
  · exact h
  · exact hne
theorem cellS {X : World} {p : Addr} {u : Value} (h : (X.cell? p).isSome = true) : (X.setCell p u).cell? p = some u := by
  obtain ⟨v, hv⟩ := Option.isSome_iff_exists.1 h
  exact World.cell?_setCell_same (w := X) (a := p) (v := u) hv
theorem isOf {X : World} {p : Addr} {v : Value} (h : X.cell? p = some v) : (X.cell? p).isSome = true := by rw [h]; rfl
theorem isS {X : World} {p q : Addr} {u : Value} (h : (X.cell? q).isSome = true) : ((X.setCell p u).cell? q).isSome = true := by
  by_cases e : p = q
  · subst e; rw [cellS h]; rfl
  · rw [World.cell?_setCell_other]
    · exact h
    · exact e
theorem frS {X : World} {p q : Addr} {u : Value} (h : X.frozen? q = false) : (X.setCell p u).frozen? q = false := by simpa using h

def AllL (l : Nat → Bool) : List Nat → Prop
  | [] => True
  | j :: js => l j = true ∧ AllL l js
theorem AllL.mk {l : Nat → Bool} : ∀ {js : List Nat}, (∀ j ∈ js, l j = true) → AllL l js
  | [], _ => trivial
  | j :: _, h => ⟨h j (by simp), AllL.mk fun k hk => h k (by simp [hk])⟩
theorem region_invA {P : Program} {Q : Exit → Act → World → Prop} {ops : Array Oper} {id : Nat} {a0 : Act} {w0 : World} (J : (Nat → Bool) → (Nat → Value) → World → Prop)
    (F : (Nat → Value) → Act) (hF : ∀ vs, F vs = putAll vs 0 ops.toList a0) (hm : P.follows .mixedOrders = true) (hf : fitsR ops = true)
    (hQ : ∀ c (x y : Act) w, x.defers = y.defers → Q (.panic c) x w → Q (.panic c) y w)
    (h0 : J (fun _ => false) (fun _ => undef) w0.drew)
    (hstep : AllOps (fun i o => ∀ l vs w, J l vs w → l i = false → AllL l (depsOf o) →
      ∀ K : Act → World → Prop, (∀ v w', J (updR l i true) (updR vs i v) w' → K ((F vs).put o.dst v) w') →
        if Region.wanted o (yielded ops (F vs).tmps) = true then Oper.wp P o (F vs) w K Q else K ((F vs).put o.dst undef) w) 0 ops.toList)
    (hend : ∀ l vs w, (∀ i, i < ops.size → l i = true) → J l vs w → Q .normal (F vs) w) :
    (Code.region id ops true).wp P Q a0 w0 := by
  refine region_inv hm hf F hF hQ J h0 (fun i o ho l vs w hJ hl hall => ?_) hend
  have ho' : ops.toList[i]? = some o := by rw [Array.getElem?_toList]; exact ho
  have go := hstep.get ho'
  rw [Nat.zero_add] at go
  refine go l vs w hJ hl (AllL.mk fun j hj => ?_)
  simp only [depsOf, List.mem_filterMap, Array.mem_toList_iff] at hj
  obtain ⟨e, he, hej⟩ := hj
  split at hej
  · rename_i hb; cases hej; exact hall e he hb
  · cases hej

/-- A block with room for a stamp; a block that holds one. -/
def Room3 (w : World) (b : Nat) : Prop := ∀ o, o < 3 → (w.cell? ⟨b, o, none⟩).isSome = true ∧ w.frozen? ⟨b, o, none⟩ = false
def At3 (w : World) (b : Nat) (y : Int × Int × Int) : Prop := w.cell? ⟨b, 0, none⟩ = some (.int .i64 y.1) ∧ w.cell? ⟨b, 1, none⟩ = some (.int .u32 y.2.1) ∧ w.cell? ⟨b, 2, none⟩ = some (.int .u32 y.2.2)
theorem At3.below {w w' : World} {b : Nat} {y : Int × Int × Int} (h : At3 w b y) (hb : Below w.heap.size w w') : At3 w' b y := ⟨kept hb h.1, kept hb h.2.1, kept hb h.2.2⟩
theorem Room3.below {w w' : World} {b : Nat} (h : Room3 w b) (hl : b < w.heap.size) (hb : Below w.heap.size w w') : Room3 w' b := fun o ho => by
  obtain ⟨h1, h2⟩ := h o ho
  rw [hb.cell (p := ⟨b, o, none⟩) hl, hb.frozen (p := ⟨b, o, none⟩) hl]
  exact ⟨h1, h2⟩

def store3 (w : World) (b : Nat) (y : Int × Int × Int) : World := ((w.setCell ⟨b, 0, none⟩ (.int .i64 y.1)).setCell ⟨b, 1, none⟩ (.int .u32 y.2.1)).setCell ⟨b, 2, none⟩ (.int .u32 y.2.2)
theorem Room3.store {w : World} {b c : Nat} {y : Int × Int × Int} (h : Room3 w b) : Room3 (store3 w c y) b := fun o ho => by
  obtain ⟨h1, h2⟩ := h o ho
  exact ⟨isS (isS (isS h1)), frS (frS (frS h2))⟩
theorem At3.store {w : World} {b : Nat} {y : Int × Int × Int} (h : Room3 w b) : At3 (store3 w b y) b y :=
  ⟨cellO (by simp) (cellO (by simp) (cellS (h 0 (by omega)).1)), cellO (by simp) (cellS (isS (h 1 (by omega)).1)), cellS (isS (isS (h 2 (by omega)).1))⟩
theorem At3.store_other {w : World} {b c : Nat} {y z : Int × Int × Int} (h : At3 w b y) (hne : c ≠ b) : At3 (store3 w c z) b y := by
  have ne : ∀ i j : Nat, (⟨c, i, none⟩ : Addr) ≠ ⟨b, j, none⟩ := fun i j e => hne (congrArg Addr.block e)
  exact ⟨cellO (ne _ _) (cellO (ne _ _) (cellO (ne _ _) h.1)), cellO (ne _ _) (cellO (ne _ _) (cellO (ne _ _) h.2.1)), cellO (ne _ _) (cellO (ne _ _) (cellO (ne _ _) h.2.2))⟩
theorem store3_size (w : World) (b : Nat) (y : Int × Int × Int) : (store3 w b y).heap.size = w.heap.size := by simp [store3]

/-- m values, k variables that are made, k stores into them: what holds of those that have come up. -/
structure Lets (S : World → Prop) (N m k : Nat) (xs : Nat → Value) (ys : Nat → Int × Int × Int) (l : Nat → Bool) (vs : Nat → Value) (w : World) : Prop where
  s : S w
  n : N ≤ w.heap.size
  v : ∀ j, j < m → l j = true → vs j = xs j
  p : ∀ i, i < k → l (m + i) = true → ∃ b, vs (m + i) = .pointer (some ⟨b, 0, none⟩) ∧ N ≤ b ∧ b < w.heap.size ∧ Room3 w b
  d : ∀ i j, i < k → j < k → i ≠ j → l (m + i) = true → l (m + j) = true → vs (m + i) ≠ vs (m + j)
  h : ∀ i, i < k → l (m + k + i) = true → l (m + i) = true ∧ ∀ b, vs (m + i) = .pointer (some ⟨b, 0, none⟩) → At3 w b (ys i)

variable {S : World → Prop} {N m k : Nat} {xs : Nat → Value} {ys : Nat → Int × Int × Int} {l : Nat → Bool} {vs : Nat → Value} {w : World}

theorem Lets.value (J : Lets S N m k xs ys l vs w) {i : Nat} (hi : i < m) {v : Value} (hv : v = xs i) {w' : World} (hb : Below w.heap.size w w') (hS : S w') : Lets S N m k xs ys (updR l i true) (updR vs i v) w' where
  s := hS
  n := Nat.le_trans J.n hb.size
  v := fun j hj hl => by
    by_cases e : j = i
    · subst e; rw [updR_same]; exact hv
    · rw [updR_ne _ _ e] at hl ⊢; exact J.v j hj hl
  p := fun j hj hl => by
    rw [updR_ne _ _ (by omega)] at hl ⊢
    obtain ⟨b, h1, h2, h3, h4⟩ := J.p j hj hl
    exact ⟨b, h1, h2, Nat.lt_of_lt_of_le h3 hb.size, h4.below h3 hb⟩
  d := fun a c ha hc hac hla hlc => by
    rw [updR_ne _ _ (by omega)] at hla hlc ⊢
    rw [updR_ne _ _ (by omega)]
    exact J.d a c ha hc hac hla hlc
  h := fun j hj hl => by
    rw [updR_ne _ _ (by omega)] at hl ⊢
    obtain ⟨h1, h2⟩ := J.h j hj hl
    refine ⟨h1, fun b hb' => ?_⟩
    rw [updR_ne _ _ (by omega)] at hb'
    exact (h2 b hb').below hb

theorem Lets.made (J : Lets S N m k xs ys l vs w) {i : Nat} (hi : i < k) (hl : l (m + i) = false) {z0 z1 z2 : Value} {T : TypeId} (hS : S (w.alloc (.cells #[z0, z1, z2] T))) :
    Lets S N m k xs ys (updR l (m + i) true) (updR vs (m + i) (.pointer (some ⟨w.heap.size, 0, none⟩))) (w.alloc (.cells #[z0, z1, z2] T)) := by
  have hb : Below w.heap.size w (w.alloc (.cells #[z0, z1, z2] T)) := (Below.refl _ _).alloc (Nat.le_refl _) _
  refine ⟨hS, Nat.le_trans J.n hb.size, fun j hj hl' => ?_, fun j hj hl' => ?_, fun a c ha hc hac hla hlc => ?_, fun j hj hl' => ?_⟩
  · rw [updR_ne _ _ (by omega)] at hl' ⊢; exact J.v j hj hl'
  · by_cases e : j = i
    · subst e
      rw [updR_same]
      refine ⟨w.heap.size, rfl, J.n, by simp, fun o ho => ?_⟩
      match o, ho with
      | 0, _ => exact ⟨by simp, by simp⟩
      | 1, _ => exact ⟨by simp, by simp⟩
      | 2, _ => exact ⟨by simp, by simp⟩
    · rw [updR_ne _ _ (by omega)] at hl' ⊢
      obtain ⟨b, h1, h2, h3, h4⟩ := J.p j hj hl'
      exact ⟨b, h1, h2, Nat.lt_of_lt_of_le h3 hb.size, h4.below h3 hb⟩
  · have far : ∀ j, j < k → l (m + j) = true → vs (m + j) ≠ .pointer (some ⟨w.heap.size, 0, none⟩) := fun j hj h e => by
      obtain ⟨b, h1, _, h3, _⟩ := J.p j hj h
      rw [h1] at e
      have e' : b = w.heap.size := congrArg (fun x => match x with | Value.pointer (some a) => a.block | _ => 0) e
      omega
    by_cases ea : a = i
    · subst ea
      rw [updR_same, updR_ne _ _ (by omega)]
      rw [updR_ne _ _ (by omega)] at hlc
      exact fun e => far c hc hlc e.symm
    · rw [updR_ne _ _ (by omega)] at hla
      rw [updR_ne vs _ (j := m + a) (by omega)]
      by_cases ec : c = i
      · subst ec; rw [updR_same]; exact far a ha hla
      · rw [updR_ne _ _ (by omega)] at hlc ⊢; exact J.d a c ha hc hac hla hlc
  · rw [updR_ne _ _ (by omega)] at hl'
    obtain ⟨h1, h2⟩ := J.h j hj hl'
    have ej : j ≠ i := fun e => by subst e; rw [hl] at h1; cases h1
    rw [updR_ne _ _ (by omega)]
    refine ⟨h1, fun b hb' => ?_⟩
    rw [updR_ne _ _ (by omega)] at hb'
    exact (h2 b hb').below hb

theorem Lets.stored (J : Lets S N m k xs ys l vs w) {i : Nat} (hi : i < k) (hl : l (m + i) = true) {b : Nat} (hv : vs (m + i) = .pointer (some ⟨b, 0, none⟩)) (hS : S (store3 w b (ys i))) (u : Value) :
    Lets S N m k xs ys (updR l (m + k + i) true) (updR vs (m + k + i) u) (store3 w b (ys i)) := by
  refine ⟨hS, by rw [store3_size]; exact J.n, fun j hj hl' => ?_, fun j hj hl' => ?_, fun a c ha hc hac hla hlc => ?_, fun j hj hl' => ?_⟩
  · rw [updR_ne _ _ (by omega)] at hl' ⊢; exact J.v j hj hl'
  · rw [updR_ne _ _ (by omega)] at hl' ⊢
    obtain ⟨c, h1, h2, h3, h4⟩ := J.p j hj hl'
    exact ⟨c, h1, h2, by rw [store3_size]; exact h3, h4.store⟩
  · rw [updR_ne _ _ (by omega)] at hla hlc ⊢
    rw [updR_ne _ _ (by omega)]
    exact J.d a c ha hc hac hla hlc
  · by_cases e : j = i
    · subst e
      rw [updR_ne _ _ (by omega)]
      refine ⟨hl, fun c hc => ?_⟩
      rw [updR_ne _ _ (by omega), hv] at hc
      simp at hc
      subst hc
      obtain ⟨c, h1, _, _, h4⟩ := J.p j hj hl
      rw [hv] at h1
      simp at h1
      subst h1
      exact At3.store h4
    · rw [updR_ne _ _ (by omega)] at hl' ⊢
      obtain ⟨h1, h2⟩ := J.h j hj hl'
      refine ⟨h1, fun c hc => ?_⟩
      rw [updR_ne _ _ (by omega)] at hc
      refine (h2 c hc).store_other fun ebc => ?_
      subst ebc
      exact J.d i j hi hj (Ne.symm e) hl h1 (by rw [hv, hc])

end Go.Proofs.Ytpnhdocimjkakaa
namespace Go.Proofs.Ytpnhdocimjkakaa
open Go.RowKit

theorem block_of_add (a : Addr) (n : Nat) : (a.add n).block = a.block := by unfold Addr.add; split <;> rfl
theorem add_of_add (a : Addr) (i j : Nat) : (a.add i).add j = a.add (i + j) := by
  unfold Addr.add
  by_cases hi : i = 0 <;> by_cases hj : j = 0 <;> simp [hi, hj, Nat.add_assoc]

/-- The slice with address A, length n and capacity cap reads as the bytes l, in memory below block K. -/
structure Bs (w : World) (K : Nat) (A : Option Addr) (cap : Nat) (l : List UInt8) : Prop where
  le : l.length ≤ cap
  max : cap ≤ maxLen
  nil : A = none → cap = 0
  at_ : 0 < l.length → ∃ ad : Addr, A = some ad ∧ ad.block < K ∧ ∀ k c, l[k]? = some c → w.cell? (ad.add k) = some (.int .u8 (c.toNat : Int))

section
variable {w w' : World} {K K' cap : Nat} {A : Option Addr} {l : List UInt8}
theorem Bs.get (h : Bs w K A cap l) {k : Nat} (hk : k < l.length) : ∃ ad : Addr, A = some ad ∧ ad.block < K ∧ w.cell? (ad.add k) = some (.int .u8 (l[k].toNat : Int)) := by
  obtain ⟨ad, e, hb, hc⟩ := h.at_ (by omega)
  exact ⟨ad, e, hb, hc k _ (List.getElem?_eq_getElem hk)⟩
theorem Bs.keep (h : Bs w K A cap l) (hk : ∀ p : Addr, p.block < K → w'.cell? p = w.cell? p) : Bs w' K A cap l :=
  ⟨h.le, h.max, h.nil, fun hn => by
    obtain ⟨ad, e, hb, hc⟩ := h.at_ hn
    exact ⟨ad, e, hb, fun j u hu => (hk _ (by rw [block_of_add]; exact hb)).trans (hc j u hu)⟩⟩
theorem Bs.cut (h : Bs w K A cap l) {i j : Nat} (hij : i ≤ j) (hj : j ≤ l.length) : Bs w K (if cap = i then A else A.map (·.add i)) (cap - i) ((l.drop i).take (j - i)) := by
  have hle := h.le
  have hmax := h.max
  have hlen : ((l.drop i).take (j - i)).length = j - i := by simp; omega
  refine ⟨by rw [hlen]; omega, by omega, fun hn => ?_, fun hn => ?_⟩
  · by_cases e : cap = i
    · omega
    · rw [if_neg e] at hn
      have : A = none := by cases A <;> simp_all
      have := h.nil this
      omega
  · rw [hlen] at hn
    obtain ⟨ad, rfl, hb, hc⟩ := h.at_ (by omega)
    rw [if_neg (by omega)]
    refine ⟨_, rfl, by rw [block_of_add]; exact hb, fun k c hk => ?_⟩
    rw [add_of_add]
    refine hc _ c ?_
    rw [List.getElem?_take] at hk
    split at hk
    · rwa [List.getElem?_drop] at hk
    · cases hk
theorem Bs.some_ (h : Bs w K A cap l) (hl : 0 < l.length) : ∃ ad : Addr, A = some ad ∧ ad.block < K := by
  obtain ⟨ad, e, hb, _⟩ := h.at_ hl
  exact ⟨ad, e, hb⟩
theorem Bs.cutS {ad : Addr} (h : Bs w K (some ad) cap l) {i j : Nat} (hi : 0 < i) (hij : i ≤ j) (hj : j ≤ l.length) (hc : i < cap) : Bs w K (some ⟨ad.block, ad.off + i, none⟩) (cap - i) ((l.drop i).take (j - i)) := by
  have := h.cut hij hj
  rw [if_neg (by omega)] at this
  have e : ad.add i = ⟨ad.block, ad.off + i, none⟩ := by unfold Addr.add; rw [if_neg (by omega)]
  rwa [Option.map_some, e] at this
theorem Bs.c {ad : Addr} (h : Bs w K (some ad) cap l) (i : Nat) (hi : 0 < i) (hil : i < l.length) : w.cell? ⟨ad.block, ad.off + i, none⟩ = some (.int .u8 ((l.getD i 0).toNat : Int)) := by
  obtain ⟨ad', e, _, hc⟩ := h.get hil
  cases e
  have e : ad.add i = ⟨ad.block, ad.off + i, none⟩ := by unfold Addr.add; rw [if_neg (by omega)]
  rw [e] at hc
  rw [hc]; simp [hil]
theorem Bs.c0 {ad : Addr} (h : Bs w K (some ad) cap l) (hil : 0 < l.length) : w.cell? ad = some (.int .u8 ((l.getD 0 0).toNat : Int)) := by
  obtain ⟨ad', e, _, hc⟩ := h.get hil
  cases e
  have e : ad.add 0 = ad := by unfold Addr.add; rw [if_pos rfl]
  rw [e] at hc
  rw [hc]; simp [hil]
theorem Bs.drew (h : Bs w K A cap l) : Bs w.drew K A cap l := ⟨h.le, h.max, h.nil, h.at_⟩
theorem Bs.drewN (h : Bs w K A cap l) (n : Nat) : Bs (w.drewN n) K A cap l := ⟨h.le, h.max, h.nil, h.at_⟩
theorem Bs.more (h : Bs w K A cap l) (hB : K ≤ K') : Bs w K' A cap l :=
  ⟨h.le, h.max, h.nil, fun hn => by
    obtain ⟨ad, e, hb, hc⟩ := h.at_ hn
    exact ⟨ad, e, by omega, hc⟩⟩
theorem Bs.alloc (h : Bs w K A cap l) (hK : K ≤ w.heap.size) (o : Obj) : Bs (w.alloc o) K A cap l := h.keep fun _ hp => World.cell?_alloc_lt _ _ _ (by omega)
theorem Bs.below (h : Bs w K A cap l) (hb : Below K w w') : Bs w' K A cap l := h.keep fun _ hp => hb.cell hp
end

end Go.Proofs.Ytpnhdocimjkakaa
namespace Go.Proofs.Ytpnhdocimjkakaa
open Go.RowKit
open Go.Shelf
def sh_lays129_ren : Go.Shelf.Ren := ⟨fun | 129 => 135 | n => n, fun | 53 => 155 | 3 => 3 | 4 => 4 | 46 => 88 | 5 => 5 | 9 => 9 | n => n, fun | n => n⟩
theorem sh_lays129 : Go.Proofs.Lays.n129 Try.prog sh_lays129_ren := {
  mixed := by kernel_rfl
  f129 := Try.func135.trans (congrArg some (by kernel_rfl))
  t3 := Try.underlying3
  a3 := Try.isAgg3
  z3 := Try.sizeOf3
  v3 := Try.zeroValue3
  t4 := Try.underlying4
  a4 := Try.isAgg4
  z4 := Try.sizeOf4
  v4 := Try.zeroValue4
  t5 := Try.underlying5
  a5 := Try.isAgg5
  z5 := Try.sizeOf5
  v5 := Try.zeroValue5
  t9 := Try.underlying9
  a9 := Try.isAgg9
  z9 := Try.sizeOf9
  v9 := Try.zeroValue9
  t46 := Try.underlying88
  a46 := Try.isAgg88
  z46 := Try.sizeOf88
  v46 := Try.zeroValue88
  t53 := Try.underlying155
  a53 := Try.isAgg155
  z53 := Try.sizeOf155
  v53 := Try.zeroValue155 }

theorem len64_any (x : Nat) (w : World) (h1 : x ≤ 18446744073709551615) :
    Calls Try.prog 135 #[.int .u64 (x : Int)] w fun e w' => e = .returned (.int .i64 (Lib.bitLen x)) ∧ w = w' := (Any.bits_Len64 sh_lays129 x w (by omega) (by omega)).mono fun _ _ h => ⟨h.1, h.2.symm⟩
end Go.Proofs.Ytpnhdocimjkakaa
namespace Go.Proofs.Ytpnhdocimjkakaa

def ofBE (l : List UInt8) : Nat := l.foldl (fun n b => n * 256 + b.toNat) 0
theorem ofBE_snoc (l : List UInt8) (b : UInt8) : ofBE (l ++ [b]) = ofBE l * 256 + b.toNat := by simp [ofBE]
theorem ofBE_go : ∀ (l : List UInt8) (n m : Nat), n < 256 ^ m → l.foldl (fun n b => n * 256 + b.toNat) n < 256 ^ (m + l.length)
  | [], _, _, h => h
  | b :: l, n, m, h => by
    have hb := b.toNat_lt
    have := ofBE_go l (n * 256 + b.toNat) (m + 1) (by rw [Nat.pow_succ]; omega)
    rw [show m + 1 + l.length = m + (b :: l).length by simp; omega] at this
    exact this
theorem ofBE_lt (l : List UInt8) : ofBE l < 256 ^ l.length := by
  have := ofBE_go l 0 0 (by decide)
  rwa [Nat.zero_add] at this
/-- j bytes from o on. -/
def cutN (l : List UInt8) (o j : Nat) : Nat := ofBE ((l.drop o).take j)
theorem cutN_zero (l : List UInt8) (o : Nat) : cutN l o 0 = 0 := by simp [cutN, ofBE]
theorem cutN_succ {l : List UInt8} {o j : Nat} (h : o + j < l.length) : cutN l o (j + 1) = cutN l o j * 256 + (l[o + j]).toNat := by
  have hd : j < (l.drop o).length := by simp; omega
  unfold cutN
  rw [List.take_succ_eq_append_getElem hd, ofBE_snoc]
  simp
theorem cutN_lt (l : List UInt8) (o j : Nat) : cutN l o j < 256 ^ j := by
  have := ofBE_lt ((l.drop o).take j)
  have h2 : ((l.drop o).take j).length ≤ j := List.length_take_le _ _
  exact Nat.lt_of_lt_of_le this (Nat.pow_le_pow_right (by omega) h2)
def getA (l : List UInt8) : Nat := cutN l 0 8
def getT (l : List UInt8) : Nat := cutN l 8 4
def getM (l : List UInt8) : Nat := cutN l 12 4
theorem getA_lt (l : List UInt8) : getA l < 18446744073709551616 := cutN_lt l 0 8
theorem getT_lt (l : List UInt8) : getT l < 4294967296 := cutN_lt l 8 4
theorem getM_lt (l : List UInt8) : getM l < 4294967296 := cutN_lt l 12 4
/-- Wall, Tick, Mark, error. -/
def getB (l : List UInt8) : Int × Int × Int × Int :=
  if l.length ≠ 16 then (0, 0, 0, 9) else if 4611686018427387904 < getA l then (0, 0, 0, 10) else ((getA l : Int), (getT l : Int), (getM l : Int), 0)
theorem getB_short {l : List UInt8} (h : l.length ≠ 16) : getB l = (0, 0, 0, 9) := by simp [getB, h]
theorem getB_form {l : List UInt8} (h : l.length = 16) (ha : 4611686018427387904 < getA l) : getB l = (0, 0, 0, 10) := by simp [getB, h, ha]
theorem getB_ok {l : List UInt8} (h : l.length = 16) (ha : getA l ≤ 4611686018427387904) : getB l = ((getA l : Int), (getT l : Int), (getM l : Int), 0) := by
  unfold getB; rw [if_neg (by omega), if_neg (by omega)]
end Go.Proofs.Ytpnhdocimjkakaa
namespace Go.Proofs.Ytpnhdocimjkakaa
open Go.RowKit

def Ok0 (w : World) (e : Ending) (w' : World) : Prop := e = .returned (.bool true) ∧ Below w.heap.size w w'
end Go.Proofs.Ytpnhdocimjkakaa
