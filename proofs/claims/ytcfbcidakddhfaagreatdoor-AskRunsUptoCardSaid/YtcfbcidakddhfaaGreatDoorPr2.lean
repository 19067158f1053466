/- The post of a law: true, and only new memory was made. -/
import Derived.Test.YtcfbcidakddhfaaGreatDoorPr1
import Derived.Shelf.Strings.Builder1
import Derived.Test.YtcfbcidakddhfaaGreatDoorProg
namespace Go.Proofs.YtcfbcidakddhfaaGreatDoor
open Go.RowKit

theorem cellO {X : World} {p q : Addr} {u v : Value} (hne : p ≠ q) (h : X.cell? q = some v) : (X.setCell p u).cell? q = some v := by
  rw [World.cell?_setCell_other]
  · exact h
  · exact hne
theorem cellS {X : World} {p : Addr} {u : Value} (h : (X.cell? p).isSome = true) : (X.setCell p u).cell? p = some u := by
  obtain ⟨v, hv⟩ := Option.isSome_iff_exists.1 h
  exact World.cell?_setCell_same (w := X) (a := p) (v := u) hv
theorem isOf {X : World} {p : Addr} {v : Value} (h : X.cell? p = some v) : (X.cell? p).isSome = true := by rw [h]; rfl
theorem isS {X : World} {p q : Addr} {u : Value} (h : (X.cell? q).isSome = true) : ((X.setCell p u).cell? q).isSome = true := by
  by_cases e : p = q
  · subst e; rw [cellS h]; rfl
  · rw [World.cell?_setCell_other]
    · exact h
    · exact e
theorem frS {X : World} {p q : Addr} {u : Value} (h : X.frozen? q = false) : (X.setCell p u).frozen? q = false := by simpa using h

def AllL (l : Nat → Bool) : List Nat → Prop
  | [] => True
  | j :: js => l j = true ∧ AllL l js
theorem AllL.mk {l : Nat → Bool} : ∀ {js : List Nat}, (∀ j ∈ js, l j = true) → AllL l js
  | [], _ => trivial
  | j :: _, h => ⟨h j (by simp), AllL.mk fun k hk => h k (by simp [hk])⟩
theorem region_invA {P : Program} {Q : Exit → Act → World → Prop} {ops : Array Oper} {id : Nat} {a0 : Act} {w0 : World} (J : (Nat → Bool) → (Nat → Value) → World → Prop)
    (F : (Nat → Value) → Act) (hF : ∀ vs, F vs = putAll vs 0 ops.toList a0) (hm : P.follows .mixedOrders = true) (hf : fitsR ops = true)
    (hQ : ∀ c (x y : Act) w, x.defers = y.defers → Q (.panic c) x w → Q (.panic c) y w)
    (h0 : J (fun _ => false) (fun _ => undef) w0.drew)
    (hstep : AllOps (fun i o => ∀ l vs w, J l vs w → l i = false → AllL l (depsOf o) →
      ∀ K : Act → World → Prop, (∀ v w', J (updR l i true) (updR vs i v) w' → K ((F vs).put o.dst v) w') →
        if Region.wanted o (yielded ops (F vs).tmps) = true then Oper.wp P o (F vs) w K Q else K ((F vs).put o.dst undef) w) 0 ops.toList)
    (hend : ∀ l vs w, (∀ i, i < ops.size → l i = true) → J l vs w → Q .normal (F vs) w) :
    (Code.region id ops true).wp P Q a0 w0 := by
  refine region_inv hm hf F hF hQ J h0 (fun i o ho l vs w hJ hl hall => ?_) hend
  have ho' : ops.toList[i]? = some o := by rw [Array.getElem?_toList]; exact ho
  have go := hstep.get ho'
  rw [Nat.zero_add] at go
  refine go l vs w hJ hl (AllL.mk fun j hj => ?_)
  simp only [depsOf, List.mem_filterMap, Array.mem_toList_iff] at hj
  obtain ⟨e, he, hej⟩ := hj
  split at hej
  · rename_i hb; cases hej; exact hall e he hb
  · cases hej

/-- A block with room for a stamp; a block that holds one. -/
def Room3 (w : World) (b : Nat) : Prop := ∀ o, o < 3 → (w.cell? ⟨b, o, none⟩).isSome = true ∧ w.frozen? ⟨b, o, none⟩ = false
def At3 (w : World) (b : Nat) (y : Int × Int × Int) : Prop := w.cell? ⟨b, 0, none⟩ = some (.int .i64 y.1) ∧ w.cell? ⟨b, 1, none⟩ = some (.int .u32 y.2.1) ∧ w.cell? ⟨b, 2, none⟩ = some (.int .u32 y.2.2)
theorem At3.below {w w' : World} {b : Nat} {y : Int × Int × Int} (h : At3 w b y) (hb : Below w.heap.size w w') : At3 w' b y := ⟨kept hb h.1, kept hb h.2.1, kept hb h.2.2⟩
theorem Room3.below {w w' : World} {b : Nat} (h : Room3 w b) (hl : b < w.heap.size) (hb : Below w.heap.size w w') : Room3 w' b := fun o ho => by
  obtain ⟨h1, h2⟩ := h o ho
  rw [hb.cell (p := ⟨b, o, none⟩) hl, hb.frozen (p := ⟨b, o, none⟩) hl]
  exact ⟨h1, h2⟩

def store3 (w : World) (b : Nat) (y : Int × Int × Int) : World := ((w.setCell ⟨b, 0, none⟩ (.int .i64 y.1)).setCell ⟨b, 1, none⟩ (.int .u32 y.2.1)).setCell ⟨b, 2, none⟩ (.int .u32 y.2.2)
theorem Room3.store {w : World} {b c : Nat} {y : Int × Int × Int} (h : Room3 w b) : Room3 (store3 w c y) b := fun o ho => by
  obtain ⟨h1, h2⟩ := h o ho
  exact ⟨isS (isS (isS h1)), frS (frS (frS h2))⟩
theorem At3.store {w : World} {b : Nat} {y : Int × Int × Int} (h : Room3 w b) : At3 (store3 w b y) b y :=
  ⟨cellO (by simp) (cellO (by simp) (cellS (h 0 (by omega)).1)), cellO (by simp) (cellS (isS (h 1 (by omega)).1)), cellS (isS (isS (h 2 (by omega)).1))⟩
theorem At3.store_other {w : World} {b c : Nat} {y z : Int × Int × Int} (h : At3 w b y) (hne : c ≠ b) : At3 (store3 w c z) b y := by
  have ne : ∀ i j : Nat, (⟨c, i, none⟩ : Addr) ≠ ⟨b, j, none⟩ := fun i j e => hne (congrArg Addr.block e)
  exact ⟨cellO (ne _ _) (cellO (ne _ _) (cellO (ne _ _) h.1)), cellO (ne _ _) (cellO (ne _ _) (cellO (ne _ _) h.2.1)), cellO (ne _ _) (cellO (ne _ _) (cellO (ne _ _) h.2.2))⟩
theorem store3_size (w : World) (b : Nat) (y : Int × Int × Int) : (store3 w b y).heap.size = w.heap.size := by simp [store3]

/-- m values, k variables that are made, k stores into them: what holds of those that have come up. -/
structure Lets (S : World → Prop) (N m k : Nat) (xs : Nat → Value) (ys : Nat → Int × Int × Int) (l : Nat → Bool) (vs : Nat → Value) (w : World) : Prop where
  s : S w
  n : N ≤ w.heap.size
  v : ∀ j, j < m → l j = true → vs j = xs j
  p : ∀ i, i < k → l (m + i) = true → ∃ b, vs (m + i) = .pointer (some ⟨b, 0, none⟩) ∧ N ≤ b ∧ b < w.heap.size ∧ Room3 w b
  d : ∀ i j, i < k → j < k → i ≠ j → l (m + i) = true → l (m + j) = true → vs (m + i) ≠ vs (m + j)
  h : ∀ i, i < k → l (m + k + i) = true → l (m + i) = true ∧ ∀ b, vs (m + i) = .pointer (some ⟨b, 0, none⟩) → At3 w b (ys i)

variable {S : World → Prop} {N m k : Nat} {xs : Nat → Value} {ys : Nat → Int × Int × Int} {l : Nat → Bool} {vs : Nat → Value} {w : World}

theorem Lets.value (J : Lets S N m k xs ys l vs w) {i : Nat} (hi : i < m) {v : Value} (hv : v = xs i) {w' : World} (hb : Below w.heap.size w w') (hS : S w') : Lets S N m k xs ys (updR l i true) (updR vs i v) w' where
  s := hS
  n := Nat.le_trans J.n hb.size
  v := fun j hj hl => by
    by_cases e : j = i
    · subst e; rw [updR_same]; exact hv
    · rw [updR_ne _ _ e] at hl ⊢; exact J.v j hj hl
  p := fun j hj hl => by
    rw [updR_ne _ _ (by omega)] at hl ⊢
    obtain ⟨b, h1, h2, h3, h4⟩ := J.p j hj hl
    exact ⟨b, h1, h2, Nat.lt_of_lt_of_le h3 hb.size, h4.below h3 hb⟩
  d := fun a c ha hc hac hla hlc => by
    rw [updR_ne _ _ (by omega)] at hla hlc ⊢
    rw [updR_ne _ _ (by omega)]
    exact J.d a c ha hc hac hla hlc
  h := fun j hj hl => by
    rw [updR_ne _ _ (by omega)] at hl ⊢
    obtain ⟨h1, h2⟩ := J.h j hj hl
    refine ⟨h1, fun b hb' => ?_⟩
    rw [updR_ne _ _ (by omega)] at hb'
    exact (h2 b hb').below hb

theorem Lets.made (J : Lets S N m k xs ys l vs w) {i : Nat} (hi : i < k) (hl : l (m + i) = false) {z0 z1 z2 : Value} {T : TypeId} (hS : S (w.alloc (.cells #[z0, z1, z2] T))) :
    Lets S N m k xs ys (updR l (m + i) true) (updR vs (m + i) (.pointer (some ⟨w.heap.size, 0, none⟩))) (w.alloc (.cells #[z0, z1, z2] T)) := by
  have hb : Below w.heap.size w (w.alloc (.cells #[z0, z1, z2] T)) := (Below.refl _ _).alloc (Nat.le_refl _) _
  refine ⟨hS, Nat.le_trans J.n hb.size, fun j hj hl' => ?_, fun j hj hl' => ?_, fun a c ha hc hac hla hlc => ?_, fun j hj hl' => ?_⟩
  · rw [updR_ne _ _ (by omega)] at hl' ⊢; exact J.v j hj hl'
  · by_cases e : j = i
    · subst e
      rw [updR_same]
      refine ⟨w.heap.size, rfl, J.n, by simp, fun o ho => ?_⟩
      match o, ho with
      | 0, _ => exact ⟨by simp, by simp⟩
      | 1, _ => exact ⟨by simp, by simp⟩
      | 2, _ => exact ⟨by simp, by simp⟩
    · rw [updR_ne _ _ (by omega)] at hl' ⊢
      obtain ⟨b, h1, h2, h3, h4⟩ := J.p j hj hl'
      exact ⟨b, h1, h2, Nat.lt_of_lt_of_le h3 hb.size, h4.below h3 hb⟩
  · have far : ∀ j, j < k → l (m + j) = true → vs (m + j) ≠ .pointer (some ⟨w.heap.size, 0, none⟩) := fun j hj h e => by
      obtain ⟨b, h1, _, h3, _⟩ := J.p j hj h
      rw [h1] at e
      have e' : b = w.heap.size := congrArg (fun x => match x with | Value.pointer (some a) => a.block | _ => 0) e
      omega
    by_cases ea : a = i
    · subst ea
      rw [updR_same, updR_ne _ _ (by omega)]
      rw [updR_ne _ _ (by omega)] at hlc
      exact fun e => far c hc hlc e.symm
    · rw [updR_ne _ _ (by omega)] at hla
      rw [updR_ne vs _ (j := m + a) (by omega)]
      by_cases ec : c = i
      · subst ec; rw [updR_same]; exact far a ha hla
      · rw [updR_ne _ _ (by omega)] at hlc ⊢; exact J.d a c ha hc hac hla hlc
  · rw [updR_ne _ _ (by omega)] at hl'
    obtain ⟨h1, h2⟩ := J.h j hj hl'
    have ej : j ≠ i := fun e => by subst e; rw [hl] at h1; cases h1
    rw [updR_ne _ _ (by omega)]
    refine ⟨h1, fun b hb' => ?_⟩
    rw [updR_ne _ _ (by omega)] at hb'
    exact (h2 b hb').below hb

theorem Lets.stored (J : Lets S N m k xs ys l vs w) {i : Nat} (hi : i < k) (hl : l (m + i) = true) {b : Nat} (hv : vs (m + i) = .pointer (some ⟨b, 0, none⟩)) (hS : S (store3 w b (ys i))) (u : Value) :
    Lets S N m k xs ys (updR l (m + k + i) true) (updR vs (m + k + i) u) (store3 w b (ys i)) := by
  refine ⟨hS, by rw [store3_size]; exact J.n, fun j hj hl' => ?_, fun j hj hl' => ?_, fun a c ha hc hac hla hlc => ?_, fun j hj hl' => ?_⟩
  · rw [updR_ne _ _ (by omega)] at hl' ⊢; exact J.v j hj hl'
  · rw [updR_ne _ _ (by omega)] at hl' ⊢
    obtain ⟨c, h1, h2, h3, h4⟩ := J.p j hj hl'
    exact ⟨c, h1, h2, by rw [store3_size]; exact h3, h4.store⟩
  · rw [updR_ne _ _ (by omega)] at hla hlc ⊢
    rw [updR_ne _ _ (by omega)]
    exact J.d a c ha hc hac hla hlc
  · by_cases e : j = i
    · subst e
      rw [updR_ne _ _ (by omega)]
      refine ⟨hl, fun c hc => ?_⟩
      rw [updR_ne _ _ (by omega), hv] at hc
      simp at hc
      subst hc
      obtain ⟨c, h1, _, _, h4⟩ := J.p j hj hl
      rw [hv] at h1
      simp at h1
      subst h1
      exact At3.store h4
    · rw [updR_ne _ _ (by omega)] at hl' ⊢
      obtain ⟨h1, h2⟩ := J.h j hj hl'
      refine ⟨h1, fun c hc => ?_⟩
      rw [updR_ne _ _ (by omega)] at hc
      refine (h2 c hc).store_other fun ebc => ?_
      subst ebc
      exact J.d i j hi hj (Ne.symm e) hl h1 (by rw [hv, hc])

end Go.Proofs.YtcfbcidakddhfaaGreatDoor
namespace Go.Proofs.YtcfbcidakddhfaaGreatDoor
open Go.Shelf Go.RowKit

def shbRen : Ren := ⟨fun | 167 => 102 | 169 => 101 | 240 => 116 | 276 => 127 | n => n, fun | 9 => 9 | 3 => 3 | 4 => 4 | 0 => 0 | 20 => 20 | 72 => 181 | 70 => 178 | 37 => 179 | 75 => 158 | 127 => 193 | 164 => 206 | 5 => 5 | 80 => 182 | n => n, fun | n => n⟩
theorem shb167 : Lays.n167 Tryz.prog shbRen := {
  mixed := by kernel_rfl
  f167 := Tryz.func102.trans (congrArg some (by kernel_rfl))
  f240 := Tryz.func116.trans (congrArg some (by kernel_rfl))
  f276 := Tryz.func127.trans (congrArg some (by kernel_rfl))
  t0 := Tryz.underlying0
  a0 := Tryz.isAgg0
  z0 := Tryz.sizeOf0
  v0 := Tryz.zeroValue0
  t4 := Tryz.underlying4
  a4 := Tryz.isAgg4
  z4 := Tryz.sizeOf4
  v4 := Tryz.zeroValue4
  t5 := Tryz.underlying5
  a5 := Tryz.isAgg5
  z5 := Tryz.sizeOf5
  v5 := Tryz.zeroValue5
  t9 := Tryz.underlying9
  a9 := Tryz.isAgg9
  z9 := Tryz.sizeOf9
  v9 := Tryz.zeroValue9
  t20 := Tryz.underlying20
  a20 := Tryz.isAgg20
  z20 := Tryz.sizeOf20
  v20 := Tryz.zeroValue20
  t37 := Tryz.underlying179
  a37 := Tryz.isAgg179
  z37 := Tryz.sizeOf179
  v37 := Tryz.zeroValue179
  t70 := Tryz.underlying178
  a70 := Tryz.isAgg178
  z70 := Tryz.sizeOf178
  v70 := Tryz.zeroValue178
  t72 := Tryz.underlying181
  a72 := Tryz.isAgg181
  z72 := Tryz.sizeOf181
  v72 := Tryz.zeroValue181
  t75 := Tryz.underlying158
  a75 := Tryz.isAgg158
  z75 := Tryz.sizeOf158
  v75 := Tryz.zeroValue158
  t164 := Tryz.underlying206
  a164 := Tryz.isAgg206
  z164 := Tryz.sizeOf206
  v164 := Tryz.zeroValue206 }
theorem shb169 : Lays.n169 Tryz.prog shbRen := {
  mixed := by kernel_rfl
  f169 := Tryz.func101.trans (congrArg some (by kernel_rfl))
  t0 := Tryz.underlying0
  a0 := Tryz.isAgg0
  z0 := Tryz.sizeOf0
  v0 := Tryz.zeroValue0
  t3 := Tryz.underlying3
  a3 := Tryz.isAgg3
  z3 := Tryz.sizeOf3
  v3 := Tryz.zeroValue3
  t9 := Tryz.underlying9
  a9 := Tryz.isAgg9
  z9 := Tryz.sizeOf9
  v9 := Tryz.zeroValue9
  t37 := Tryz.underlying179
  a37 := Tryz.isAgg179
  z37 := Tryz.sizeOf179
  v37 := Tryz.zeroValue179
  t70 := Tryz.underlying178
  a70 := Tryz.isAgg178
  z70 := Tryz.sizeOf178
  v70 := Tryz.zeroValue178
  t72 := Tryz.underlying181
  a72 := Tryz.isAgg181
  z72 := Tryz.sizeOf181
  v72 := Tryz.zeroValue181
  t127 := Tryz.underlying193
  a127 := Tryz.isAgg193
  z127 := Tryz.sizeOf193
  v127 := Tryz.zeroValue193 }
theorem shbX : Builder.Extra Tryz.prog shbRen := {
  sizeBuilder := by kernel_rfl
  liesBuilder := by kernel_rfl
  t5 := Tryz.underlying5
  a5 := Tryz.isAgg5
  z5 := Tryz.sizeOf5
  v5 := Tryz.zeroValue5
  infoByte := by kernel_rfl
  cellsByte := by kernel_rfl
  sizeByte := by kernel_rfl
  neB5 := by decide }

/-- A builder of the call's own (blocks from B on) in block b, that holds the bytes l. -/
def Bd (w : World) (B b : Nat) (l : List UInt8) : Prop := Lib.IsBuilder 181 5 B b (Lib.byteCells l) w
theorem Bd.new (w : World) : Bd (w.alloc (.cells #[.pointer none, .slice none 0 0] 181)) w.heap.size w.heap.size [] :=
  .inl ⟨Nat.le_refl _, .slice none 0 0, heap_alloc_new w _, World.ownsRow_nil _ _ _ _, by simp [Value.ownBlock]⟩
theorem Bd.alloc {w : World} {B b : Nat} {l : List UInt8} (h : Bd w B b l) (o : Obj) : Bd (w.alloc o) B b l := by
  have key : ∀ p, Lib.BuilderAt 181 5 B b p (Lib.byteCells l) w → Lib.BuilderAt 181 5 B b p (Lib.byteCells l) (w.alloc o) := by
    intro p h
    obtain ⟨h1, v, h2, h3, h4⟩ := h
    have hlt : b < w.heap.size := by
      rcases Nat.lt_or_ge b w.heap.size with h | h
      · exact h
      · rw [Array.getElem?_eq_none h] at h2; cases h2
    exact ⟨h1, v, (Below.heap_alloc w o b hlt).trans h2, World.ownsRow.alloc h3 o, h4⟩
  rcases h with h | h
  · exact .inl (key _ h)
  · exact .inr (key _ h)
theorem wb_any (B b : Nat) (l : List UInt8) (c : UInt8) (n : Int) (w : World) (hn : n = (c.toNat : Int)) (h : Bd w B b l) (hlen : l.length + 1 ≤ 140737488355328) (hBw : B ≤ w.heap.size) :
    Calls Tryz.prog 102 #[.pointer (some ⟨b, 0, none⟩), .int .u8 n] w fun e w' => e = .returned .nilIface ∧ Bd w' B b (l ++ [c]) ∧ Below B w w' := by
  subst hn
  refine (Any.Builder_WriteByte shb167 shbX B b (Lib.byteCells l) (c.toNat : Int) w h (by rw [Lib.byteCells_length]; exact hlen) hBw).mono ?_
  rintro e w' ⟨he, hb, hw⟩
  refine ⟨he, .inr ?_, hw⟩
  have e2 : Lib.byteCells (l ++ [c]) = Lib.byteCells l ++ [.int .u8 (c.toNat : Int)] := by simp [Lib.byteCells]
  rw [e2]
  exact hb
theorem bstr_any (B b : Nat) (l : List UInt8) (w : World) (h : Bd w B b l) (hBw : B ≤ w.heap.size) :
    Calls Tryz.prog 101 #[.pointer (some ⟨b, 0, none⟩)] w fun e w' => e = .returned (.string ⟨l.toArray⟩) ∧ Below B w w' :=
  Any.Builder_String_any shb169 shbX B b l w h hBw
end Go.Proofs.YtcfbcidakddhfaaGreatDoor
namespace Go.Proofs.YtcfbcidakddhfaaGreatDoor

def gN (n : Int) : Bool := decide (n = 34 ∨ n = 92)
def escB (c : UInt8) : List UInt8 := if gN (c.toNat : Int) = true then [92, c] else [c]
def quoteTo (s : ByteArray) (k : Nat) : List UInt8 := 34 :: (s.data.toList.take k).flatMap escB
def quoteB (s : ByteArray) : List UInt8 := quoteTo s s.size ++ [34]
theorem take_byte (s : ByteArray) (k : Nat) (h : k < s.size) : s.data.toList.take (k + 1) = s.data.toList.take k ++ [s[k]] := by
  rw [List.take_succ_eq_append_getElem (by simpa using h)]; rfl
theorem quoteTo_zero (s : ByteArray) : quoteTo s 0 = [34] := rfl
theorem quoteTo_succ (s : ByteArray) (k : Nat) (h : k < s.size) : quoteTo s (k + 1) = quoteTo s k ++ escB s[k] := by
  unfold quoteTo
  rw [take_byte s k h, List.flatMap_append]
  simp
theorem quoteTo_yes (s : ByteArray) (k : Nat) (h : k < s.size) (hg : gN ((s[k]).toNat : Int) = true) : quoteTo s (k + 1) = (quoteTo s k ++ [92]) ++ [s[k]] := by
  rw [quoteTo_succ s k h, escB, if_pos hg]; simp
theorem quoteTo_no (s : ByteArray) (k : Nat) (h : k < s.size) (hg : gN ((s[k]).toNat : Int) = false) : quoteTo s (k + 1) = quoteTo s k ++ [s[k]] := by
  rw [quoteTo_succ s k h, escB, if_neg (by simp [hg])]
theorem esc_len : ∀ l : List UInt8, (l.flatMap escB).length ≤ 2 * l.length
  | [] => by simp
  | c :: l => by
    have := esc_len l
    have h1 : (escB c).length ≤ 2 := by unfold escB; split <;> simp
    rw [List.flatMap_cons, List.length_append, List.length_cons]; omega
theorem quoteTo_len (s : ByteArray) (k : Nat) : (quoteTo s k).length ≤ 1 + 2 * k := by
  have h := esc_len (s.data.toList.take k)
  have h2 : (s.data.toList.take k).length ≤ k := List.length_take_le _ _
  unfold quoteTo
  rw [List.length_cons]; omega
theorem quoteB_len (s : ByteArray) : (quoteB s).length ≤ 2 + 2 * s.size := by
  have := quoteTo_len s s.size
  unfold quoteB; rw [List.length_append, List.length_singleton]; omega
end Go.Proofs.YtcfbcidakddhfaaGreatDoor
namespace Go.Proofs.YtcfbcidakddhfaaGreatDoor
open Go.RowKit

def Ok0 (w : World) (e : Ending) (w' : World) : Prop := e = .returned (.bool true) ∧ Below w.heap.size w w'
end Go.Proofs.YtcfbcidakddhfaaGreatDoor
