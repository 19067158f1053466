/- The set that a text is, as plain functions. -/
import Derived.WalkKit
import Derived.WalkSpells
import Derived.WalkLawsBesides
import Derived.Handy
import Derived.Lib.Hide
import Derived.Deep.RegionHeld3
import Derived.Deep.DeepCutAuto
import Derived.Test.YtcmpenmaphmifaaGreatDoorProg
import Derived.Maps.AppendAt
import Derived.OwnWalk
import Derived.Laws.OwnMore
import Derived.Laws.Rows
import Derived.Deep.AppendLies
import Derived.Test.YtcmpenmaphmifaaGreatDoorRows
import Derived.LoopTactic
import Derived.Lib.Join
import Derived.Lib.IndexMore
import Derived.Lib.Strings
/- Names and values of labels, as plain functions of bytes. -/
namespace Go.Proofs.YtcmpenmaphmifaaGreatDoor

def letN (n : Int) : Bool := decide (97 ≤ n ∧ n ≤ 122 ∨ 65 ≤ n ∧ n ≤ 90 ∨ n = 95)
def digN (n : Int) : Bool := decide (48 ≤ n ∧ n ≤ 57)
/-- May the byte n stand at place i of a name? -/
def nameC (i : Nat) (n : Int) : Bool := letN n || (decide (0 < i) && digN n)
def byteAt (s : ByteArray) (i : Nat) : Int := ((s.data.toList.getD i 0).toNat : Int)
def nameTo (s : ByteArray) (k : Nat) : Bool := (List.range k).all fun i => nameC i (byteAt s i)
theorem nameTo_zero (s : ByteArray) : nameTo s 0 = true := rfl
theorem nameTo_succ (s : ByteArray) (k : Nat) : nameTo s (k + 1) = (nameTo s k && nameC k (byteAt s k)) := by
  simp [nameTo, List.range_succ]
theorem nameTo_false {s : ByteArray} {k n : Nat} (h : nameC k (byteAt s k) = false) (hk : k < n) : nameTo s n = false := by
  simp only [nameTo, List.all_eq_false, List.mem_range]
  exact ⟨k, hk, by simp [h]⟩
def nameB (s : ByteArray) : Bool := decide (1 ≤ s.size) && decide (s.size ≤ 32) && nameTo s s.size

def valC (n : Int) : Bool := decide (32 ≤ n ∧ n ≤ 126)
def valTo (s : ByteArray) (k : Nat) : Bool := (List.range k).all fun i => valC (byteAt s i)
theorem valTo_zero (s : ByteArray) : valTo s 0 = true := rfl
theorem valTo_succ (s : ByteArray) (k : Nat) : valTo s (k + 1) = (valTo s k && valC (byteAt s k)) := by
  simp [valTo, List.range_succ]
theorem valTo_false {s : ByteArray} {k n : Nat} (h : valC (byteAt s k) = false) (hk : k < n) : valTo s n = false := by
  simp only [valTo, List.all_eq_false, List.mem_range]
  exact ⟨k, hk, by simp [h]⟩
def valB (s : ByteArray) : Bool := decide (1 ≤ s.size) && decide (s.size ≤ 64) && valTo s s.size

theorem byteAt_get (s : ByteArray) (k : Nat) (h : k < s.size) : ((s[k]).toNat : Int) = byteAt s k := by
  unfold byteAt
  have hl : k < s.data.toList.length := by simpa using h
  simp only [List.getD_eq_getElem?_getD, List.getElem?_eq_getElem hl, Option.getD_some]
  rfl
theorem byteAt_bd (s : ByteArray) (k : Nat) : 0 ≤ byteAt s k ∧ byteAt s k ≤ 255 := by
  unfold byteAt
  have := (s.data.toList.getD k 0).toNat_lt
  omega
end Go.Proofs.YtcmpenmaphmifaaGreatDoor
namespace Go.Proofs.YtcmpenmaphmifaaGreatDoor

def gN (n : Int) : Bool := decide (n = 34 ∨ n = 92)
def escB (c : UInt8) : List UInt8 := if gN (c.toNat : Int) = true then [92, c] else [c]
def quoteTo (s : ByteArray) (k : Nat) : List UInt8 := 34 :: (s.data.toList.take k).flatMap escB
def quoteB (s : ByteArray) : List UInt8 := quoteTo s s.size ++ [34]
theorem take_byte (s : ByteArray) (k : Nat) (h : k < s.size) : s.data.toList.take (k + 1) = s.data.toList.take k ++ [s[k]] := by
  rw [List.take_succ_eq_append_getElem (by simpa using h)]; rfl
theorem quoteTo_zero (s : ByteArray) : quoteTo s 0 = [34] := rfl
theorem quoteTo_succ (s : ByteArray) (k : Nat) (h : k < s.size) : quoteTo s (k + 1) = quoteTo s k ++ escB s[k] := by
  unfold quoteTo
  rw [take_byte s k h, List.flatMap_append]
  simp
theorem quoteTo_yes (s : ByteArray) (k : Nat) (h : k < s.size) (hg : gN ((s[k]).toNat : Int) = true) : quoteTo s (k + 1) = (quoteTo s k ++ [92]) ++ [s[k]] := by
  rw [quoteTo_succ s k h, escB, if_pos hg]; simp
theorem quoteTo_no (s : ByteArray) (k : Nat) (h : k < s.size) (hg : gN ((s[k]).toNat : Int) = false) : quoteTo s (k + 1) = quoteTo s k ++ [s[k]] := by
  rw [quoteTo_succ s k h, escB, if_neg (by simp [hg])]
theorem esc_len : ∀ l : List UInt8, (l.flatMap escB).length ≤ 2 * l.length
  | [] => by simp
  | c :: l => by
    have := esc_len l
    have h1 : (escB c).length ≤ 2 := by unfold escB; split <;> simp
    rw [List.flatMap_cons, List.length_append, List.length_cons]; omega
theorem quoteTo_len (s : ByteArray) (k : Nat) : (quoteTo s k).length ≤ 1 + 2 * k := by
  have h := esc_len (s.data.toList.take k)
  have h2 : (s.data.toList.take k).length ≤ k := List.length_take_le _ _
  unfold quoteTo
  rw [List.length_cons]; omega
theorem quoteB_len (s : ByteArray) : (quoteB s).length ≤ 2 + 2 * s.size := by
  have := quoteTo_len s s.size
  unfold quoteB; rw [List.length_append, List.length_singleton]; omega
end Go.Proofs.YtcmpenmaphmifaaGreatDoor
namespace Go.Proofs.YtcmpenmaphmifaaGreatDoor
open Go.RowKit

theorem bcell {W w1 : World} (hb : Below W.heap.size W w1) : (∀ b o, b < W.heap.size → w1.cell? ⟨b, o, none⟩ = W.cell? ⟨b, o, none⟩) ∧ (∀ b o, b < W.heap.size → w1.frozen? ⟨b, o, none⟩ = W.frozen? ⟨b, o, none⟩) :=
  ⟨fun b o h => hb.cell (p := ⟨b, o, none⟩) h, fun b o h => hb.frozen (p := ⟨b, o, none⟩) h⟩
/-- What a call made behind a world that had only grown. -/
theorem via {B : Nat} {w W w1 : World} (hb : Below W.heap.size W w1) (h : Below B w W) (hB : B ≤ W.heap.size) : Below B w w1 := h.trans (hb.mono hB)
theorem kept {W w1 : World} {p : Addr} {v : Value} (hb : Below W.heap.size W w1) (h : W.cell? p = some v) : w1.cell? p = some v :=
  (hb.cell (World.block_lt_of_cell? W p h)).trans h
theorem keptD {X : World} {p : Addr} {v : Value} (h : X.cell? p = some v) : X.drew.cell? p = some v := h
theorem keptA {X : World} {p : Addr} {v : Value} {o : Obj} (h : X.cell? p = some v) : (X.alloc o).cell? p = some v :=
  (World.cell?_alloc_lt _ _ _ (World.block_lt_of_cell? X p h)).trans h
theorem ret_int {k : IntKind} {a b : Int} (h : a = b) : Ending.returned (.int k a) = .returned (.int k b) := by rw [h]
theorem ret_bool {a b : Bool} (h : a = b) : Ending.returned (.bool a) = .returned (.bool b) := by rw [h]

end Go.Proofs.YtcmpenmaphmifaaGreatDoor
namespace Go.Proofs.YtcmpenmaphmifaaGreatDoor
open Go.RowKit

theorem el_block_of_add (a : Addr) (n : Nat) : (a.add n).block = a.block := by unfold Addr.add; split <;> rfl
theorem el_add_of_add (a : Addr) (i j : Nat) : (a.add i).add j = a.add (i + j) := by
  unfold Addr.add
  by_cases hi : i = 0 <;> by_cases hj : j = 0 <;> simp [hi, hj, Nat.add_assoc]
theorem el_add_pos (q : Addr) (j : Nat) (hj : 0 < j) : q.add j = ⟨q.block, q.off + j, none⟩ := by unfold Addr.add; rw [if_neg (by omega)]
theorem el_add_zero (q : Addr) : q.add 0 = q := by unfold Addr.add; rw [if_pos rfl]

section
variable {α : Type} {enc : α → List Value} {k : Nat}

/-- The slice at A with capacity cap reads as the list l, each element k cells, in memory below block K. -/
structure Sr (enc : α → List Value) (k : Nat) (w : World) (K : Nat) (A : Option Addr) (cap : Nat) (l : List α) : Prop where
  le : l.length ≤ cap
  max : cap ≤ maxLen
  nil : A = none → cap = 0
  at_ : 0 < l.length → ∃ ad : Addr, A = some ad ∧ ad.block < K ∧ ∀ i x, l[i]? = some x → ∀ j u, (enc x)[j]? = some u → w.cell? (ad.add (i * k + j)) = some u
/-- v is a slice of the call's own (blocks from K on, elements of type T) that holds the list l. -/
def So (enc : α → List Value) (k : Nat) (w : World) (K : Nat) (T : TypeId) (v : Value) (l : List α) : Prop := w.ownsRow K T k v l.length (l.flatMap enc)

variable {w w' : World} {K K' cap : Nat} {A : Option Addr} {l : List α}
theorem Sr.none_ (w : World) (K : Nat) : Sr enc k w K none 0 ([] : List α) := ⟨Nat.le_refl _, by unfold maxLen; omega, fun _ => rfl, fun h => absurd h (by simp)⟩
theorem Sr.keep (h : Sr enc k w K A cap l) (hk : ∀ p : Addr, p.block < K → w'.cell? p = w.cell? p) : Sr enc k w' K A cap l :=
  ⟨h.le, h.max, h.nil, fun hn => by
    obtain ⟨ad, e, hb, hc⟩ := h.at_ hn
    exact ⟨ad, e, hb, fun i x hi j u hu => (hk _ (by rw [el_block_of_add]; exact hb)).trans (hc i x hi j u hu)⟩⟩
theorem Sr.below (h : Sr enc k w K A cap l) (hb : Below K w w') : Sr enc k w' K A cap l := h.keep fun _ hp => hb.cell hp
theorem Sr.more (h : Sr enc k w K A cap l) (hK : K ≤ K') : Sr enc k w K' A cap l :=
  ⟨h.le, h.max, h.nil, fun hn => by
    obtain ⟨ad, e, hb, hc⟩ := h.at_ hn
    exact ⟨ad, e, by omega, hc⟩⟩
theorem Sr.drewN (h : Sr enc k w K A cap l) (n : Nat) : Sr enc k (w.drewN n) K A cap l := h.keep fun _ _ => rfl
theorem Sr.drew (h : Sr enc k w K A cap l) : Sr enc k w.drew K A cap l := h.keep fun _ _ => rfl
theorem Sr.alloc (h : Sr enc k w K A cap l) (hK : K ≤ w.heap.size) (o : Obj) : Sr enc k (w.alloc o) K A cap l := h.keep fun _ hp => World.cell?_alloc_lt _ _ _ (by omega)
theorem Sr.get (h : Sr enc k w K A cap l) {i : Nat} (hi : i < l.length) : ∃ ad : Addr, A = some ad ∧ ad.block < K ∧ ∀ j u, (enc l[i])[j]? = some u → w.cell? (ad.add (i * k + j)) = some u := by
  obtain ⟨ad, e, hb, hc⟩ := h.at_ (by omega)
  exact ⟨ad, e, hb, fun j u hu => hc i l[i] (List.getElem?_eq_getElem hi) j u hu⟩
/-- The element's cells as the walk spells them. -/
theorem Sr.get2 (h : Sr enc k w K A cap l) {i : Nat} (hi : i < l.length) : ∃ ad : Addr, A = some ad ∧ ad.block < K ∧ (∀ u, (enc l[i])[0]? = some u → w.cell? (ad.add (i * k)) = some u) ∧
    ∀ j u, 0 < j → (enc l[i])[j]? = some u → w.cell? ⟨(ad.add (i * k)).block, (ad.add (i * k)).off + j, none⟩ = some u := by
  obtain ⟨ad, e, hb, hc⟩ := h.get hi
  refine ⟨ad, e, hb, fun u hu => hc 0 u hu, fun j u hj hu => ?_⟩
  rw [← el_add_pos _ _ hj, el_add_of_add]
  exact hc j u hu
theorem Sr.to (h : Sr enc k w K A cap l) {j : Nat} (hj : j ≤ l.length) : Sr enc k w K A cap (l.take j) := by
  have hle := h.le
  have hlen : (l.take j).length = j := by simp; omega
  refine ⟨by omega, h.max, h.nil, fun hn => ?_⟩
  obtain ⟨ad, e, hb, hc⟩ := h.at_ (by omega)
  refine ⟨ad, e, hb, fun i x hi => hc i x ?_⟩
  rw [List.getElem?_take] at hi
  split at hi
  · exact hi
  · cases hi

variable {T : TypeId} {v : Value}
theorem So.empty (enc : α → List Value) (k : Nat) (w : World) (K : Nat) (T : TypeId) : So enc k w K T (.slice none 0 0) [] := World.ownsRow_nil w K _ _
theorem So.keep (h : So enc k w K T v l) {row : Option Nat} (hg : w.grownBy w' row) (hne : v.ownBlock = none ∨ v.ownBlock ≠ row) : So enc k w' K T v l := World.ownsRow.kept h hg hne
theorem So.below (h : So enc k w K T v l) (hb : Below w.heap.size w w') : So enc k w' K T v l :=
  World.ownsRow.kept (row := none) h ⟨hb.os, hb.tape, hb.output, hb.size, fun k hk _ => hb.block k hk⟩ (by cases h' : v.ownBlock <;> simp)
theorem So.alloc (h : So enc k w K T v l) (o : Obj) : So enc k (w.alloc o) K T v l := World.ownsRow.alloc h o
theorem So.drew (h : So enc k w K T v l) : So enc k w.drew K T v l := h
theorem So.drewN (h : So enc k w K T v l) (n : Nat) : So enc k (w.drewN n) K T v l := h
theorem So.lt (h : So enc k w K T v l) : ∀ g, v.ownBlock = some g → K ≤ g ∧ g < w.heap.size := World.ownsRow.lt h
theorem So.more (h : So enc k w K T v l) (hK : K' ≤ K) : So enc k w K' T v l := by
  rcases h.2 with ⟨he, h0⟩ | ⟨g, cap', cur, he, hb, hg⟩
  · exact ⟨h.1, .inl ⟨he, h0⟩⟩
  · exact ⟨h.1, .inr ⟨g, cap', cur, he, by omega, hg⟩⟩
theorem flatMap_get (henc : ∀ x, (enc x).length = k) : ∀ (l : List α) (i : Nat) (x : α), l[i]? = some x → ∀ j u, (enc x)[j]? = some u → (l.flatMap enc)[i * k + j]? = some u
  | [], i, x, h, _, _, _ => by simp at h
  | y :: l, 0, x, h, j, u, hu => by
    simp at h
    subst h
    rw [List.flatMap_cons, Nat.zero_mul, Nat.zero_add, List.getElem?_append_left]
    · exact hu
    · exact (List.getElem?_eq_some_iff.1 hu).1
  | y :: l, i + 1, x, h, j, u, hu => by
    rw [List.flatMap_cons, List.getElem?_append_right (by rw [henc, Nat.add_mul]; omega), henc]
    have : (i + 1) * k + j - k = i * k + j := by rw [Nat.add_mul]; omega
    rw [this]
    exact flatMap_get henc l i x (by simpa using h) j u hu
theorem So.sr (henc : ∀ x, (enc x).length = k) {n : Nat} (h : So enc k w K T (.slice A n cap) l) : Sr enc k w w.heap.size A cap l ∧ l.length = n := by
  rcases h.2 with ⟨he, h0⟩ | ⟨g, cap', cur, he, hb, hg, hn, hc, hs, ht⟩
  · injection he with h1 h2 h3
    subst h1 h2 h3
    exact ⟨⟨by omega, Nat.zero_le _, fun _ => rfl, fun h => absurd h (by omega)⟩, h0⟩
  · injection he with h1 h2 h3
    subst h1 h3
    refine ⟨⟨hn, hc, (fun h => by cases h), fun hl => ⟨_, rfl, ?_, fun i x hi j u hu => ?_⟩⟩, h2.symm⟩
    · rcases Nat.lt_or_ge g w.heap.size with hlt | hge
      · exact hlt
      · rw [Array.getElem?_eq_none hge] at hg; cases hg
    · exact h.cells (g := g) rfl _ _ (flatMap_get henc l i x hi j u hu)
theorem So.form (h : So enc k w K T v l) : ∃ A' cap', v = .slice A' l.length cap' := by
  rcases h.2 with ⟨he, h0⟩ | ⟨g, cap', cur, he, _⟩
  · exact ⟨none, 0, by rw [he, h0]⟩
  · exact ⟨_, _, he⟩

variable {P : Program}
/-- append of one element. -/
theorem wpList_pushE {T ST : TypeId} (hund : P.underlying ST = some (.slice T)) {z : Value} {bytes : Nat} (hinfo : (P.info? T).map (fun i => (i.zero, i.size, i.bytes)) = some (some z, k, bytes)) (hz : z.cells.size = k) (hk : 0 < k)
    {ops : Array Oper} {rest : List Oper} {o : Oper} {a : Act} {Q : Exit → Act → World → Prop} (w : World) (hgd : o.guard = none) (s x : Operand)
    (ho : o.op = .call { callee := .builtin .append, args := #[s, x], argTypes := #[ST, ST] }) (K : Nat) (v : Value) (l : List α) (hs : a.eval s = v) (hown : So enc k w K T v l)
    (e : α) (cs : Array Value) (hcs : cs.toList = enc e) (he : (enc e).length = k) (h1 : ∀ u ∈ enc e, u.oneCell' = true) (TB : TypeId) (H : Nat) (hH : w.heap.size = H) (hxx : a.eval x = .slice (some ⟨H, 0, none⟩) 1 1)
    (N : Nat) (hN : l.length + 1 = N) (hm : N ≤ maxLen) (hsz : N * bytes ≤ 140737488355328) (hK : K ≤ H)
    (h : ∀ A' cap' w', So enc k w' K T (.slice A' N cap') (l ++ [e]) → w.grownBy w' v.ownBlock → ((Value.slice A' N cap').ownBlock = v.ownBlock ∨ ∃ g, (Value.slice A' N cap').ownBlock = some g ∧ w.heap.size ≤ g) → wpList P ops Q rest (a.put o.dst (.slice A' N cap')) w') :
    wpList P ops Q (o :: rest) a (w.alloc (.cells cs TB)) := by
  subst hH hN
  obtain ⟨i0, hi, hz0, hz1, hz2⟩ := info_parts hinfo
  refine wpList_append_lies _ hgd s x ST ho K T i0 z k bytes hund hi hz0 hz1 hz2 hz hk v l.length _ hs (World.ownsRow.alloc hown _) ⟨w.heap.size, 0, none⟩ 1 1 (enc e) hxx (by rw [he]; omega)
    (by have := World.news_of_block (heap_alloc_new w (.cells cs TB)); rwa [hcs] at this) h1 (by omega) hm hsz (by simp; omega) _ rfl ?_
  intro g cap w1 hown1 hgrow1 hat1 hlt1
  have hg : w.grownBy w1 v.ownBlock := ⟨hgrow1.os, hgrow1.tape, hgrow1.output, Nat.le_trans (by simp) hgrow1.size, fun i hi hne => (hgrow1.block i (by simp; omega) hne).trans (Below.heap_alloc w _ i hi)⟩
  refine h _ _ w1 (by unfold So; rw [List.length_append, List.flatMap_append]; simpa using hown1) hg ?_
  rcases hat1 with h1 | h1
  · exact .inl (by simpa [Value.ownBlock] using h1.symm)
  · exact .inr ⟨g, rfl, by rw [h1]; simp⟩
end
end Go.Proofs.YtcmpenmaphmifaaGreatDoor
namespace Go.Proofs.YtcmpenmaphmifaaGreatDoor
open Go.RowKit

abbrev Pp := ByteArray × ByteArray
/-- A label's two cells. -/
def encP (x : Pp) : List Value := [.string x.1, .string x.2]
theorem encP_len (x : Pp) : (encP x).length = 2 := rfl
theorem encP_one (x : Pp) : ∀ u ∈ encP x, u.oneCell' = true := by intro u hu; simp [encP] at hu; rcases hu with rfl | rfl <;> rfl
theorem info_ap : (Tryz.prog.info? 65).map (fun i => (i.zero, i.size, i.bytes)) = some (some (.agg #[.string ⟨#[]⟩, .string ⟨#[]⟩]), 2, 32) := by kernel_rfl
theorem info_rp : (Tryz.prog.info? 162).map (fun i => (i.zero, i.size, i.bytes)) = some (some (.agg #[.string ⟨#[]⟩, .string ⟨#[]⟩]), 2, 32) := by kernel_rfl

abbrev Lr (w : World) (K : Nat) (A : Option Addr) (cap : Nat) (l : List Pp) : Prop := Sr encP 2 w K A cap l
abbrev La (w : World) (K : Nat) (v : Value) (l : List Pp) : Prop := So encP 2 w K 65 v l
abbrev Ld (w : World) (K : Nat) (v : Value) (l : List Pp) : Prop := So encP 2 w K 162 v l
theorem lr_cells {w : World} {K cap : Nat} {A : Option Addr} {l : List Pp} (h : Lr w K A cap l) {i : Nat} (hi : i < l.length) : ∃ ad : Addr, A = some ad ∧ ad.block < K ∧ w.cell? (ad.add (i * 2)) = some (.string l[i].1) ∧ w.cell? ⟨(ad.add (i * 2)).block, (ad.add (i * 2)).off + 1, none⟩ = some (.string l[i].2) := by
  obtain ⟨ad, e, hb, h0, h1⟩ := h.get2 hi
  exact ⟨ad, e, hb, h0 _ rfl, h1 1 _ (by decide) rfl⟩

theorem grown_belowE {W w w1 : World} {v : Value} {B : Nat} (h : Below B W w) (hg : w.grownBy w1 v.ownBlock) (hB : B ≤ w.heap.size) (ho : ∀ k, v.ownBlock = some k → B ≤ k) : Below B W w1 := h.grown hg hB ho

/-- A new slice of the labels l; nothing else has turned. -/
def NewA (w : World) (l : List Pp) (e : Ending) (w' : World) : Prop :=
  ∃ A' cap', e = .returned (.slice A' l.length cap') ∧ La w' w.heap.size (.slice A' l.length cap') l ∧ Below w.heap.size w w'
def NewD (w : World) (l : List Pp) (e : Ending) (w' : World) : Prop :=
  ∃ A' cap', e = .returned (.slice A' l.length cap') ∧ Ld w' w.heap.size (.slice A' l.length cap') l ∧ Below w.heap.size w w'

set_option maxHeartbeats 1600000 in
theorem to_any (K : Nat) (A : Option Addr) (n cap : Nat) (l : List Pp) (w : World) (hln : l.length = n) (hp : Lr w K A cap l) (hK : K ≤ w.heap.size) (hl : l.length * 32 ≤ 140737488355328) :
    Calls Tryz.prog 54 #[.slice A n cap] w (NewA w l) := by
  subst hln
  have hle := hp.le
  have hmax := hp.max
  unfold maxLen at hmax
  go_enter Tryz.func54, Tryz.ntmps54
  go_wp2
  go_loopw [3, 8] (fun v i wr => ∃ (k c : Nat) (B : Option Addr), k ≤ l.length ∧ i = .int .i64 k ∧ v = .slice B k c ∧ La wr w.heap.size (.slice B k c) (l.take k) ∧ Below w.heap.size w wr) (fun _ i _ => l.length - (intOf i).toNat)
  case atStart => exact ⟨0, 0, none, Nat.zero_le _, rfl, rfl, by simpa using So.empty _ _ _ _ _, Below.refl _ _⟩
  case round =>
    obtain ⟨k, c, B, hk, rfl, rfl, hps, hbl⟩ := hrel
    have z := hbl.size
    by_cases hlt : k < l.length
    · obtain ⟨ad, rfl, hadK, h1, h2⟩ := lr_cells (hp.below (hbl.mono hK)) hlt
      have htk : l.take (k + 1) = l.take k ++ [l[k]] := List.take_succ_eq_append_getElem hlt
      have hln : (l.take k).length = k := by simp; omega
      generalize l[k] = x at *
      obtain ⟨xn, xv⟩ := x
      simp only at h1 h2
      have HT := Lib.hid htk
      have HL := Lib.hid hln
      have hps1 := hps.alloc (.cells #[.string xn, .string xv] 162)
      clear htk hln
      go_wp2_with (at_builtin; refine wpList_pushE Tryz.underlying58 info_ap rfl (by decide) (wr.alloc (.cells #[.string xn, .string xv] 162)) rfl (.tmp 12) (.tmp 18) rfl w.heap.size (.slice B k c) (l.take k) rfl hps1 (xn, xv) _ rfl rfl (encP_one _) _ (wr.heap.size + 1) (by simp) rfl (k + 1) (by rw [HL.out]) (by unfold maxLen; omega) (by omega) (by omega) ?_; intro A2 cap2 w2 hps2 hgrow2 hat2; have B2 : Below w.heap.size w w2 := grown_belowE (hbl.alloc z _) hgrow2 (by simp; omega) (fun _ h => (hps1.lt _ h).1))
      go_roundw
      case rel => exact ⟨k + 1, cap2, A2, by omega, by go_num, rfl, by rw [HT.out]; exact hps2, B2⟩
      case measure => simp [intOf]; omega
    · have hkl : k = l.length := by omega
      subst hkl
      rw [List.take_length] at hps
      go_wp2
      go_ret
      exact ⟨B, c, rfl, hps, hbl⟩
end Go.Proofs.YtcmpenmaphmifaaGreatDoor
namespace Go.Proofs.YtcmpenmaphmifaaGreatDoor
open Go.RowKit

def nilP : Pp := (⟨#[]⟩, ⟨#[]⟩)
/-- All texts of modest length. -/
def Sm (l : List Pp) : Prop := ∀ x ∈ l, x.1.size ≤ 1048576 ∧ x.2.size ≤ 1048576
theorem Sm.at_ {l : List Pp} (h : Sm l) (k : Nat) : (l.getD k nilP).1.size ≤ 1048576 ∧ (l.getD k nilP).2.size ≤ 1048576 := by
  rcases Nat.lt_or_ge k l.length with hk | hk
  · rw [List.getD_eq_getElem?_getD, List.getElem?_eq_getElem hk]
    exact h _ (List.getElem_mem hk)
  · rw [List.getD_eq_getElem?_getD, List.getElem?_eq_none hk]
    exact ⟨by decide, by decide⟩
theorem lr_at {w : World} {K cap : Nat} {A : Option Addr} {l : List Pp} (h : Lr w K A cap l) {i : Nat} (hi : i < l.length) : ∃ ad : Addr, A = some ad ∧ ad.block < K ∧ w.cell? (ad.add (i * 2)) = some (.string (l.getD i nilP).1) ∧ w.cell? ⟨(ad.add (i * 2)).block, (ad.add (i * 2)).off + 1, none⟩ = some (.string (l.getD i nilP).2) := by
  have := lr_cells h hi
  rw [List.getD_eq_getElem?_getD, List.getElem?_eq_getElem hi]
  exact this
def ltB (a b : ByteArray) : Bool := Op.bytesLess a.toList b.toList
def stepB (first : Bool) (pn xn xv : ByteArray) : Bool := nameB xn && valB xv && (first || ltB pn xn)
def stepC (l : List Pp) (i : Nat) : Bool := stepB (decide (i = 0)) (l.getD (i - 1) nilP).1 (l.getD i nilP).1 (l.getD i nilP).2
def rightTo (l : List Pp) (k : Nat) : Bool := (List.range k).all fun i => stepC l i
theorem rightTo_zero (l : List Pp) : rightTo l 0 = true := rfl
theorem rightTo_succ (l : List Pp) (k : Nat) : rightTo l (k + 1) = (rightTo l k && stepC l k) := by simp [rightTo, List.range_succ]
theorem rightTo_false {l : List Pp} {k n : Nat} (h : stepC l k = false) (hk : k < n) : rightTo l n = false := by
  simp only [rightTo, List.all_eq_false, List.mem_range]
  exact ⟨k, hk, by simp [h]⟩
def rightL (l : List Pp) : Bool := decide (l.length ≤ 16) && rightTo l l.length
theorem rightL_many {l : List Pp} (h : 16 < l.length) : rightL l = false := by
  have : ¬ l.length ≤ 16 := by omega
  simp [rightL, this]
theorem rightL_of {l : List Pp} (h : l.length ≤ 16) : rightL l = rightTo l l.length := by simp [rightL, h]

/-- Do two neighbours have one name? -/
def twC (l : List Pp) (i : Nat) : Bool := (l.getD i nilP).1.toList == (l.getD (i + 1) nilP).1.toList
def twTo (l : List Pp) (k : Nat) : Bool := (List.range k).any fun i => twC l i
theorem twTo_zero (l : List Pp) : twTo l 0 = false := rfl
theorem twTo_succ (l : List Pp) (k : Nat) : twTo l (k + 1) = (twTo l k || twC l k) := by simp [twTo, List.range_succ]
theorem twTo_true {l : List Pp} {k n : Nat} (h : twC l k = true) (hk : k < n) : twTo l n = true := by
  simp only [twTo, List.any_eq_true, List.mem_range]
  exact ⟨k, hk, h⟩
def twL (l : List Pp) : Bool := twTo l (l.length - 1)

def getL (l : List Pp) (n : ByteArray) : ByteArray := match l with
  | [] => ⟨#[]⟩
  | x :: l => if x.1.toList == n.toList then x.2 else getL l n
theorem getL_drop {l : List Pp} {k : Nat} (h : k < l.length) (n : ByteArray) : getL (l.drop k) n = if (l.getD k nilP).1.toList == n.toList then (l.getD k nilP).2 else getL (l.drop (k + 1)) n := by
  rw [List.drop_eq_getElem_cons h, getL, List.getD_eq_getElem?_getD, List.getElem?_eq_getElem h]
  rfl
end Go.Proofs.YtcmpenmaphmifaaGreatDoor
namespace Go.Proofs.YtcmpenmaphmifaaGreatDoor
open Go.RowKit

def encS (s : ByteArray) : List Value := [.string s]
theorem encS_len (s : ByteArray) : (encS s).length = 1 := rfl
theorem encS_one (s : ByteArray) : ∀ u ∈ encS s, u.oneCell' = true := by intro u hu; simp [encS] at hu; subst hu; rfl
/-- A label's part of the text. -/
def partL (x : Pp) : List UInt8 := x.1.data.toList ++ [61] ++ quoteB x.2
def partS (x : Pp) : ByteArray := x.1 ++ ⟨#[61]⟩ ++ ⟨(quoteB x.2).toArray⟩
theorem app_list (a b : ByteArray) : (a ++ b).data.toList = a.data.toList ++ b.data.toList := by simp
theorem partS_list (x : Pp) : (partS x).data.toList = partL x := by simp [partS, partL]
theorem partL_len {x : Pp} (h : x.1.size ≤ 1048576 ∧ x.2.size ≤ 1048576) : (partL x).length ≤ 4000000 := by
  have h2 := quoteB_len x.2
  have h3 : x.1.data.toList.length = x.1.size := by simp
  simp only [partL, List.length_append, List.length_singleton, h3]
  omega
theorem joinTail_len (sep : List UInt8) (M : Nat) : ∀ l : List (List UInt8), (∀ x ∈ l, x.length ≤ M) → (Lib.joinTail sep l).length ≤ l.length * (M + sep.length)
  | [], _ => by simp [Lib.joinTail]
  | x :: l, h => by
    have h1 := h x (by simp)
    have h2 := joinTail_len sep M l (fun z hz => h z (by simp [hz]))
    have e : Lib.joinTail sep (x :: l) = sep ++ x ++ Lib.joinTail sep l := by simp [Lib.joinTail]
    rw [e, List.length_append, List.length_append, List.length_cons, Nat.add_mul, Nat.one_mul]
    omega
theorem join_len_le (sep : List UInt8) (M : Nat) (l : List (List UInt8)) (h : ∀ x ∈ l, x.length ≤ M) : (Lib.join l sep).length ≤ l.length * (M + sep.length) := by
  cases l with
  | nil => simp [Lib.join_nil]
  | cons x l =>
    have h1 := h x (by simp)
    have h2 := joinTail_len sep M l (fun z hz => h z (by simp [hz]))
    rw [Lib.join_cons, List.length_append, List.length_cons, Nat.add_mul, Nat.one_mul]
    omega
theorem joinTail_snoc (sep y : List UInt8) (l : List (List UInt8)) : Lib.joinTail sep (l ++ [y]) = Lib.joinTail sep l ++ (sep ++ y) := by simp [Lib.joinTail]
theorem join_snoc (sep y : List UInt8) {l : List (List UInt8)} (h : l ≠ []) : Lib.join (l ++ [y]) sep = Lib.join l sep ++ (sep ++ y) := by
  cases l with
  | nil => exact absurd rfl h
  | cons x l => rw [List.cons_append, Lib.join_cons, Lib.join_cons, joinTail_snoc, List.append_assoc]
def textB (l : List Pp) : List UInt8 := 123 :: (Lib.join (l.map partL) [44] ++ [125])
theorem parts_len {l : List Pp} (h : Sm l) : (Lib.join (l.map partL) [44]).length ≤ l.length * 4000001 := by
  have := join_len_le [44] 4000000 (l.map partL) (fun x hx => by
    obtain ⟨p, hp, rfl⟩ := List.mem_map.1 hx
    exact partL_len (h p hp))
  simpa using this
theorem parts_list (l : List Pp) : (l.map partS).map (·.data.toList) = l.map partL := by
  rw [List.map_map]
  apply List.map_congr_left
  intro x _
  exact partS_list x
end Go.Proofs.YtcmpenmaphmifaaGreatDoor
namespace Go.Proofs.YtcmpenmaphmifaaGreatDoor
open Go.RowKit

abbrev Rp := ByteArray × Int × ByteArray
def nilR : Rp := (⟨#[]⟩, 0, ⟨#[]⟩)
def opB (o : Int) : Bool := decide (1 ≤ o ∧ o ≤ 4)
def emB (s : ByteArray) : Bool := s.toList == []
theorem emB_iff (s : ByteArray) : emB s = decide (s.size = 0) := by
  have hl : s.data.toList.length = s.size := by simp
  unfold emB
  rw [Lib.toList_data, Bool.eq_iff_iff, beq_iff_eq, decide_eq_true_eq, ← hl]
  exact List.length_eq_zero_iff.symm
def ruleB (x : Rp) : Bool := nameB x.1 && opB x.2.1 && (emB x.2.2 || valB x.2.2)
def rulesTo (l : List Rp) (k : Nat) : Bool := (l.take k).all ruleB
theorem rulesTo_zero (l : List Rp) : rulesTo l 0 = true := by simp [rulesTo]
theorem getR_eq {l : List Rp} {k : Nat} (h : k < l.length) : l.getD k nilR = l[k] := by
  rw [List.getD_eq_getElem?_getD, List.getElem?_eq_getElem h]; rfl
theorem rulesTo_succ {l : List Rp} {k : Nat} (h : k < l.length) : rulesTo l (k + 1) = (rulesTo l k && ruleB (l.getD k nilR)) := by
  rw [rulesTo, List.take_succ_eq_append_getElem h, List.all_append, getR_eq h]
  simp [rulesTo]
theorem rulesTo_all (l : List Rp) : rulesTo l l.length = l.all ruleB := by simp [rulesTo]
theorem all_getR {l : List Rp} {k : Nat} (h : k < l.length) (p : Rp → Bool) (hb : p (l.getD k nilR) = false) : l.all p = false := by
  rw [List.all_eq_false]
  exact ⟨l[k], List.getElem_mem h, by rw [← getR_eq h, hb]; decide⟩
def rulesL (l : List Rp) : Bool := decide (l.length ≤ 16) && l.all ruleB
theorem rulesL_many {l : List Rp} (h : 16 < l.length) : rulesL l = false := by
  have : ¬ l.length ≤ 16 := by omega
  simp [rulesL, this]
theorem rulesL_of {l : List Rp} (h : l.length ≤ 16) : rulesL l = l.all ruleB := by simp [rulesL, h]

def holdB (o : Int) (r v : ByteArray) : Bool :=
  if o = 1 then v.toList == r.toList else if o = 2 then !(v.toList == r.toList) else if o = 3 then Lib.hasPrefix v.data.toList r.data.toList else if o = 4 then Lib.contains v.data.toList r.data.toList else false
def oneB (s : List Pp) (x : Rp) : Bool := holdB x.2.1 x.2.2 (getL s x.1)
def allTo (s : List Pp) (l : List Rp) (k : Nat) : Bool := (l.take k).all (oneB s)
theorem allTo_zero (s : List Pp) (l : List Rp) : allTo s l 0 = true := by simp [allTo]
theorem allTo_succ (s : List Pp) {l : List Rp} {k : Nat} (h : k < l.length) : allTo s l (k + 1) = (allTo s l k && oneB s (l.getD k nilR)) := by
  rw [allTo, List.take_succ_eq_append_getElem h, List.all_append, getR_eq h]
  simp [allTo]
def allB (s : List Pp) (l : List Rp) : Bool := l.all (oneB s)
theorem allTo_all (s : List Pp) (l : List Rp) : allTo s l l.length = allB s l := by simp [allTo, allB]
theorem allB_no {s : List Pp} {l : List Rp} {k : Nat} (h : k < l.length) (hb : oneB s (l.getD k nilR) = false) : allB s l = false := all_getR h _ hb

theorem hasPrefix_refl (l : List UInt8) : Lib.hasPrefix l l = true := by simp [Lib.hasPrefix]
theorem contains_refl (l : List UInt8) : Lib.contains l l = true := by
  unfold Lib.contains
  rcases Lib.index_spec l l with ⟨_, h⟩ | ⟨i, h, _⟩
  · have h0 := h 0 (Nat.zero_le _)
    unfold Lib.occAt at h0
    rw [List.drop_zero, Bool.eq_false_iff] at h0
    exact absurd (List.isPrefixOf_iff_prefix.2 (List.prefix_refl l)) h0
  · rw [h]; simp
theorem allB_append (s : List Pp) (x y : List Rp) : allB s (x ++ y) = (allB s x && allB s y) := by simp [allB]
theorem oneB_is (s : List Pp) (n : ByteArray) : oneB s (n, 1, getL s n) = true := by simp [oneB, holdB]
theorem oneB_begins (s : List Pp) (n : ByteArray) : oneB s (n, 3, getL s n) = true := by simp [oneB, holdB, hasPrefix_refl]
theorem oneB_holds (s : List Pp) (n : ByteArray) : oneB s (n, 4, getL s n) = true := by simp [oneB, holdB, contains_refl]
theorem oneB_not (s : List Pp) (n : ByteArray) : oneB s (n, 2, getL s n) = false := by simp [oneB, holdB]

/-- Does a text stand in another one at a place? -/
def standB (s : List UInt8) (i : Nat) (p : List UInt8) : Bool := p.isPrefixOf (s.drop i)
def standTo (s p : List UInt8) (k : Nat) : Bool := (List.range k).any fun i => standB s i p
theorem standTo_zero (s p : List UInt8) : standTo s p 0 = false := rfl
theorem standTo_succ (s p : List UInt8) (k : Nat) : standTo s p (k + 1) = (standTo s p k || standB s k p) := by simp [standTo, List.range_succ]
theorem contains_stand (s p : List UInt8) : Lib.contains s p = standTo s p (s.length + 1) := by
  unfold Lib.contains
  rw [Bool.eq_iff_iff]
  simp only [decide_eq_true_eq, standTo, List.any_eq_true, List.mem_range]
  rcases Lib.index_spec s p with ⟨h, hn⟩ | ⟨i, h, hi, ho, _⟩
  · constructor
    · intro h0; omega
    · rintro ⟨j, hj, hs⟩
      have := hn j (by omega)
      rw [Lib.occAt] at this
      rw [standB, this] at hs
      cases hs
  · exact ⟨fun _ => ⟨i, by omega, ho⟩, fun _ => by omega⟩
theorem contains_yes {s p : List UInt8} {k : Nat} (hk : k ≤ s.length) (h : standB s k p = true) : Lib.contains s p = true := by
  rw [contains_stand, standTo, List.any_eq_true]
  exact ⟨k, List.mem_range.2 (by omega), h⟩
theorem standB_take (s p : List UInt8) (i : Nat) : (((s.drop i).take p.length) == p) = standB s i p := by
  unfold standB
  rw [Bool.eq_iff_iff, beq_iff_eq, List.isPrefixOf_iff_prefix]
  constructor
  · intro e; rw [← e]; exact List.take_prefix _ _
  · intro e
    obtain ⟨t, e⟩ := e
    rw [← e]; simp
theorem standB_long {s p : List UInt8} {i : Nat} (h : s.length < i + p.length) : standB s i p = false ∨ p = [] := by
  by_cases hp : p = []
  · exact .inr hp
  · left
    unfold standB
    rw [Bool.eq_false_iff]
    intro e
    rw [List.isPrefixOf_iff_prefix] at e
    have := e.length_le
    rw [List.length_drop] at this
    have : 0 < p.length := by
      cases p with
      | nil => exact absurd rfl hp
      | cons => simp
    omega

/-- Rules that ask for all labels of a set hold of it. -/
def isR (x : Pp) : Rp := (x.1, 1, x.2)
theorem ltB_irr (a : ByteArray) : ltB a a = false := by
  unfold ltB
  have h : ∀ l : List UInt8, Op.bytesLess l l = false := by
    intro l
    induction l with
    | nil => rfl
    | cons c l ih => simp [Op.bytesLess, ih]
  exact h _
end Go.Proofs.YtcmpenmaphmifaaGreatDoor
namespace Go.Proofs.YtcmpenmaphmifaaGreatDoor

/-- What stands behind the opening quote: behind a guard or not, what was taken, how many bytes. -/
def unqGo : List UInt8 → Bool → List UInt8 → Nat → List UInt8 × Nat
  | [], _, _, _ => ([], 0)
  | c :: r, true, acc, n => if gN (c.toNat : Int) = true then unqGo r false (acc ++ [c]) (n + 1) else ([], 0)
  | c :: r, false, acc, n => if (c.toNat : Int) = 34 then (acc, n + 1) else if (c.toNat : Int) = 92 then unqGo r true acc (n + 1) else unqGo r false (acc ++ [c]) (n + 1)
def unqL : List UInt8 → List UInt8 × Nat
  | [] => ([], 0)
  | c :: r => if (c.toNat : Int) = 34 then unqGo r false [] 1 else ([], 0)
def unqB (t : ByteArray) : List UInt8 × Nat := unqL t.data.toList

theorem drop_byte (s : ByteArray) (k : Nat) (h : k < s.size) : s.data.toList.drop k = s[k] :: s.data.toList.drop (k + 1) := by
  rw [List.drop_eq_getElem_cons (by simpa using h)]; rfl
theorem unqB_nil {t : ByteArray} (h : t.size = 0) : unqB t = ([], 0) := by
  have : t.data.toList = [] := List.eq_nil_of_length_eq_zero (by simpa using h)
  unfold unqB; rw [this]; rfl
theorem unqB_no {t : ByteArray} (h : 0 < t.size) (hc : ¬ ((t[0]).toNat : Int) = 34) : unqB t = ([], 0) := by
  unfold unqB
  have := drop_byte t 0 h
  rw [List.drop_zero] at this
  rw [this, unqL, if_neg hc]
theorem unqB_yes {t : ByteArray} (h : 0 < t.size) (hc : ((t[0]).toNat : Int) = 34) : unqB t = unqGo (t.data.toList.drop 1) false [] 1 := by
  unfold unqB
  have := drop_byte t 0 h
  rw [List.drop_zero] at this
  rw [this, unqL, if_pos hc]
  simp
theorem go_end {t : ByteArray} {k : Nat} (h : t.size ≤ k) (g : Bool) (acc : List UInt8) (n : Nat) : unqGo (t.data.toList.drop k) g acc n = ([], 0) := by
  rw [List.drop_of_length_le (by simpa using h)]; cases g <;> rfl
theorem go_guard_yes {t : ByteArray} {k : Nat} (h : k < t.size) (acc : List UInt8) (n : Nat) (hc : gN ((t[k]).toNat : Int) = true) : unqGo (t.data.toList.drop k) true acc n = unqGo (t.data.toList.drop (k + 1)) false (acc ++ [t[k]]) (n + 1) := by
  rw [drop_byte t k h, unqGo, if_pos hc]
theorem go_guard_no {t : ByteArray} {k : Nat} (h : k < t.size) (acc : List UInt8) (n : Nat) (hc : gN ((t[k]).toNat : Int) = false) : unqGo (t.data.toList.drop k) true acc n = ([], 0) := by
  rw [drop_byte t k h, unqGo, if_neg (by simp [hc])]
theorem go_quote {t : ByteArray} {k : Nat} (h : k < t.size) (acc : List UInt8) (n : Nat) (hc : ((t[k]).toNat : Int) = 34) : unqGo (t.data.toList.drop k) false acc n = (acc, n + 1) := by
  rw [drop_byte t k h, unqGo, if_pos hc]
theorem go_slash {t : ByteArray} {k : Nat} (h : k < t.size) (acc : List UInt8) (n : Nat) (hc : ((t[k]).toNat : Int) = 92) : unqGo (t.data.toList.drop k) false acc n = unqGo (t.data.toList.drop (k + 1)) true acc (n + 1) := by
  rw [drop_byte t k h, unqGo, if_neg (by omega), if_pos hc]
theorem go_plain {t : ByteArray} {k : Nat} (h : k < t.size) (acc : List UInt8) (n : Nat) (h1 : ¬ ((t[k]).toNat : Int) = 34) (h2 : ¬ ((t[k]).toNat : Int) = 92) : unqGo (t.data.toList.drop k) false acc n = unqGo (t.data.toList.drop (k + 1)) false (acc ++ [t[k]]) (n + 1) := by
  rw [drop_byte t k h, unqGo, if_neg h1, if_neg h2]

theorem go_back (t : List UInt8) : ∀ (l acc : List UInt8) (n : Nat), unqGo (l.flatMap escB ++ 34 :: t) false acc n = (acc ++ l, n + (l.flatMap escB).length + 1)
  | [], acc, n => by simp [unqGo]
  | c :: l, acc, n => by
    rw [List.flatMap_cons]
    by_cases hg : gN (c.toNat : Int) = true
    · have e : escB c = [92, c] := by rw [escB, if_pos hg]
      have h92 : ((92 : UInt8).toNat : Int) = 92 := rfl
      rw [e]
      simp only [List.cons_append, List.nil_append, List.length_cons]
      rw [unqGo, if_neg (by rw [h92]; decide), if_pos h92, unqGo, if_pos hg, go_back t l]
      simp; omega
    · have e : escB c = [c] := by rw [escB, if_neg hg]
      have h1 : ¬ ((c.toNat : Int) = 34) := fun h => hg (by simp [gN, h])
      have h2 : ¬ ((c.toNat : Int) = 92) := fun h => hg (by simp [gN, h])
      rw [e]
      simp only [List.cons_append, List.nil_append, List.length_cons]
      rw [unqGo, if_neg h1, if_neg h2, go_back t l]
      simp; omega
theorem unq_back (s t : ByteArray) : unqB (⟨(quoteB s).toArray⟩ ++ t) = (s.data.toList, (quoteB s).length) := by
  have e : (⟨(quoteB s).toArray⟩ ++ t : ByteArray).data.toList = 34 :: (s.data.toList.flatMap escB ++ 34 :: t.data.toList) := by
    have : s.data.toList.take s.size = s.data.toList := List.take_of_length_le (by simp)
    simp [quoteB, quoteTo, this]
  have h34 : ((34 : UInt8).toNat : Int) = 34 := rfl
  unfold unqB
  rw [e, unqL, if_pos h34, go_back]
  have : s.data.toList.take s.size = s.data.toList := List.take_of_length_le (by simp)
  simp [quoteB, quoteTo, this]
  omega
theorem unqGo_len : ∀ (l : List UInt8) (g : Bool) (acc : List UInt8) (n : Nat), (unqGo l g acc n).1.length ≤ acc.length + l.length ∧ (unqGo l g acc n).2 ≤ n + l.length
  | [], g, acc, n => by cases g <;> simp [unqGo]
  | c :: r, true, acc, n => by
    rw [unqGo]
    have := unqGo_len r false (acc ++ [c]) (n + 1)
    split
    · simp at this ⊢; omega
    · simp
  | c :: r, false, acc, n => by
    rw [unqGo]
    have h1 := unqGo_len r false (acc ++ [c]) (n + 1)
    have h2 := unqGo_len r true acc (n + 1)
    split
    · simp
    · split
      · simp at h2 ⊢; omega
      · simp at h1 ⊢; omega
theorem unqB_len (t : ByteArray) : (unqB t).1.length ≤ t.size ∧ (unqB t).2 ≤ t.size := by
  unfold unqB
  have hl : t.data.toList.length = t.size := by simp
  cases h : t.data.toList with
  | nil => simp [unqL]
  | cons c r =>
    rw [h, List.length_cons] at hl
    rw [unqL]
    split
    · have := unqGo_len r false [] 1
      simp at this
      omega
    · simp
end Go.Proofs.YtcmpenmaphmifaaGreatDoor
namespace Go.Proofs.YtcmpenmaphmifaaGreatDoor
open Go.RowKit

/-- The bytes up to the next '=', and those behind it. -/
def nmOf : List UInt8 → List UInt8
  | [] => []
  | c :: l => if (c.toNat : Int) = 61 then [] else c :: nmOf l
def rsOf : List UInt8 → List UInt8
  | [] => []
  | c :: l => if (c.toNat : Int) = 61 then l else rsOf l
theorem cut_spec : ∀ l : List UInt8, (Lib.index l [61] = -1 ∧ nmOf l = l ∧ rsOf l = []) ∨ ∃ i : Nat, Lib.index l [61] = (i : Int) ∧ nmOf l = l.take i ∧ rsOf l = l.drop (i + 1) ∧ i < l.length
  | [] => .inl ⟨rfl, rfl, rfl⟩
  | c :: l => by
    have h61 : ((61 : UInt8).toNat : Int) = 61 := rfl
    by_cases hc : (c.toNat : Int) = 61
    · have hcc : c = 61 := UInt8.toNat_inj.1 (by have : (61 : UInt8).toNat = 61 := rfl; omega)
      subst hcc
      refine .inr ⟨0, by simp [Lib.index, List.isPrefixOf], by rw [nmOf, if_pos hc]; rfl, by rw [rsOf, if_pos hc]; rfl, by simp⟩
    · have hne : ¬ (61 : UInt8) = c := by rintro rfl; exact hc rfl
      have hp : ([61] : List UInt8).isPrefixOf (c :: l) = false := by simp [List.isPrefixOf, hne]
      have e : Lib.index (c :: l) [61] = if Lib.index l [61] == -1 then -1 else Lib.index l [61] + 1 := by
        rw [Lib.index, hp]; simp
      rw [e, nmOf, if_neg hc, rsOf, if_neg hc]
      rcases cut_spec l with ⟨h1, h2, h3⟩ | ⟨i, h1, h2, h3, h4⟩
      · exact .inl ⟨by rw [h1]; rfl, by rw [h2], h3⟩
      · refine .inr ⟨i + 1, ?_, by rw [h2]; rfl, by rw [h3]; rfl, by simp; omega⟩
        rw [h1, if_neg (by simp)]
        rfl
theorem cut_eq (l : List UInt8) : (Lib.cut l [61]).1 = nmOf l ∧ (Lib.cut l [61]).2.1 = rsOf l := by
  rcases cut_spec l with ⟨h1, h2, h3⟩ | ⟨i, h1, h2, h3, h4⟩
  · have : ¬ (0 : Int) ≤ -1 := by decide
    unfold Lib.cut
    rw [h1, if_neg this]
    exact ⟨h2.symm, h3.symm⟩
  · unfold Lib.cut
    rw [h1, if_pos (by omega), Int.toNat_natCast]
    exact ⟨h2.symm, h3.symm⟩
theorem rsOf_len (l : List UInt8) : rsOf l = [] ∨ (nmOf l).length + 1 + (rsOf l).length = l.length := by
  rcases cut_spec l with ⟨h1, h2, h3⟩ | ⟨i, h1, h2, h3, h4⟩
  · exact .inl h3
  · right
    rw [h2, h3, List.length_take, List.length_drop]
    omega
theorem nmOf_len (l : List UInt8) : (nmOf l).length ≤ l.length := by
  rcases cut_spec l with ⟨h1, h2, h3⟩ | ⟨i, h1, h2, h3, h4⟩
  · rw [h2]; exact Nat.le_refl _
  · rw [h2, List.length_take]; omega

/-- The label with which bytes begin, and how many it has. -/
def partP (l : List UInt8) : (List UInt8 × List UInt8) × Nat := if (unqL (rsOf l)).2 = 0 then (([], []), 0) else ((nmOf l, (unqL (rsOf l)).1), (nmOf l).length + 1 + (unqL (rsOf l)).2)
theorem unqL_len (l : List UInt8) : (unqL l).1.length ≤ l.length ∧ (unqL l).2 ≤ l.length := by
  cases l with
  | nil => simp [unqL]
  | cons c r =>
    rw [unqL]
    split
    · have := unqGo_len r false [] 1
      simp at this ⊢
      omega
    · simp
theorem partP_len (l : List UInt8) : (partP l).2 ≤ l.length ∧ (partP l).1.1.length ≤ l.length ∧ (partP l).1.2.length ≤ l.length := by
  have h1 := unqL_len (rsOf l)
  have h3 := nmOf_len l
  unfold partP
  split
  · simp
  · rename_i h
    have hl : (nmOf l).length + 1 + (rsOf l).length = l.length := by
      rcases rsOf_len l with e | e
      · rw [e] at h; exact absurd rfl h
      · exact e
    simp only
    omega
def mkP (p : List UInt8 × List UInt8) : Pp := (⟨p.1.toArray⟩, ⟨p.2.toArray⟩)
/-- The labels that stand in bytes, behind the opening brace, up to the closing one at the end. -/
def readGo : Nat → List UInt8 → List Pp → Option (List Pp)
  | 0, _, _ => none
  | f + 1, l, acc =>
    if (partP l).2 = 0 then none
    else if l.drop (partP l).2 = [125] then some (acc ++ [mkP (partP l).1])
    else if Lib.hasPrefix (l.drop (partP l).2) [44] = true then readGo f (l.drop ((partP l).2 + 1)) (acc ++ [mkP (partP l).1])
    else none
def readB (t : List UInt8) : Option (List Pp) := if t = [123, 125] then some [] else if Lib.hasPrefix t [123] = true then readGo (t.length + 1) (t.drop 1) [] else none
theorem readGo_fuel : ∀ (f g : Nat) (l : List UInt8) (acc : List Pp), l.length < f → l.length < g → readGo f l acc = readGo g l acc
  | 0, _, l, _, h, _ => by omega
  | _ + 1, 0, l, _, _, h => by omega
  | f + 1, g + 1, l, acc, hf, hg => by
    rw [readGo, readGo]
    split
    · rfl
    · split
      · rfl
      · split
        · rename_i h1 h2 h3
          have hl : 0 < l.length := by
            cases l with
            | nil => simp at h3; exact absurd h3 (by simp [Lib.hasPrefix])
            | cons => simp
          exact readGo_fuel f g _ _ (by rw [List.length_drop]; omega) (by rw [List.length_drop]; omega)
        · rfl
/-- The error, and the set. -/
def parseE (t : List UInt8) : Int := if 4096 < t.length then 10 else match readB t with
  | none => 10
  | some l => if rightL l = true then 0 else 40
def parseL (t : List UInt8) : List Pp := if 4096 < t.length then [] else match readB t with
  | none => []
  | some l => if rightL l = true then l else []
theorem ext_drop (s : ByteArray) (k : Nat) : s.extract k s.size = ⟨(s.data.toList.drop k).toArray⟩ := by
  apply ByteArray.ext
  apply Array.toList_inj.1
  simp only [ByteArray.data_extract, Array.toList_extract, List.extract_eq_take_drop]
  rw [List.take_of_length_le (by simp)]
end Go.Proofs.YtcmpenmaphmifaaGreatDoor
