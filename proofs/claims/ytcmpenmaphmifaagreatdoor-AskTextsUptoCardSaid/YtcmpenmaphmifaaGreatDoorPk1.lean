/- The program's sum of samples. -/
import Derived.Test.YtcmpenmaphmifaaGreatDoorPk0
import Derived.Lib.IndexAny
import Derived.LoopTactic
namespace Go.Proofs.YtcmpenmaphmifaaGreatDoor
open Go.RowKit

def sgL : List UInt8 := [61, 33, 94, 42]
def sgB (o : Int) : List UInt8 := if o = 1 then [61] else if o = 2 then [33, 61] else if o = 3 then [94, 61] else if o = 4 then [42, 61] else []
def opR (r : List UInt8) : Int := if Lib.hasPrefix r [61] = true then 1 else if Lib.hasPrefix r [33, 61] = true then 2 else if Lib.hasPrefix r [94, 61] = true then 3 else if Lib.hasPrefix r [42, 61] = true then 4 else 0
theorem opR_bd (r : List UInt8) : 0 ≤ opR r ∧ opR r ≤ 4 := by unfold opR; (repeat' split) <;> omega
theorem sgB_len (o : Int) : (sgB o).length ≤ 2 := by unfold sgB; (repeat' split) <;> decide
theorem hasPrefix_len {l p : List UInt8} (h : Lib.hasPrefix l p = true) : p.length ≤ l.length := (List.isPrefixOf_iff_prefix.1 h).length_le
theorem opR_len (r : List UInt8) : (sgB (opR r)).length ≤ r.length := by
  unfold opR
  split
  · have := hasPrefix_len ‹_›; simpa [sgB] using this
  split
  · have := hasPrefix_len ‹_›; simpa [sgB] using this
  split
  · have := hasPrefix_len ‹_›; simpa [sgB] using this
  split
  · have := hasPrefix_len ‹_›; simpa [sgB] using this
  · exact Nat.zero_le _
theorem unqL_le (l : List UInt8) : (unqL l).1.length ≤ l.length ∧ (unqL l).2 ≤ l.length := by
  have := unqB_len ⟨l.toArray⟩
  simpa [unqB, ByteArray.size] using this
def mkR (n : List UInt8) (o : Int) (v : List UInt8) : Rp := (⟨n.toArray⟩, o, ⟨v.toArray⟩)
/-- The rule with which a text begins at whose place k a sign begins, and how many bytes it has. -/
def ruleAt (t : List UInt8) (k : Nat) : Rp × Nat :=
  if (unqL ((t.drop k).drop (sgB (opR (t.drop k))).length)).2 = 0 ∨ ruleB (mkR (t.take k) (opR (t.drop k)) (unqL ((t.drop k).drop (sgB (opR (t.drop k))).length)).1) = false then (nilR, 0)
  else (mkR (t.take k) (opR (t.drop k)) (unqL ((t.drop k).drop (sgB (opR (t.drop k))).length)).1, k + (sgB (opR (t.drop k))).length + (unqL ((t.drop k).drop (sgB (opR (t.drop k))).length)).2)
def partR (t : List UInt8) : Rp × Nat := if Lib.indexAny t sgL < 0 then (nilR, 0) else ruleAt t (Lib.indexAny t sgL).toNat
theorem indexAny_lt (c : List UInt8) : ∀ l : List UInt8, Lib.indexAny l c < l.length
  | [] => by simp [Lib.indexAny]
  | b :: l => by
    have := indexAny_lt c l
    have h0 := Lib.indexAny_ge c l
    unfold Lib.indexAny
    rw [List.length_cons]
    split
    · omega
    · split <;> omega
theorem ruleAt_len {t : List UInt8} {k : Nat} (hk : k ≤ t.length) : (ruleAt t k).2 ≤ t.length ∧ (ruleAt t k).1.1.size ≤ t.length ∧ (ruleAt t k).1.2.2.size ≤ t.length := by
  have h1 := opR_len (t.drop k)
  have h2 := unqL_le ((t.drop k).drop (sgB (opR (t.drop k))).length)
  rw [List.length_drop, List.length_drop] at h2
  rw [List.length_drop] at h1
  unfold ruleAt
  split
  · exact ⟨Nat.zero_le _, Nat.zero_le _, Nat.zero_le _⟩
  · have e1 : (⟨(t.take k).toArray⟩ : ByteArray).size = (t.take k).length := by simp [ByteArray.size]
    have e2 : (⟨(unqL ((t.drop k).drop (sgB (opR (t.drop k))).length)).1.toArray⟩ : ByteArray).size = (unqL ((t.drop k).drop (sgB (opR (t.drop k))).length)).1.length := by simp [ByteArray.size]
    refine ⟨?_, ?_, ?_⟩
    · show k + _ + _ ≤ _
      omega
    · show ByteArray.size ⟨(t.take k).toArray⟩ ≤ _
      rw [e1, List.length_take]
      omega
    · show ByteArray.size ⟨(unqL ((t.drop k).drop (sgB (opR (t.drop k))).length)).1.toArray⟩ ≤ _
      rw [e2]
      omega
theorem partR_len (t : List UInt8) : (partR t).2 ≤ t.length ∧ (partR t).1.1.size ≤ t.length ∧ (partR t).1.2.2.size ≤ t.length := by
  unfold partR
  split
  · exact ⟨Nat.zero_le _, Nat.zero_le _, Nat.zero_le _⟩
  · have := indexAny_lt sgL t
    exact ruleAt_len (by omega)

def parseGo : Nat → List UInt8 → Nat → List Rp → List Rp × Nat
  | 0, _, _, _ => ([], 0)
  | f + 1, t, at_, acc => if (partR t).2 = 0 ∨ acc.length = 16 then ([], 0)
    else if Lib.hasPrefix (t.drop (partR t).2) [125] = true then (acc ++ [(partR t).1], at_ + (partR t).2 + 1)
    else if Lib.hasPrefix (t.drop (partR t).2) [44] = true then parseGo f (t.drop ((partR t).2 + 1)) (at_ + (partR t).2 + 1) (acc ++ [(partR t).1])
    else ([], 0)
def parseB (t : List UInt8) : List Rp × Nat :=
  if Lib.hasPrefix t [123, 125] = true then ([], 2) else if Lib.hasPrefix t [123] = true then parseGo 17 (t.drop 1) 1 [] else ([], 0)
def SmL (N : Nat) (l : List Rp) : Prop := ∀ x ∈ l, x.1.size ≤ N ∧ x.2.2.size ≤ N
theorem parseGo_sm (N : Nat) : ∀ (f : Nat) (t : List UInt8) (at_ : Nat) (acc : List Rp), t.length ≤ N → SmL N acc → SmL N (parseGo f t at_ acc).1
  | 0, _, _, _, _, _ => fun x hx => by simp [parseGo] at hx
  | f + 1, t, at_, acc, ht, ha => by
    have hp := partR_len t
    have hs : SmL N (acc ++ [(partR t).1]) := fun x hx => by
      rcases List.mem_append.1 hx with h | h
      · exact ha x h
      · simp at h; subst h; omega
    rw [parseGo]
    split
    · exact fun x hx => by simp at hx
    split
    · exact hs
    split
    · exact parseGo_sm N f _ _ _ (by rw [List.length_drop]; omega) hs
    · exact fun x hx => by simp at hx
theorem parseB_sm (t : List UInt8) : SmL t.length (parseB t).1 := by
  unfold parseB
  split
  · exact fun x hx => by simp at hx
  split
  · exact parseGo_sm _ _ _ _ _ (by rw [List.length_drop]; omega) (fun x hx => by simp at hx)
  · exact fun x hx => by simp at hx
theorem parse_awake : parseB [123, 97, 61, 34, 120, 34, 125, 46, 46] = ([(⟨#[97]⟩, 1, ⟨#[120]⟩)], 7) := by decide +kernel
theorem all_awake : allB [(⟨#[97]⟩, ⟨#[120]⟩)] [(⟨#[97]⟩, 1, ⟨#[120]⟩)] = true ∧ allB [] [(⟨#[97]⟩, 1, ⟨#[120]⟩)] = false := by decide +kernel
end Go.Proofs.YtcmpenmaphmifaaGreatDoor
namespace Go.Proofs.YtcmpenmaphmifaaGreatDoor
open Go.RowKit

/-- A rule's part of the text. -/
def partRL (x : Rp) : List UInt8 := x.1.data.toList ++ sgB x.2.1 ++ quoteB x.2.2
def partRS (x : Rp) : ByteArray := x.1 ++ ⟨(sgB x.2.1).toArray⟩ ++ ⟨(quoteB x.2.2).toArray⟩
theorem partRS_list (x : Rp) : (partRS x).data.toList = partRL x := by simp [partRS, partRL]
def SmR2 (l : List Rp) : Prop := ∀ x ∈ l, x.1.size ≤ 1048576 ∧ x.2.2.size ≤ 1048576
theorem partRL_len {x : Rp} (h : x.1.size ≤ 1048576 ∧ x.2.2.size ≤ 1048576) : (partRL x).length ≤ 4000000 := by
  have h2 := quoteB_len x.2.2
  have h4 := sgB_len x.2.1
  have h3 : x.1.data.toList.length = x.1.size := by simp
  simp only [partRL, List.length_append, h3]
  omega
def textR (l : List Rp) : List UInt8 := 123 :: (Lib.join (l.map partRL) [44] ++ [125])
theorem partsR_len {l : List Rp} (h : SmR2 l) : (Lib.join (l.map partRL) [44]).length ≤ l.length * 4000001 := by
  have := join_len_le [44] 4000000 (l.map partRL) (fun x hx => by
    obtain ⟨p, hp, rfl⟩ := List.mem_map.1 hx
    exact partRL_len (h p hp))
  simpa using this
theorem partsR_list (l : List Rp) : (l.map partRS).map (·.data.toList) = l.map partRL := by
  rw [List.map_map]
  apply List.map_congr_left
  intro x _
  exact partRS_list x
end Go.Proofs.YtcmpenmaphmifaaGreatDoor
namespace Go.Proofs.YtcmpenmaphmifaaGreatDoor
open Go.RowKit

def Ok0 (w : World) (e : Ending) (w' : World) : Prop := e = .returned (.bool true) ∧ Below w.heap.size w w'
end Go.Proofs.YtcmpenmaphmifaaGreatDoor
namespace Go.Proofs.YtcmpenmaphmifaaGreatDoor
open Go.RowKit

section
variable {α : Type} {enc : α → List Value} {k : Nat} {P : Program}

theorem flatMap_len (henc : ∀ x, (enc x).length = k) (l : List α) : (l.flatMap enc).length = l.length * k := by
  induction l with
  | nil => simp
  | cons x l ih => rw [List.flatMap_cons, List.length_append, ih, henc, List.length_cons, Nat.add_mul]; omega
theorem flatMap_split (henc : ∀ x, (enc x).length = k) : ∀ (l : List α) (j : Nat) (u : Value), (l.flatMap enc)[j]? = some u → ∃ i x q, l[i]? = some x ∧ (enc x)[q]? = some u ∧ j = i * k + q
  | [], j, u, h => by simp at h
  | y :: l, j, u, h => by
    rw [List.flatMap_cons] at h
    by_cases hj : j < (enc y).length
    · rw [List.getElem?_append_left hj] at h
      exact ⟨0, y, j, rfl, h, by omega⟩
    · rw [List.getElem?_append_right (by omega)] at h
      obtain ⟨i, x, q, h1, h2, h3⟩ := flatMap_split henc l _ u h
      refine ⟨i + 1, x, q, by simpa using h1, h2, ?_⟩
      rw [henc] at h3 hj
      rw [Nat.add_mul]
      omega

theorem run_appE {T ST : TypeId} (hund : P.underlying ST = some (.slice T)) {z : Value} {bytes : Nat} (hinfo : (P.info? T).map (fun i => (i.zero, i.size, i.bytes)) = some (some z, k, bytes)) (hz : z.cells.size = k) (hk : 0 < k)
    (henc : ∀ x, (enc x).length = k) (h1 : ∀ x, ∀ u ∈ enc x, u.oneCell' = true) (w : World) (ty : TypeId) {K K' : Nat} {v : Value} {l m : List α} (hown : So enc k w K T v l) {A : Option Addr} {cap : Nat} (hsrc : Sr enc k w K' A cap m)
    (hm : l.length + m.length ≤ maxLen) (hsz : (l.length + m.length) * bytes ≤ 140737488355328) (hbase : K ≤ w.heap.size) :
    ∃ A' cap' w', (Builtin.append_ #[ST, ST] ty #[v, .slice A m.length cap]).run P w = .ok (.slice A' (l.length + m.length) cap') w' ∧ So enc k w' K T (.slice A' (l.length + m.length) cap') (l ++ m) ∧ w.grownBy w' v.ownBlock ∧
      ((Value.slice A' (l.length + m.length) cap').ownBlock = v.ownBlock ∨ (Value.slice A' (l.length + m.length) cap').ownBlock = some w.heap.size) := by
  obtain ⟨i0, hi, hz0, hz1, hz2⟩ := info_parts hinfo
  rcases A with _ | ad
  · have hc := hsrc.nil rfl
    have hm0 : m = [] := List.eq_nil_of_length_eq_zero (by have := hsrc.le; omega)
    subst hm0
    subst hc
    obtain ⟨A', cap', hv⟩ := hown.form
    have hrun := run_append_owned_none (P := P) w K ST ty T i0 k hund hi v _ _ hown
    exact ⟨A', cap', w, by rw [hv] at hrun ⊢; exact hrun, by rw [List.append_nil]; exact hv ▸ hown, ⟨rfl, rfl, rfl, Nat.le_refl _, fun _ _ _ => rfl⟩, .inl (by rw [hv]; rfl)⟩
  · obtain ⟨v', w', hr, h2, h3, _, h5⟩ := run_append_own_at (P := P) w K ST ty T i0 z k bytes hund hi hz0 hz1 hz2 hz hk v _ _ hown ad m.length cap (m.flatMap enc) (flatMap_len henc m)
      (fun j u hj => by
        obtain ⟨i, x, q, e1, e2, e3⟩ := flatMap_split henc m j u hj
        have hpos : 0 < m.length := by have := (List.getElem?_eq_some_iff.1 e1).1; omega
        obtain ⟨ad', he, _, hcell⟩ := hsrc.at_ hpos
        cases he
        rw [e3]
        exact hcell i x e1 q u e2)
      (fun u hu => by
        obtain ⟨x, _, hx⟩ := List.mem_flatMap.1 hu
        exact h1 x u hx) hm hsz hbase
    have h2' : So enc k w' K T v' (l ++ m) := by unfold So; rw [List.length_append, List.flatMap_append]; exact h2
    obtain ⟨A', cap', hv⟩ := h2'.form
    rw [List.length_append] at hv
    subst hv
    exact ⟨A', cap', w', hr, h2', h3, h5⟩

theorem wpList_appE {T ST : TypeId} (hund : P.underlying ST = some (.slice T)) {z : Value} {bytes : Nat} (hinfo : (P.info? T).map (fun i => (i.zero, i.size, i.bytes)) = some (some z, k, bytes)) (hz : z.cells.size = k) (hk : 0 < k)
    (henc : ∀ x, (enc x).length = k) (h1 : ∀ x, ∀ u ∈ enc x, u.oneCell' = true)
    {ops : Array Oper} {rest : List Oper} {o : Oper} {a : Act} {Q : Exit → Act → World → Prop} (w : World) (hgd : o.guard = none) (s x : Operand)
    (ho : o.op = .call { callee := .builtin .append, args := #[s, x], argTypes := #[ST, ST] })
    (K : Nat) (v : Value) (l : List α) (hs : a.eval s = v) (hown : So enc k w K T v l) (A : Option Addr) (M cap : Nat) (m : List α) (hx : a.eval x = .slice A M cap) (hM : m.length = M) (K' : Nat) (hsrc : Sr enc k w K' A cap m)
    (N : Nat) (hN : l.length + m.length = N) (hm : N ≤ maxLen) (hsz : N * bytes ≤ 140737488355328) (hbase : K ≤ w.heap.size)
    (h : ∀ A' cap' w', So enc k w' K T (.slice A' N cap') (l ++ m) → w.grownBy w' v.ownBlock → ((Value.slice A' N cap').ownBlock = v.ownBlock ∨ (Value.slice A' N cap').ownBlock = some w.heap.size) → wpList P ops Q rest (a.put o.dst (.slice A' N cap')) w') : wpList P ops Q (o :: rest) a w := by
  subst hN hM
  refine wpList_plain hgd fun _ hK => ?_
  obtain ⟨A', cap', w', hr, h2, h3, h4⟩ := run_appE hund hinfo hz hk henc h1 w o.type hown hsrc hm hsz hbase
  unfold Oper.wp execOp
  simp only [ho, resolve, invoke, builtin, Sem.run_bind, Sem.run_pure, Result.andThen_ok, List.map_toArray, List.map_cons, List.map_nil, hs, hx, hr]
  exact hK _ _ (h A' cap' w' h2 h3 h4)

theorem lit_so (w : World) (K : Nat) (T : TypeId) (H : Nat) (hH : w.heap.size = H) (hK : K ≤ H) (cs : Array Value) (n : Nat) (l : List α) (henc : ∀ x, (enc x).length = k) (h : cs.toList = l.flatMap enc) (hn : l.length = n) (hm : n ≤ maxLen) : So enc k (w.alloc (.cells cs T)) K T (.slice (some ⟨H, 0, none⟩) n n) l := by
  subst hH hn
  have := World.ownsRow_lit (e := T) (size := k) w cs l.length hK hm (by rw [← Array.length_toList, h, flatMap_len henc])
  rw [h] at this
  exact this
end
end Go.Proofs.YtcmpenmaphmifaaGreatDoor
namespace Go.Proofs.YtcmpenmaphmifaaGreatDoor
open Go.RowKit
section
variable {P : Program} {ST : TypeId} {k : Nat} (hu : P.underlying ST = some (.slice (P.elem ST))) (hs : ∀ w, (sizeOf (P.elem ST)).run P w = .ok k w)
include hu hs
theorem slice_fromK (A : Option Addr) (n cap j : Nat) (hj : j ≤ n) (w : World) :
    (Instr.slice ST (.slice A n cap) (some (.int .i64 (j : Int))) none none).run P w = .ok (.slice (if cap = j then A else A.map (·.add (j * k))) (n - j) (cap - j)) w := by
  have h := run_slice_l (P := P) (w := w) (t := ST) (a := A) (len := n) (cap := cap) hu .i64 (j : Int) (by omega) (by omega)
  rw [h, hs]
  simp [Result.andThen, sliced]
theorem slice_toK (A : Option Addr) (n cap j : Nat) (hj : j ≤ cap) (w : World) :
    (Instr.slice ST (.slice A n cap) none (some (.int .i64 (j : Int))) none).run P w = .ok (.slice A j cap) w := by
  have h := run_slice_h (P := P) (w := w) (t := ST) (a := A) (len := n) (cap := cap) hu .i64 (j : Int) (by omega) (by omega)
  rw [h, hs]
  have : ∀ a : Addr, a.add 0 = a := fun a => by unfold Addr.add; rw [if_pos rfl]
  cases A <;> simp [Result.andThen, sliced, this]
end
section
variable {α : Type} {enc : α → List Value} {k : Nat} {w : World} {K cap : Nat} {A : Option Addr} {l : List α}
theorem Sr.from (h : Sr enc k w K A cap l) {j : Nat} (hj : j ≤ l.length) : Sr enc k w K (if cap = j then A else A.map (·.add (j * k))) (cap - j) (l.drop j) := by
  have hle := h.le
  have hm := h.max
  have hl : (l.drop j).length = l.length - j := List.length_drop
  refine ⟨by omega, by omega, fun e => ?_, fun hn => ?_⟩
  · by_cases hc : cap = j
    · omega
    · rw [if_neg hc] at e
      cases A with
      | none => have := h.nil rfl; omega
      | some a => cases e
  · obtain ⟨ad, e, hb, hc⟩ := h.at_ (by omega)
    subst e
    rw [if_neg (by omega)]
    refine ⟨ad.add (j * k), rfl, by rw [el_block_of_add]; exact hb, fun i x hi q u hu => ?_⟩
    rw [List.getElem?_drop] at hi
    have := hc (j + i) x hi q u hu
    rwa [el_add_of_add, show j * k + (i * k + q) = (j + i) * k + q by rw [Nat.add_mul]; omega]
end
end Go.Proofs.YtcmpenmaphmifaaGreatDoor
namespace Go.Proofs.YtcmpenmaphmifaaGreatDoor
open Go.RowKit

structure Tn (P : Nat → Prop) (w w' : World) : Prop where
  os : w'.os = w.os
  tape : w'.tape = w.tape
  output : w'.output = w.output
  size : w.heap.size ≤ w'.heap.size
  block : ∀ k, k < w.heap.size → ¬ P k → w'.heap[k]? = w.heap[k]?

section
variable {P Q R : Nat → Prop} {w w1 w2 w' : World}
theorem Tn.refl (P : Nat → Prop) (w : World) : Tn P w w := ⟨rfl, rfl, rfl, Nat.le_refl _, fun _ _ _ => rfl⟩
theorem Tn.thenQ (h : Tn P w w1) (h2 : Tn Q w1 w2) (hQ : ∀ k, k < w.heap.size → Q k → P k) : Tn P w w2 :=
  ⟨h2.os.trans h.os, h2.tape.trans h.tape, h2.output.trans h.output, Nat.le_trans h.size h2.size, fun k hk hn =>
    (h2.block k (Nat.lt_of_lt_of_le hk h.size) (fun q => hn (hQ k hk q))).trans (h.block k hk hn)⟩
theorem Tn.then (h : Tn P w w1) (h2 : Tn P w1 w2) : Tn P w w2 := h.thenQ h2 fun _ _ h => h
theorem Tn.mono (h : Tn P w w') (hP : ∀ k, k < w.heap.size → P k → Q k) : Tn Q w w' :=
  ⟨h.os, h.tape, h.output, h.size, fun k hk hn => h.block k hk fun p => hn (hP k hk p)⟩
theorem Tn.ofBelow {B : Nat} (h : Below B w w') : Tn (B ≤ ·) w w' := ⟨h.os, h.tape, h.output, h.size, fun k _ hn => h.block k (by omega)⟩
theorem Tn.ofNew (h : Below w.heap.size w w') : Tn P w w' := ⟨h.os, h.tape, h.output, h.size, fun k hk _ => h.block k hk⟩
theorem Tn.below {B : Nat} (h : Tn P w w') (hB : B ≤ w.heap.size) (hP : ∀ k, k < w.heap.size → P k → B ≤ k) : Below B w w' :=
  ⟨h.os, h.tape, h.output, h.size, fun k hk => h.block k (by omega) fun p => by have := hP k (by omega) p; omega⟩
theorem Tn.ofGrown {row : Option Nat} (h : w.grownBy w' row) : Tn (fun k => some k = row) w w' := ⟨h.os, h.tape, h.output, h.size, fun k hk hn => h.block k hk hn⟩
theorem Tn.setCell (w : World) (b o : Nat) (v : Value) : Tn (· = b) w (w.setCell ⟨b, o, none⟩ v) :=
  ⟨rfl, rfl, rfl, by simp [World.setCell], fun k _ hn => by
    simp only [World.setCell]; rw [Array.getElem?_modify, if_neg (fun e => hn e.symm)]⟩
theorem Tn.alloc (w : World) (o : Obj) : Tn P w (w.alloc o) := ⟨rfl, rfl, rfl, by simp, fun k hk _ => Below.heap_alloc w o k hk⟩
theorem Tn.drew (w : World) : Tn P w w.drew := ⟨rfl, rfl, rfl, Nat.le_refl _, fun _ _ _ => rfl⟩
theorem Tn.cell (h : Tn P w w') {p : Addr} {v : Value} (hc : w.cell? p = some v) (hn : ¬ P p.block) : w'.cell? p = some v :=
  (World.cell?_of_block (h.block _ (World.block_lt_of_cell? w _ hc) hn)).trans hc
theorem Tn.frozen (h : Tn P w w') {p : Addr} (hp : p.block < w.heap.size) (hn : ¬ P p.block) : w'.frozen? p = w.frozen? p :=
  World.frozen?_of_block (h.block _ hp hn)
end
end Go.Proofs.YtcmpenmaphmifaaGreatDoor
namespace Go.Proofs.YtcmpenmaphmifaaGreatDoor
open Go.RowKit

abbrev Smp := Int × Int
def encSm (x : Smp) : List Value := [.int .i64 x.1, .int .i64 x.2]
abbrev agS (x : Smp) : Value := .agg #[.int .i64 x.1, .int .i64 x.2]
theorem encSm_len (x : Smp) : (encSm x).length = 2 := rfl
theorem encSm_one (x : Smp) : ∀ u ∈ encSm x, u.oneCell' = true := by intro u hu; simp [encSm] at hu; rcases hu with rfl | rfl <;> rfl
structure Sok (x : Smp) : Prop where
  t0 : -9223372036854775808 ≤ x.1
  t1 : x.1 ≤ 9223372036854775807
  n0 : -9223372036854775808 ≤ x.2
  n1 : x.2 ≤ 9223372036854775807

/-- The sum of the numbers. -/
def sumI : List Smp → Int
  | [] => 0
  | x :: r => x.2 + sumI r
def upI : List Smp → Int
  | [] => 0
  | x :: r => x.2 / 4294967296 + upI r
def loI : List Smp → Int
  | [] => 0
  | x :: r => x.2 % 4294967296 + loI r
theorem sumI_app (a b : List Smp) : sumI (a ++ b) = sumI a + sumI b := by
  induction a with
  | nil => simp [sumI]
  | cons x a ih => simp only [List.cons_append, sumI, ih]; omega
theorem upI_app (a b : List Smp) : upI (a ++ b) = upI a + upI b := by
  induction a with
  | nil => simp [upI]
  | cons x a ih => simp only [List.cons_append, upI, ih]; omega
theorem loI_app (a b : List Smp) : loI (a ++ b) = loI a + loI b := by
  induction a with
  | nil => simp [loI]
  | cons x a ih => simp only [List.cons_append, loI, ih]; omega
theorem up_lo (a : List Smp) : sumI a = upI a * 4294967296 + loI a := by
  induction a with
  | nil => simp [sumI, upI, loI]
  | cons x a ih => simp only [sumI, upI, loI, ih]; omega
theorem up_bound (a : List Smp) (h : ∀ x ∈ a, Sok x) : -2147483648 * (a.length : Int) ≤ upI a ∧ upI a ≤ 2147483648 * (a.length : Int) := by
  induction a with
  | nil => simp [upI]
  | cons x a ih =>
    have h1 := h x (List.mem_cons_self ..)
    have h2 := ih fun y hy => h y (List.mem_cons_of_mem _ hy)
    have := h1.n0; have := h1.n1
    simp only [upI, List.length_cons]
    omega
theorem lo_bound (a : List Smp) : 0 ≤ loI a ∧ loI a ≤ 4294967296 * (a.length : Int) := by
  induction a with
  | nil => simp [loI]
  | cons x a ih => simp only [loI, List.length_cons]; omega
theorem sumI_perm {a b : List Smp} (h : a.Perm b) : sumI a = sumI b := by
  induction h with
  | nil => rfl
  | cons x _ ih => simp [sumI, ih]
  | swap x y l => simp only [sumI]; omega
  | trans _ _ h1 h2 => exact h1.trans h2

/-- The first one of those that no other one is better than. -/
def bestN (lt : Int → Int → Bool) : List Smp → Smp
  | [] => (0, 0)
  | x :: r => r.foldl (fun m y => if lt y.2 m.2 then y else m) x
theorem bestN_next (lt : Int → Int → Bool) {l : List Smp} {t : Nat} (h0 : 0 < t) (ht : t < l.length) : bestN lt (l.take (t + 1)) = if lt l[t].2 (bestN lt (l.take t)).2 then l[t] else bestN lt (l.take t) := by
  rw [List.take_succ_eq_append_getElem ht]
  cases l with
  | nil => simp at ht
  | cons x l =>
    obtain ⟨s, rfl⟩ : ∃ s, t = s + 1 := ⟨t - 1, by omega⟩
    simp only [List.take_succ_cons, List.getElem_cons_succ, List.cons_append, bestN, List.foldl_append, List.foldl_cons, List.foldl_nil]
    rfl
def ltI (a b : Int) : Bool := decide (a < b)
def gtI (a b : Int) : Bool := decide (b < a)
def leastI (l : List Smp) : Int := (bestN ltI l).2
def mostI (l : List Smp) : Int := (bestN gtI l).2
def IsLeast (l : List Smp) (m : Int) : Prop := (∃ x ∈ l, x.2 = m) ∧ ∀ x ∈ l, m ≤ x.2
def IsMost (l : List Smp) (m : Int) : Prop := (∃ x ∈ l, x.2 = m) ∧ ∀ x ∈ l, x.2 ≤ m
theorem IsLeast.uniq {l : List Smp} {m n : Int} (h : IsLeast l m) (k : IsLeast l n) : m = n := by
  obtain ⟨⟨x, hx, rfl⟩, h2⟩ := h
  obtain ⟨⟨y, hy, rfl⟩, k2⟩ := k
  have := h2 y hy; have := k2 x hx
  omega
theorem IsMost.uniq {l : List Smp} {m n : Int} (h : IsMost l m) (k : IsMost l n) : m = n := by
  obtain ⟨⟨x, hx, rfl⟩, h2⟩ := h
  obtain ⟨⟨y, hy, rfl⟩, k2⟩ := k
  have := h2 y hy; have := k2 x hx
  omega
theorem fold_least (r : List Smp) : ∀ x : Smp, IsLeast (x :: r) (r.foldl (fun m y => if ltI y.2 m.2 then y else m) x).2 := by
  induction r with
  | nil => intro x; exact ⟨⟨x, by simp, rfl⟩, by simp⟩
  | cons y r ih =>
    intro x
    simp only [List.foldl_cons]
    by_cases h : ltI y.2 x.2 = true
    · rw [if_pos h]
      have := ih y
      obtain ⟨⟨z, hz, e⟩, h2⟩ := this
      refine ⟨⟨z, by simp at hz ⊢; rcases hz with h | h <;> simp [h], e⟩, fun u hu => ?_⟩
      have hy := h2 y (by simp)
      simp [ltI] at h
      rcases List.mem_cons.1 hu with rfl | hu
      · omega
      · exact h2 u hu
    · rw [if_neg h]
      have := ih x
      obtain ⟨⟨z, hz, e⟩, h2⟩ := this
      refine ⟨⟨z, by simp at hz ⊢; rcases hz with h | h <;> simp [h], e⟩, fun u hu => ?_⟩
      have hy := h2 x (by simp)
      simp [ltI] at h
      rcases List.mem_cons.1 hu with rfl | hu
      · exact hy
      · rcases List.mem_cons.1 hu with rfl | hu
        · omega
        · exact h2 u (List.mem_cons_of_mem _ hu)
theorem fold_most (r : List Smp) : ∀ x : Smp, IsMost (x :: r) (r.foldl (fun m y => if gtI y.2 m.2 then y else m) x).2 := by
  induction r with
  | nil => intro x; exact ⟨⟨x, by simp, rfl⟩, by simp⟩
  | cons y r ih =>
    intro x
    simp only [List.foldl_cons]
    by_cases h : gtI y.2 x.2 = true
    · rw [if_pos h]
      have := ih y
      obtain ⟨⟨z, hz, e⟩, h2⟩ := this
      refine ⟨⟨z, by simp at hz ⊢; rcases hz with h | h <;> simp [h], e⟩, fun u hu => ?_⟩
      have hy := h2 y (by simp)
      simp [gtI] at h
      rcases List.mem_cons.1 hu with rfl | hu
      · omega
      · exact h2 u hu
    · rw [if_neg h]
      have := ih x
      obtain ⟨⟨z, hz, e⟩, h2⟩ := this
      refine ⟨⟨z, by simp at hz ⊢; rcases hz with h | h <;> simp [h], e⟩, fun u hu => ?_⟩
      have hy := h2 x (by simp)
      simp [gtI] at h
      rcases List.mem_cons.1 hu with rfl | hu
      · exact hy
      · rcases List.mem_cons.1 hu with rfl | hu
        · omega
        · exact h2 u (List.mem_cons_of_mem _ hu)
theorem least_is {l : List Smp} (h : l ≠ []) : IsLeast l (leastI l) := by
  cases l with
  | nil => exact absurd rfl h
  | cons x r => exact fold_least r x
theorem most_is {l : List Smp} (h : l ≠ []) : IsMost l (mostI l) := by
  cases l with
  | nil => exact absurd rfl h
  | cons x r => exact fold_most r x
theorem perm_ne {a b : List Smp} (h : a.Perm b) (ha : a ≠ []) : b ≠ [] := by
  rintro rfl
  exact ha h.eq_nil
theorem least_perm {a b : List Smp} (h : a.Perm b) (ha : a ≠ []) : leastI a = leastI b := by
  obtain ⟨⟨x, hx, e⟩, h2⟩ := least_is (perm_ne h ha)
  exact (least_is ha).uniq ⟨⟨x, h.mem_iff.2 hx, e⟩, fun y hy => h2 y (h.mem_iff.1 hy)⟩
theorem most_perm {a b : List Smp} (h : a.Perm b) (ha : a ≠ []) : mostI a = mostI b := by
  obtain ⟨⟨x, hx, e⟩, h2⟩ := most_is (perm_ne h ha)
  exact (most_is ha).uniq ⟨⟨x, h.mem_iff.2 hx, e⟩, fun y hy => h2 y (h.mem_iff.1 hy)⟩
theorem least_app {a b : List Smp} (ha : a ≠ []) (hb : b ≠ []) : leastI (a ++ b) = min (leastI a) (leastI b) := by
  obtain ⟨⟨x, hx, e⟩, h2⟩ := least_is ha
  obtain ⟨⟨y, hy, f⟩, k2⟩ := least_is hb
  refine (least_is (by simp [ha])).uniq ⟨?_, fun z hz => ?_⟩
  · by_cases h : leastI a ≤ leastI b
    · exact ⟨x, by simp [hx], by omega⟩
    · exact ⟨y, by simp [hy], by omega⟩
  · rcases List.mem_append.1 hz with h | h
    · have := h2 z h; omega
    · have := k2 z h; omega
theorem most_app {a b : List Smp} (ha : a ≠ []) (hb : b ≠ []) : mostI (a ++ b) = max (mostI a) (mostI b) := by
  obtain ⟨⟨x, hx, e⟩, h2⟩ := most_is ha
  obtain ⟨⟨y, hy, f⟩, k2⟩ := most_is hb
  refine (most_is (by simp [ha])).uniq ⟨?_, fun z hz => ?_⟩
  · by_cases h : leastI a ≤ leastI b
    · by_cases h : mostI b ≤ mostI a
      · exact ⟨x, by simp [hx], by omega⟩
      · exact ⟨y, by simp [hy], by omega⟩
    · by_cases h : mostI b ≤ mostI a
      · exact ⟨x, by simp [hx], by omega⟩
      · exact ⟨y, by simp [hy], by omega⟩
  · rcases List.mem_append.1 hz with h | h
    · have := h2 z h; omega
    · have := k2 z h; omega

def firstI (l : List Smp) : Int := (l.getD 0 (0, 0)).2
def lastI (l : List Smp) : Int := (l.getD (l.length - 1) (0, 0)).2
/-- A number that may be told, or why not. -/
def rangeB (s : Int) : Int × Int := if -9223372036854775808 ≤ s ∧ s ≤ 9223372036854775807 then (s, 0) else (0, 20)
def toldB (op : Int) (l : List Smp) : Int × Int :=
  if op = 1 then rangeB (sumI l) else if op = 2 then ((l.length : Int), 0) else if op = 3 then (leastI l, 0) else if op = 4 then (mostI l, 0) else rangeB (lastI l - firstI l)
def badB (op : Int) (l : List Smp) : Bool := !(decide (1 ≤ op) && decide (op ≤ 5) && decide ((l.length : Int) ≤ 65536))
def foldB (op : Int) (l : List Smp) : Int × Bool × Int :=
  if badB op l = true then (0, false, 1) else if l = [] then (0, (op == 2), 0) else ((toldB op l).1, ((toldB op l).2 == 0), (toldB op l).2)
theorem shr32 (x : Int) : x.fdiv 4294967296 = x / 4294967296 := Int.fdiv_eq_ediv_of_nonneg _ (by decide)
theorem and32 (x : Int) : bits .and .i64 x 4294967295 = x % 4294967296 := by
  have e : (BitVec.ofInt 64 x &&& BitVec.ofInt 64 4294967295).toNat = ((x % 18446744073709551616).toNat) % 4294967296 := by
    rw [BitVec.toNat_and, BitVec.toNat_ofInt, BitVec.toNat_ofInt]
    have : ((4294967295 : Int) % ((2 ^ 64 : Nat) : Int)).toNat = 2 ^ 32 - 1 := by decide
    rw [this, Nat.and_two_pow_sub_one_eq_mod]
    rfl
  show IntKind.i64.wrap (((BitVec.ofInt 64 x &&& BitVec.ofInt 64 4294967295).toNat : Nat) : Int) = _
  rw [e, IntKind.wrap_i64] <;> omega
end Go.Proofs.YtcmpenmaphmifaaGreatDoor
namespace Go.Proofs.YtcmpenmaphmifaaGreatDoor
open Go.RowKit

theorem info_ts : (Tryz.prog.info? 203).map (fun i => (i.zero, i.size, i.bytes)) = some (some (.agg #[.int .i64 0, .int .i64 0]), 2, 16) := by kernel_rfl
theorem grown_belowT {W w w1 : World} {v : Value} {B : Nat} (h : Below B W w) (hg : w.grownBy w1 v.ownBlock) (hB : B ≤ w.heap.size) (ho : ∀ k, v.ownBlock = some k → B ≤ k) : Below B W w1 := h.grown hg hB ho
theorem s_cells {w : World} {K cap : Nat} {A : Option Addr} {l : List Smp} (h : Sr encSm 2 w K A cap l) {i : Nat} (hi : i < l.length) : ∃ ad : Addr, A = some ad ∧ ad.block < K ∧ w.cell? (ad.add (i * 2)) = some (.int .i64 l[i].1) ∧ w.cell? ⟨(ad.add (i * 2)).block, (ad.add (i * 2)).off + 1, none⟩ = some (.int .i64 l[i].2) := by
  obtain ⟨ad, e, hb, h0, h1⟩ := h.get2 hi
  exact ⟨ad, e, hb, h0 _ rfl, h1 1 _ (by decide) rfl⟩

def NewS (w : World) (l : List Smp) (e : Ending) (w' : World) : Prop :=
  ∃ A' cap', e = .returned (.slice A' l.length cap') ∧ So encSm 2 w' w.heap.size 203 (.slice A' l.length cap') l ∧ Below w.heap.size w w'
end Go.Proofs.YtcmpenmaphmifaaGreatDoor
namespace Go.Proofs.YtcmpenmaphmifaaGreatDoor
open Go.RowKit

def cmpN (a b : Int) : Int := if a < b then -1 else if b < a then 1 else 0
set_option maxHeartbeats 800000 in
theorem isnan_any (a : Int) (w : World) : Calls Tryz.prog 170 #[.int .i64 a] w fun e w' => e = .returned (.bool false) ∧ w' = w := by
  go_enter Tryz.func170, Tryz.ntmps170
  go_wp2
  go_ret
  exact ⟨rfl, rfl⟩
set_option maxHeartbeats 800000 in
theorem compareN_any (a b : Int) (w : World) : Calls Tryz.prog 168 #[.int .i64 a, .int .i64 b] w fun e w' => e = .returned (.int .i64 (cmpN a b)) ∧ w' = w := by
  go_enter Tryz.func168, Tryz.ntmps168
  go_wp2_with (go_at_call 170; refine (isnan_any _ _).mono ?_; rintro e w1 ⟨rfl, rfl⟩)
  all_goals go_ret
  all_goals exact ⟨ret_int (by simp only [cmpN]; (repeat' split) <;> first | rfl | omega | simp_all), rfl⟩
set_option maxHeartbeats 800000 in
theorem byNum_any (x y : Smp) (w : World) : Calls Tryz.prog 155 #[agS x, agS y] w fun e w' => e = .returned (.int .i64 (cmpN x.2 y.2)) ∧ Below w.heap.size w w' := by
  go_enter Tryz.func155, Tryz.ntmps155
  go_wp2_with (go_at_call 168; refine (compareN_any _ _ _).mono ?_; rintro e w1 ⟨rfl, rfl⟩)
  go_ret
  exact ⟨rfl, by go_grown⟩
theorem wrapI (x : Int) (h0 : -9223372036854775808 ≤ x) (h1 : x ≤ 9223372036854775807) : IntKind.i64.wrap x = x := by rw [IntKind.wrap_i64]; omega
set_option maxHeartbeats 800000 in
theorem growth_any (a b : Int) (ha0 : -9223372036854775808 ≤ a) (ha1 : a ≤ 9223372036854775807) (hb0 : -9223372036854775808 ≤ b) (hb1 : b ≤ 9223372036854775807) (w : World) :
    Calls Tryz.prog 157 #[.int .i64 a, .int .i64 b] w fun e w' => e = .returned (.tuple #[.int .i64 (rangeB (b - a)).1, .int .i64 (rangeB (b - a)).2]) ∧ w' = w := by
  rcases Int.lt_trichotomy 0 a with h | h | h
  · have h2 : ¬ a < 0 := by omega
    have hw := wrapI (-9223372036854775808 + a) (by omega) (by omega)
    by_cases h3 : b < -9223372036854775808 + a
    · have hr : rangeB (b - a) = (0, 20) := if_neg (by omega)
      rw [hr]
      go_enter Tryz.func157, Tryz.ntmps157
      go_wp2
      go_ret2
      exact ⟨rfl, rfl⟩
    · have hr : rangeB (b - a) = (b - a, 0) := if_pos (by omega)
      have hv := wrapI (b - a) (by omega) (by omega)
      rw [hr]
      go_enter Tryz.func157, Tryz.ntmps157
      go_wp2
      go_ret2
      exact ⟨rfl, rfl⟩
  · subst h
    have hr : rangeB (b - 0) = (b, 0) := by rw [Int.sub_zero]; exact if_pos (by omega)
    have hv := wrapI b (by omega) (by omega)
    rw [hr]
    go_enter Tryz.func157, Tryz.ntmps157
    go_wp2
    go_ret2
    exact ⟨rfl, rfl⟩
  · have h2 : ¬ 0 < a := by omega
    have hw := wrapI (9223372036854775807 + a) (by omega) (by omega)
    by_cases h3 : 9223372036854775807 + a < b
    · have hr : rangeB (b - a) = (0, 20) := if_neg (by omega)
      rw [hr]
      go_enter Tryz.func157, Tryz.ntmps157
      go_wp2
      go_ret2
      exact ⟨rfl, rfl⟩
    · have hr : rangeB (b - a) = (b - a, 0) := if_pos (by omega)
      have hv := wrapI (b - a) (by omega) (by omega)
      rw [hr]
      go_enter Tryz.func157, Tryz.ntmps157
      go_wp2
      go_ret2
      exact ⟨rfl, rfl⟩
end Go.Proofs.YtcmpenmaphmifaaGreatDoor
namespace Go.Proofs.YtcmpenmaphmifaaGreatDoor
open Go.RowKit

theorem or32 (U L : Int) (hU0 : -2147483648 ≤ U) (hU1 : U ≤ 2147483647) (hL0 : 0 ≤ L) (hL1 : L ≤ 4294967295) : bits .or .i64 (U * 4294967296) L = U * 4294967296 + L := by
  have e : (BitVec.ofInt 64 (U * 4294967296) ||| BitVec.ofInt 64 L).toNat = (U % 4294967296).toNat * 4294967296 + L.toNat := by
    rw [BitVec.toNat_or, BitVec.toNat_ofInt, BitVec.toNat_ofInt]
    have h1 : (L % ((2 ^ 64 : Nat) : Int)).toNat = L.toNat := by omega
    have h2 : ((U * 4294967296) % ((2 ^ 64 : Nat) : Int)).toNat = 2 ^ 32 * (U % 4294967296).toNat := by omega
    rw [h1, h2, ← Nat.two_pow_add_eq_or_of_lt (by omega)]
    omega
  show IntKind.i64.wrap (((BitVec.ofInt 64 (U * 4294967296) ||| BitVec.ofInt 64 L).toNat : Nat) : Int) = _
  rw [e, IntKind.wrap_i64]
  omega
set_option maxRecDepth 100000 in
set_option maxHeartbeats 1600000 in
theorem sum_any (K : Nat) (A : Option Addr) (n cap : Nat) (l : List Smp) (w : World) (hln : l.length = n) (hp : Sr encSm 2 w K A cap l) (hK : K ≤ w.heap.size) (hl : l.length ≤ 65536) (hok : ∀ x ∈ l, Sok x) :
    Calls Tryz.prog 153 #[.slice A n cap] w fun e w' => e = .returned (.tuple #[.int .i64 (rangeB (sumI l)).1, .int .i64 (rangeB (sumI l)).2]) ∧ Below w.heap.size w w' := by
  subst hln
  have hle := hp.le
  have hmax := hp.max
  unfold maxLen at hmax
  have HO := Lib.hid hok
  clear hok
  go_enter Tryz.func153, Tryz.ntmps153
  go_wp2
  go_loopw [4, 5, 10] (fun u v i wr => ∃ (k : Nat), k ≤ l.length ∧ i = .int .i64 k ∧ u = .int .i64 (upI (l.take k)) ∧ v = .int .i64 (loI (l.take k)) ∧ Below w.heap.size w wr) (fun _ _ i _ => l.length - (intOf i).toNat)
  case atStart => exact ⟨0, Nat.zero_le _, rfl, rfl, rfl, Below.refl _ _⟩
  case round =>
    obtain ⟨k, hk, rfl, rfl, rfl, hbl⟩ := hrel
    have z := hbl.size
    have bu := up_bound (l.take k) fun x hx => HO.out x (List.mem_of_mem_take hx)
    have bo := lo_bound (l.take k)
    have hkl : ((l.take k).length : Int) ≤ 65536 := by simp; omega
    by_cases hlt : k < l.length
    · obtain ⟨ad, rfl, hadK, h1, h2⟩ := s_cells (hp.below (hbl.mono hK)) hlt
      have hx := HO.out _ (List.getElem_mem hlt)
      have htk : l.take (k + 1) = l.take k ++ [l[k]] := List.take_succ_eq_append_getElem hlt
      have hu : upI (l.take (k + 1)) = upI (l.take k) + l[k].2 / 4294967296 := by rw [htk, upI_app]; simp [upI]
      have hv : loI (l.take (k + 1)) = loI (l.take k) + l[k].2 % 4294967296 := by rw [htk, loI_app]; simp [loI]
      have x0 := hx.n0
      have x1 := hx.n1
      clear hx htk
      generalize l[k] = x at *
      obtain ⟨xn, xv⟩ := x
      simp only at h1 h2 hu hv x0 x1
      have ea := and32 xv
      have HU := Lib.hid hu
      have HV := Lib.hid hv
      generalize upI (l.take k) = u at *
      generalize loI (l.take k) = v at *
      obtain ⟨q, hq⟩ : ∃ q, xv / 4294967296 = q := ⟨_, rfl⟩
      obtain ⟨r, hr⟩ : ∃ r, r = xv % 4294967296 := ⟨_, rfl⟩
      rw [← hr] at ea
      have q0 : -2147483648 ≤ q := by omega
      have q1 : q ≤ 2147483648 := by omega
      have r0 : 0 ≤ r := by omega
      have r1 : r ≤ 4294967295 := by omega
      have e1 := wrapI (u + q) (by omega) (by omega)
      have e2 := wrapI (v + r) (by omega) (by omega)
      have HE : Hid (u + q = upI (l.take (k + 1)) ∧ v + r = loI (l.take (k + 1))) := Lib.hid ⟨by rw [HU.out, hq], by rw [HV.out, hr]⟩
      clear hu hv hr HU HV bu bo
      go_wp2
      go_roundw
      case rel => exact ⟨k + 1, by omega, by go_num, by rw [← HE.out.1], by rw [← HE.out.2], by go_grown⟩
      case measure => simp [intOf]; omega
    · obtain rfl : k = l.length := by omega
      rw [List.take_length] at bu bo ⊢
      have hul := up_lo l
      have HS := Lib.hid hul
      generalize upI l = u at *
      generalize loI l = v at *
      have ea := and32 v
      obtain ⟨q, hq⟩ : ∃ q, v / 4294967296 = q := ⟨_, rfl⟩
      obtain ⟨r, hr⟩ : ∃ r, r = v % 4294967296 := ⟨_, rfl⟩
      rw [← hr] at ea
      have q0 : 0 ≤ q := by omega
      have q1 : q ≤ 65536 := by omega
      have r0 : 0 ≤ r := by omega
      have r1 : r ≤ 4294967295 := by omega
      have e1 := wrapI (u + q) (by omega) (by omega)
      have HT : Hid (sumI l = (u + q) * 4294967296 + r) := Lib.hid (by omega)
      obtain ⟨U, hU⟩ : ∃ U, u + q = U := ⟨_, rfl⟩
      rw [hU] at HT e1
      have e1 : wrap64 (u + q) = U := by rw [hU]; unfold wrap64; omega
      have HUQ := Lib.hid hU
      clear hU
      clear hr hul HS bu bo
      by_cases hU0 : U < -2147483648
      · have HR : Hid (rangeB (sumI l) = (0, 20)) := Lib.hid (if_neg (by rw [HT.out]; omega))
        go_wp2
        go_ret2
        exact ⟨by rw [HR.out] <;> rfl, hbl⟩
      · by_cases hU1 : 2147483647 < U
        · have HR : Hid (rangeB (sumI l) = (0, 20)) := Lib.hid (if_neg (by rw [HT.out]; omega))
          go_wp2
          go_ret2
          exact ⟨by rw [HR.out] <;> rfl, hbl⟩
        · have HR : Hid (rangeB (sumI l) = (U * 4294967296 + r, 0)) := Lib.hid (by rw [HT.out]; exact if_pos (by omega))
          have eo := or32 U r (by omega) (by omega) r0 r1
          have ew := wrapI (U * 4294967296) (by omega) (by omega)
          go_wp2
          go_ret2
          exact ⟨by rw [HR.out] <;> rfl, hbl⟩
end Go.Proofs.YtcmpenmaphmifaaGreatDoor
