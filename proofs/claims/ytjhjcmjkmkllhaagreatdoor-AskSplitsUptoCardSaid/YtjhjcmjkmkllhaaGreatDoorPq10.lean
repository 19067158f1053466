/- How two lists of labels stand, as a plain function. -/
import Derived.Test.YtjhjcmjkmkllhaaGreatDoorPq6
import Derived.Test.YtjhjcmjkmkllhaaGreatDoorPq1
import Derived.Lib.IndexMore
import Derived.Lib.Strings
import Derived.Test.YtjhjcmjkmkllhaaGreatDoorPq7
import Derived.Test.YtjhjcmjkmkllhaaGreatDoorPq4
import Derived.LoopTactic
import Derived.Lib.ItoaNum
import Derived.Lib.Hide
namespace Go.Proofs.YtjhjcmjkmkllhaaGreatDoor
open Go.RowKit

abbrev Rp := ByteArray × Int × ByteArray
def nilR : Rp := (⟨#[]⟩, 0, ⟨#[]⟩)
def opB (o : Int) : Bool := decide (1 ≤ o ∧ o ≤ 4)
def emB (s : ByteArray) : Bool := s.toList == []
theorem emB_iff (s : ByteArray) : emB s = decide (s.size = 0) := by
  have hl : s.data.toList.length = s.size := by simp
  unfold emB
  rw [Lib.toList_data, Bool.eq_iff_iff, beq_iff_eq, decide_eq_true_eq, ← hl]
  exact List.length_eq_zero_iff.symm
def ruleB (x : Rp) : Bool := nameB x.1 && opB x.2.1 && (emB x.2.2 || valB x.2.2)
def rulesTo (l : List Rp) (k : Nat) : Bool := (l.take k).all ruleB
theorem rulesTo_zero (l : List Rp) : rulesTo l 0 = true := by simp [rulesTo]
theorem getR_eq {l : List Rp} {k : Nat} (h : k < l.length) : l.getD k nilR = l[k] := by
  rw [List.getD_eq_getElem?_getD, List.getElem?_eq_getElem h]; rfl
theorem rulesTo_succ {l : List Rp} {k : Nat} (h : k < l.length) : rulesTo l (k + 1) = (rulesTo l k && ruleB (l.getD k nilR)) := by
  rw [rulesTo, List.take_succ_eq_append_getElem h, List.all_append, getR_eq h]
  simp [rulesTo]
theorem rulesTo_all (l : List Rp) : rulesTo l l.length = l.all ruleB := by simp [rulesTo]
theorem all_getR {l : List Rp} {k : Nat} (h : k < l.length) (p : Rp → Bool) (hb : p (l.getD k nilR) = false) : l.all p = false := by
  rw [List.all_eq_false]
  exact ⟨l[k], List.getElem_mem h, by rw [← getR_eq h, hb]; decide⟩
def rulesL (l : List Rp) : Bool := decide (l.length ≤ 16) && l.all ruleB
theorem rulesL_many {l : List Rp} (h : 16 < l.length) : rulesL l = false := by
  have : ¬ l.length ≤ 16 := by omega
  simp [rulesL, this]
theorem rulesL_of {l : List Rp} (h : l.length ≤ 16) : rulesL l = l.all ruleB := by simp [rulesL, h]

def holdB (o : Int) (r v : ByteArray) : Bool :=
  if o = 1 then v.toList == r.toList else if o = 2 then !(v.toList == r.toList) else if o = 3 then Lib.hasPrefix v.data.toList r.data.toList else if o = 4 then Lib.contains v.data.toList r.data.toList else false
def oneB (s : List Pp) (x : Rp) : Bool := holdB x.2.1 x.2.2 (getL s x.1)
def allTo (s : List Pp) (l : List Rp) (k : Nat) : Bool := (l.take k).all (oneB s)
theorem allTo_zero (s : List Pp) (l : List Rp) : allTo s l 0 = true := by simp [allTo]
theorem allTo_succ (s : List Pp) {l : List Rp} {k : Nat} (h : k < l.length) : allTo s l (k + 1) = (allTo s l k && oneB s (l.getD k nilR)) := by
  rw [allTo, List.take_succ_eq_append_getElem h, List.all_append, getR_eq h]
  simp [allTo]
def allB (s : List Pp) (l : List Rp) : Bool := l.all (oneB s)
theorem allTo_all (s : List Pp) (l : List Rp) : allTo s l l.length = allB s l := by simp [allTo, allB]
theorem allB_no {s : List Pp} {l : List Rp} {k : Nat} (h : k < l.length) (hb : oneB s (l.getD k nilR) = false) : allB s l = false := all_getR h _ hb

theorem hasPrefix_refl (l : List UInt8) : Lib.hasPrefix l l = true := by simp [Lib.hasPrefix]
theorem contains_refl (l : List UInt8) : Lib.contains l l = true := by
  unfold Lib.contains
  rcases Lib.index_spec l l with ⟨_, h⟩ | ⟨i, h, _⟩
  · have h0 := h 0 (Nat.zero_le _)
    unfold Lib.occAt at h0
    rw [List.drop_zero, Bool.eq_false_iff] at h0
    exact absurd (List.isPrefixOf_iff_prefix.2 (List.prefix_refl l)) h0
  · rw [h]; simp
theorem allB_append (s : List Pp) (x y : List Rp) : allB s (x ++ y) = (allB s x && allB s y) := by simp [allB]
theorem oneB_is (s : List Pp) (n : ByteArray) : oneB s (n, 1, getL s n) = true := by simp [oneB, holdB]
theorem oneB_begins (s : List Pp) (n : ByteArray) : oneB s (n, 3, getL s n) = true := by simp [oneB, holdB, hasPrefix_refl]
theorem oneB_holds (s : List Pp) (n : ByteArray) : oneB s (n, 4, getL s n) = true := by simp [oneB, holdB, contains_refl]
theorem oneB_not (s : List Pp) (n : ByteArray) : oneB s (n, 2, getL s n) = false := by simp [oneB, holdB]

/-- Does a text stand in another one at a place? -/
def standB (s : List UInt8) (i : Nat) (p : List UInt8) : Bool := p.isPrefixOf (s.drop i)
def standTo (s p : List UInt8) (k : Nat) : Bool := (List.range k).any fun i => standB s i p
theorem standTo_zero (s p : List UInt8) : standTo s p 0 = false := rfl
theorem standTo_succ (s p : List UInt8) (k : Nat) : standTo s p (k + 1) = (standTo s p k || standB s k p) := by simp [standTo, List.range_succ]
theorem contains_stand (s p : List UInt8) : Lib.contains s p = standTo s p (s.length + 1) := by
  unfold Lib.contains
  rw [Bool.eq_iff_iff]
  simp only [decide_eq_true_eq, standTo, List.any_eq_true, List.mem_range]
  rcases Lib.index_spec s p with ⟨h, hn⟩ | ⟨i, h, hi, ho, _⟩
  · constructor
    · intro h0; omega
    · rintro ⟨j, hj, hs⟩
      have := hn j (by omega)
      rw [Lib.occAt] at this
      rw [standB, this] at hs
      cases hs
  · exact ⟨fun _ => ⟨i, by omega, ho⟩, fun _ => by omega⟩
theorem contains_yes {s p : List UInt8} {k : Nat} (hk : k ≤ s.length) (h : standB s k p = true) : Lib.contains s p = true := by
  rw [contains_stand, standTo, List.any_eq_true]
  exact ⟨k, List.mem_range.2 (by omega), h⟩
theorem standB_take (s p : List UInt8) (i : Nat) : (((s.drop i).take p.length) == p) = standB s i p := by
  unfold standB
  rw [Bool.eq_iff_iff, beq_iff_eq, List.isPrefixOf_iff_prefix]
  constructor
  · intro e; rw [← e]; exact List.take_prefix _ _
  · intro e
    obtain ⟨t, e⟩ := e
    rw [← e]; simp
theorem standB_long {s p : List UInt8} {i : Nat} (h : s.length < i + p.length) : standB s i p = false ∨ p = [] := by
  by_cases hp : p = []
  · exact .inr hp
  · left
    unfold standB
    rw [Bool.eq_false_iff]
    intro e
    rw [List.isPrefixOf_iff_prefix] at e
    have := e.length_le
    rw [List.length_drop] at this
    have : 0 < p.length := by
      cases p with
      | nil => exact absurd rfl hp
      | cons => simp
    omega

/-- Rules that ask for all labels of a set hold of it. -/
def isR (x : Pp) : Rp := (x.1, 1, x.2)
theorem ltB_irr (a : ByteArray) : ltB a a = false := by
  unfold ltB
  have h : ∀ l : List UInt8, Op.bytesLess l l = false := by
    intro l
    induction l with
    | nil => rfl
    | cons c l ih => simp [Op.bytesLess, ih]
  exact h _
end Go.Proofs.YtjhjcmjkmkllhaaGreatDoor
namespace Go.Proofs.YtjhjcmjkmkllhaaGreatDoor
open Go.RowKit

theorem region_GS {P : Program} {Q : Exit → Act → World → Prop} {ops : Array Oper} {id : Nat} {a0 : Act} {w0 : World} {ι : Type} (holds : ι → Value → World → Prop) (G : Bool → World → Prop) (E : World → Prop) (p n : Nat) (xs : List ι) (d : ι)
    (F : (Nat → Value) → Act) (hF : ∀ vs, F vs = putAll vs 0 ops.toList a0) (hm : P.follows .mixedOrders = true) (hf : fitsR ops = true) (hl : lastAll ops n = true) (hp : Nat.blt p n = true)
    (hQ : ∀ c (x y : Act) w, x.defers = y.defers → Q (.panic c) x w → Q (.panic c) y w)
    (h0 : G false w0.drew)
    (hstep : AllOps (fun i o => ∀ vs b w, G b w → AllD (fun j => holds (xs.getD j d) (vs j) w) (depsOf o) → (Nat.beq i p = true → b = false) → (Nat.beq i n = true → b = true) →
      ∀ K : Act → World → Prop, stepOr (Nat.beq i n) (∀ v w', E w' → K ((F vs).put o.dst v) w') (∀ v w', G (upG i p b) w' → (∀ j u, Nat.beq j i = false → holds (xs.getD j d) u w → holds (xs.getD j d) u w') → holds (xs.getD i d) v w' → K ((F vs).put o.dst v) w') →
        if Region.wanted o (yielded ops (F vs).tmps) = true then Oper.wp P o (F vs) w K Q else K ((F vs).put o.dst undef) w) 0 ops.toList)
    (hend : ∀ vs w, E w → Q .normal (F vs) w) :
    (Code.region id ops true).wp P Q a0 w0 := by
  simp only [lastAll, Bool.and_eq_true, beq_iff_eq, List.all_eq_true, List.mem_range] at hl
  obtain ⟨hsz, hlast⟩ := hl
  rw [Nat.blt_eq] at hp
  refine region_inv hm hf F hF hQ (fun l vs w => (∀ j, l j = true → ∀ e ∈ depsAt ops j, l e = true) ∧ (l n = true → E w) ∧ (l n = false → G (l p) w ∧ ∀ i, l i = true → holds (xs.getD i d) (vs i) w))
    ⟨(fun _ h => by cases h), (fun h => by cases h), fun _ => ⟨h0, (fun _ h => by cases h)⟩⟩ ?_ (fun l vs w hl hJ => hend vs w (hJ.2.1 (hl n (by omega))))
  intro i o ho l vs w ⟨hC, hE, hG⟩ hli hall K hK
  have hi : i < ops.size := (Array.getElem?_eq_some_iff.1 ho).1
  have hd := mem_deps ho hall
  have hC' : ∀ j, updR l i true j = true → ∀ e ∈ depsAt ops j, updR l i true e = true := fun j hj e he => by
    by_cases hei : e = i
    · subst hei; rw [updR_same]
    · rw [updR_ne _ _ hei]
      by_cases hji : j = i
      · subst hji; exact hd e he
      · rw [updR_ne _ _ hji] at hj; exact hC j hj e he
  have hn : l n = false := by
    cases hln : l n with
    | false => rfl
    | true =>
      by_cases e : i = n
      · subst e; rw [hli] at hln; cases hln
      · have := reach_up hC ops.size i n (hC n hln) (hlast i (by omega))
        rw [hli] at this
        cases this
  obtain ⟨hg, hh⟩ := hG hn
  have ho' : ops.toList[i]? = some o := by rw [Array.getElem?_toList]; exact ho
  have go := hstep.get ho'
  rw [Nat.zero_add] at go
  have hdep : AllD (fun j => holds (xs.getD j d) (vs j) w) (depsOf o) := by
    have hdo : depsAt ops i = depsOf o := by simp [depsAt, ho]
    rw [hdo] at hd
    exact AllD.of (fun j hj => hh j hj) (AllL.mk hd)
  refine go vs (l p) w hg hdep (fun h => by have := Nat.eq_of_beq_eq_true h; subst this; exact hli) (fun h => by
    have := Nat.eq_of_beq_eq_true h
    subst this
    have := reach_up hC ops.size p i hd (hlast p hp)
    exact this) K ?_
  by_cases e : i = n
  · subst e
    have hb : Nat.beq i i = true := Nat.beq_refl i
    rw [hb]
    exact fun v w' hw => hK v w' ⟨hC', fun _ => hw, fun h => by rw [updR_same] at h; cases h⟩
  · have hb : Nat.beq i n = false := by
      cases h : Nat.beq i n with
      | false => rfl
      | true => exact absurd (Nat.eq_of_beq_eq_true h) e
    rw [hb]
    refine fun v w' hG' hk hv => hK v w' ⟨hC', fun h => ?_, fun _ => ⟨by rw [upG_eq]; exact hG', fun j hj => ?_⟩⟩
    · rw [updR_ne _ _ (Ne.symm e), hn] at h; cases h
    · by_cases ej : j = i
      · subst ej; rw [updR_same]; exact hv
      · rw [updR_ne _ _ ej] at hj ⊢
        have hji : Nat.beq j i = false := by
          cases h : Nat.beq j i with
          | false => rfl
          | true => exact absurd (Nat.eq_of_beq_eq_true h) ej
        exact hk j _ hji (hh j hj)
/-- append of a whole slice of flat elements, as an operation of such a statement. -/
theorem step_appE {α : Type} {enc : α → List Value} {k : Nat} {P : Program} {T ST : TypeId} (hund : P.underlying ST = some (.slice T)) {z : Value} {bytes : Nat} (hinfo : (P.info? T).map (fun i => (i.zero, i.size, i.bytes)) = some (some z, k, bytes)) (hz : z.cells.size = k) (hk0 : 0 < k)
    (henc : ∀ x, (enc x).length = k) (h1 : ∀ x, ∀ u ∈ enc x, u.oneCell' = true) {ops : Array Oper} {o : Oper} {a : Act} {w : World} {Kk : Act → World → Prop} {Q : Exit → Act → World → Prop} {Ee : Prop} {tm : Array Value} (hgd : o.guard = none) (s x : Operand)
    (ho : o.op = .call { callee := .builtin .append, args := #[s, x], argTypes := #[ST, ST] })
    (K : Nat) (v : Value) (l : List α) (hs : a.eval s = v) (hown : So enc k w K T v l) (A : Option Addr) (cap : Nat) (m : List α) (hx : a.eval x = .slice A m.length cap) (K' : Nat) (hsrc : Sr enc k w K' A cap m)
    (hm : l.length + m.length ≤ maxLen) (hsz : (l.length + m.length) * bytes ≤ 140737488355328) (hbase : K ≤ w.heap.size)
    (h : ∀ A' cap' w', So enc k w' K T (.slice A' (l.length + m.length) cap') (l ++ m) → w.grownBy w' v.ownBlock → Kk (a.put o.dst (.slice A' (l.length + m.length) cap')) w') :
    if Region.wanted o (yielded ops tm) = true then Oper.wp P o a w Kk Q else Ee := by
  have hw : Region.wanted o (yielded ops tm) = true := by simp [Region.wanted, hgd]
  rw [if_pos hw]
  obtain ⟨A', cap', w', hr, h2, h3, _⟩ := run_appE hund hinfo hz hk0 henc h1 w o.type hown hsrc hm hsz hbase
  unfold Oper.wp execOp
  simp only [ho, resolve, invoke, builtin, Sem.run_bind, Sem.run_pure, Result.andThen_ok, List.map_toArray, List.map_cons, List.map_nil, hs, hx, hr]
  exact h A' cap' w' h2 h3
end Go.Proofs.YtjhjcmjkmkllhaaGreatDoor
namespace Go.Proofs.YtjhjcmjkmkllhaaGreatDoor
open Go.RowKit

theorem info_ts : (Tryz.prog.info? 131).map (fun i => (i.zero, i.size, i.bytes)) = some (some (.agg #[.int .i64 0, .int .i64 0]), 2, 16) := by kernel_rfl
theorem grown_belowT {W w w1 : World} {v : Value} {B : Nat} (h : Below B W w) (hg : w.grownBy w1 v.ownBlock) (hB : B ≤ w.heap.size) (ho : ∀ k, v.ownBlock = some k → B ≤ k) : Below B W w1 := h.grown hg hB ho
theorem s_cells {w : World} {K cap : Nat} {A : Option Addr} {l : List Smp} (h : Sr encSm 2 w K A cap l) {i : Nat} (hi : i < l.length) : ∃ ad : Addr, A = some ad ∧ ad.block < K ∧ w.cell? (ad.add (i * 2)) = some (.int .i64 l[i].1) ∧ w.cell? ⟨(ad.add (i * 2)).block, (ad.add (i * 2)).off + 1, none⟩ = some (.int .i64 l[i].2) := by
  obtain ⟨ad, e, hb, h0, h1⟩ := h.get2 hi
  exact ⟨ad, e, hb, h0 _ rfl, h1 1 _ (by decide) rfl⟩

def NewS (w : World) (l : List Smp) (e : Ending) (w' : World) : Prop :=
  ∃ A' cap', e = .returned (.slice A' l.length cap') ∧ So encSm 2 w' w.heap.size 131 (.slice A' l.length cap') l ∧ Below w.heap.size w w'
end Go.Proofs.YtjhjcmjkmkllhaaGreatDoor
namespace Go.Proofs.YtjhjcmjkmkllhaaGreatDoor
open Go.RowKit

abbrev dec (n : Nat) : List UInt8 := Lib.decDigits n
/-- The string s, and of what was there nothing has turned. -/
def Str1 (w : World) (l : List UInt8) (e : Ending) (w' : World) : Prop := e = .returned (.string (strB l)) ∧ Below w.heap.size w w'

theorem dec_small {n : Nat} (h : n < 10) : dec n = [UInt8.ofNat (48 + n)] := by unfold dec; rw [Lib.decDigits, dif_pos h]
theorem dec_big {n : Nat} (h : ¬ n < 10) : dec n = dec (n / 10) ++ [UInt8.ofNat (48 + n % 10)] := by unfold dec; rw [Lib.decDigits, dif_neg h]
theorem dec_len {n : Nat} (h : n < 18446744073709551616) : (dec n).length ≤ 20 := by
  unfold dec
  rw [Lib.decDigits_length]
  by_cases h0 : n = 0
  · subst h0; rw [Lib.nDigits_small (by decide)]; decide
  · have := Lib.numDigits_eq n (by omega) h
    split at this <;> omega
theorem dec_pos (n : Nat) : 1 ≤ (dec n).length := by unfold dec; rw [Lib.decDigits_length]; exact Lib.nDigits_pos n
theorem itoa_neg {n : Int} (h : n < 0) : Lib.itoa n = 45 :: dec n.natAbs := by unfold Lib.itoa; rw [if_pos h]
theorem itoa_pos {n : Int} (h : ¬ n < 0) : Lib.itoa n = dec n.toNat := by unfold Lib.itoa; rw [if_neg h]
theorem itoa_len {n : Int} (h0 : -9223372036854775808 ≤ n) (h1 : n ≤ 9223372036854775807) : (Lib.itoa n).length ≤ 21 := by
  by_cases h : n < 0
  · rw [itoa_neg h]; have := dec_len (n := n.natAbs) (by omega); simp; omega
  · rw [itoa_pos h]; have := dec_len (n := n.toNat) (by omega); omega
theorem digit_toNat {n : Nat} (h : n < 10) : ((UInt8.ofNat (48 + n)).toNat : Int) = 48 + (n : Int) := by
  simp [UInt8.toNat_ofNat']; omega
theorem w64 {x : Int} (h0 : 0 ≤ x) (h1 : x < 18446744073709551616) : IntKind.u64.wrap x = x := by rw [IntKind.wrap_u64]; omega
theorem strB_app (l m : List UInt8) : strB l ++ strB m = strB (l ++ m) := by
  unfold strB
  apply ByteArray.ext
  simp [ByteArray.data_append]

/-- string([]byte{c}). -/
theorem conv1 (w : World) (x : Int) (c : UInt8) (h : x = (c.toNat : Int)) :
    (convert 180 9 (.slice (some ⟨w.heap.size, 0, none⟩) 1 1)).run Tryz.prog (w.alloc (.cells #[.int .u8 x] 5)) = .ok (.string (strB [c])) (w.alloc (.cells #[.int .u8 x] 5)) :=
  bs_str (lit_bs w _ #[.int .u8 x] [c] (by subst h; rfl) (by simp [maxLen])) rfl
end Go.Proofs.YtjhjcmjkmkllhaaGreatDoor
namespace Go.Proofs.YtjhjcmjkmkllhaaGreatDoor
open Go.RowKit

def cmpL : List Pp → List Pp → Int
  | [], [] => 0
  | [], _ :: _ => -1
  | _ :: _, [] => 1
  | x :: a, y :: b =>
    if (!(x.1.toList == y.1.toList)) = true then (if ltB x.1 y.1 = true then -1 else 1)
    else if (!(x.2.toList == y.2.toList)) = true then (if ltB x.2 y.2 = true then -1 else 1)
    else cmpL a b
theorem drop_getD {l : List Pp} {k : Nat} (h : k < l.length) : l.drop k = l.getD k nilP :: l.drop (k + 1) := by
  rw [List.drop_eq_getElem_cons h, List.getD_eq_getElem?_getD, List.getElem?_eq_getElem h]; rfl
theorem cmpL_step {a b : List Pp} {k : Nat} (ha : k < a.length) (hb : k < b.length) : cmpL (a.drop k) (b.drop k) =
    if (!((a.getD k nilP).1.toList == (b.getD k nilP).1.toList)) = true then (if ltB (a.getD k nilP).1 (b.getD k nilP).1 = true then -1 else 1)
    else if (!((a.getD k nilP).2.toList == (b.getD k nilP).2.toList)) = true then (if ltB (a.getD k nilP).2 (b.getD k nilP).2 = true then -1 else 1)
    else cmpL (a.drop (k + 1)) (b.drop (k + 1)) := by
  rw [drop_getD ha, drop_getD hb, cmpL]
theorem cmpL_left {a b : List Pp} {k : Nat} (ha : a.length ≤ k) (hb : k < b.length) : cmpL (a.drop k) (b.drop k) = -1 := by
  rw [List.drop_of_length_le ha, drop_getD hb, cmpL]
theorem cmpL_right {a b : List Pp} {k : Nat} (ha : k < a.length) (hb : b.length ≤ k) : cmpL (a.drop k) (b.drop k) = 1 := by
  rw [List.drop_of_length_le hb, drop_getD ha, cmpL]
theorem cmpL_both {a b : List Pp} {k : Nat} (ha : a.length ≤ k) (hb : b.length ≤ k) : cmpL (a.drop k) (b.drop k) = 0 := by
  rw [List.drop_of_length_le ha, List.drop_of_length_le hb, cmpL]
theorem cmpL_self : ∀ a : List Pp, cmpL a a = 0
  | [] => rfl
  | x :: a => by rw [cmpL]; simp [cmpL_self a]
end Go.Proofs.YtjhjcmjkmkllhaaGreatDoor
