/- How two lists of labels stand, as a plain function. -/
import Derived.Test.YtcfbcidakddhfaaGreatDoorPr6
import Derived.Test.YtcfbcidakddhfaaGreatDoorPr7
import Derived.Lib.Bytealg
import Derived.Test.YtcfbcidakddhfaaGreatDoorPr4
import Derived.LoopTactic
import Derived.Test.YtcfbcidakddhfaaGreatDoorPr5
import Derived.BigQuiet
import Derived.Deep.QuietTactic
import Derived.IntWalk
namespace Go.Proofs.YtcfbcidakddhfaaGreatDoor
open Go.RowKit

abbrev key (x : Pp) : List UInt8 := x.1.data.toList
theorem ltB_eq (a b : ByteArray) : ltB a b = decide (a.data.toList < b.data.toList) := by
  unfold ltB
  rw [bytesLess_eq, Lib.toList_data, Lib.toList_data]
theorem compare_lt : ∀ a b : List UInt8, Lib.compareBytes a b < 0 ↔ a < b
  | [], [] => by simp [Lib.compareBytes]
  | [], _ :: _ => by simp [Lib.compareBytes]
  | _ :: _, [] => by simp [Lib.compareBytes]
  | a :: l, b :: m => by
    have ih := compare_lt l m
    rw [Lib.compareBytes, List.cons_lt_cons_iff]
    by_cases h1 : a < b
    · simp [h1]
    · by_cases h2 : b < a
      · have hne : a ≠ b := by rintro rfl; exact absurd h2 h1
        simp [h1, h2, hne]
      · have he : a = b := by
          rw [UInt8.lt_iff_toNat_lt] at h1 h2
          exact UInt8.toNat_inj.1 (by omega)
        subst he
        simp [h1, ih]
def cfP (x y : Pp) : Int := Lib.compareBytes (key x) (key y)
theorem ltOf_cfP (x y : Pp) : ltOf cfP x y = decide (key x < key y) := by
  unfold ltOf cfP
  rw [Bool.eq_iff_iff, decide_eq_true_eq, decide_eq_true_eq, compare_lt]
theorem swoP : Sort.SWO (ltOf cfP) where
  irrefl x := by rw [ltOf_cfP]; simp [List.lt_irrefl]
  trans x y z h1 h2 := by
    rw [ltOf_cfP, decide_eq_true_eq] at *
    exact List.lt_trans h1 h2
  ntrans x y z h1 h2 := by
    rw [ltOf_cfP, decide_eq_false_iff_not, List.not_lt] at *
    exact List.le_trans h2 h1

/-- Sorted by the names; strictly. -/
def SrtP (l : List Pp) : Prop := l.Pairwise fun x y => key x ≤ key y
def Sst (l : List Pp) : Prop := l.Pairwise fun x y => key x < key y

theorem srt_of_in {d : Array Pp} (h : Sort.SortedIn (ltOf cfP) 0 d.size d) : SrtP d.toList := by
  unfold SrtP
  rw [List.pairwise_iff_getElem]
  intro i j hi hj hij
  have h1 : i < d.size := by simpa using hi
  have h2 : j < d.size := by simpa using hj
  have := h i j (Nat.zero_le _) hij h2
  rw [ltOf_cfP, decide_eq_false_iff_not, List.not_lt, getElem!_pos d i h1, getElem!_pos d j h2] at this
  simpa using this

theorem tw_false {l : List Pp} (h : twL l = false) {i : Nat} (hi : i + 1 < l.length) : (l.getD i nilP).1.data.toList ≠ (l.getD (i + 1) nilP).1.data.toList := by
  intro e
  have : twL l = true := twTo_true (k := i) (by unfold twC; rw [Lib.toList_data, Lib.toList_data, e]; simp) (by omega)
  rw [this] at h; cases h
theorem getD_get {l : List Pp} {i : Nat} (h : i < l.length) : l.getD i nilP = l[i] := by
  rw [List.getD_eq_getElem?_getD, List.getElem?_eq_getElem h]; rfl
theorem strict_of {l : List Pp} (hs : SrtP l) (ht : twL l = false) : Sst l := by
  unfold Sst
  rw [List.pairwise_iff_getElem]
  have step : ∀ n i, (hi : i + 1 + n < l.length) → key (l[i]'(by omega)) < key (l[i + 1 + n]) := by
    intro n
    induction n with
    | zero =>
      intro i hi
      have h1 := (List.pairwise_iff_getElem.1 hs) i (i + 1) (by omega) (by omega) (by omega)
      have h2 := tw_false ht (i := i) (by omega)
      rw [getD_get (show i < l.length by omega), getD_get (show i + 1 < l.length by omega)] at h2
      rcases List.le_iff_lt_or_eq.1 h1 with h | h
      · exact h
      · exact absurd h h2
    | succ n ih =>
      intro i hi
      have h1 := ih i (by omega)
      have h3 := (List.pairwise_iff_getElem.1 hs) (i + 1 + n) (i + 1 + (n + 1)) (by omega) (by omega) (by omega)
      rcases List.le_iff_lt_or_eq.1 h3 with h | h
      · exact List.lt_trans h1 h
      · rw [← h]; exact h1
  intro i j hi hj hij
  have := step (j - i - 1) i (by omega)
  have e : i + 1 + (j - i - 1) = j := by omega
  simp only [e] at this
  exact this
theorem tw_of_strict {l : List Pp} (h : Sst l) : twL l = false := by
  cases e : twL l with
  | false => rfl
  | true =>
    exfalso
    unfold twL twTo at e
    simp only [List.any_eq_true, List.mem_range] at e
    obtain ⟨i, hi, hc⟩ := e
    unfold twC at hc
    rw [getD_get (show i < l.length by omega), getD_get (show i + 1 < l.length by omega), Lib.toList_data, Lib.toList_data] at hc
    have h1 := (List.pairwise_iff_getElem.1 h) i (i + 1) (by omega) (by omega) (by omega)
    have h2 : key l[i] = key l[i + 1] := by simpa using hc
    rw [h2] at h1
    exact List.lt_irrefl _ h1
theorem nodup_of_strict {l : List Pp} (h : Sst l) : (l.map key).Nodup := by
  rw [List.nodup_iff_pairwise_ne, List.pairwise_map]
  refine h.imp fun {a b} hab e => ?_
  rw [e] at hab
  exact List.lt_irrefl _ hab
theorem strict_of_nodup {l : List Pp} (hs : SrtP l) (hn : (l.map key).Nodup) : Sst l := by
  rw [List.nodup_iff_pairwise_ne, List.pairwise_map] at hn
  refine (hs.and hn).imp fun {a b} ⟨h1, h2⟩ => ?_
  rcases List.le_iff_lt_or_eq.1 h1 with h | h
  · exact h
  · exact absurd h h2
theorem eq_of_strict : ∀ {l m : List Pp}, l.Perm m → Sst l → Sst m → l = m
  | [], m, hp, _, _ => hp.nil_eq
  | x :: l, [], hp, _, _ => absurd hp.symm.nil_eq (by simp)
  | x :: l, y :: m, hp, hl, hm => by
    have hx : x ∈ y :: m := hp.subset (by simp)
    have hy : y ∈ x :: l := hp.symm.subset (by simp)
    have hl' := List.pairwise_cons.1 hl
    have hm' := List.pairwise_cons.1 hm
    have e : x = y := by
      rcases List.mem_cons.1 hx with h | h
      · exact h
      · rcases List.mem_cons.1 hy with h' | h'
        · exact h'.symm
        · exact absurd (List.lt_trans (hl'.1 y h') (hm'.1 x h)) (List.lt_irrefl _)
    subst e
    rw [eq_of_strict (List.Perm.cons_inv hp) hl'.2 hm'.2]
theorem tw_perm {l m : List Pp} (hp : l.Perm m) (hl : SrtP l) (hm : SrtP m) : twL l = twL m := by
  have key1 : ∀ {l m : List Pp}, l.Perm m → SrtP l → SrtP m → twL l = false → twL m = false := fun {l m} hp hl hm h => by
    have h1 := nodup_of_strict (strict_of hl h)
    have h2 : (m.map key).Nodup := (hp.map key).nodup_iff.1 h1
    exact tw_of_strict (strict_of_nodup hm h2)
  cases e : twL l with
  | false => rw [key1 hp hl hm e]
  | true =>
    cases e' : twL m with
    | true => rfl
    | false => rw [key1 hp.symm hm hl e'] at e; cases e

/-- Where x goes among the first k of l, from behind. -/
def posP (x : Pp) (l : List Pp) : Nat → Nat
  | 0 => 0
  | k + 1 => if ltB x.1 (l.getD k nilP).1 = true then posP x l k else k + 1
theorem posP_le (x : Pp) (l : List Pp) : ∀ k, posP x l k ≤ k
  | 0 => Nat.le_refl _
  | k + 1 => by
    unfold posP
    split
    · have := posP_le x l k; omega
    · omega
theorem posP_above (x : Pp) (l : List Pp) : ∀ k j, posP x l k ≤ j → j < k → key x < key (l.getD j nilP)
  | 0, j, _, h => by omega
  | k + 1, j, h1, h2 => by
    unfold posP at h1
    split at h1
    · rename_i hc
      rcases Nat.lt_or_ge j k with h | h
      · exact posP_above x l k j h1 h
      · have : j = k := by omega
        subst this
        rw [ltB_eq, decide_eq_true_eq] at hc
        exact hc
    · omega
theorem posP_below (x : Pp) (l : List Pp) : ∀ k, 0 < posP x l k → key (l.getD (posP x l k - 1) nilP) ≤ key x
  | 0, h => by simp [posP] at h
  | k + 1, h => by
    unfold posP at h ⊢
    split
    · rename_i hc
      rw [if_pos hc] at h
      exact posP_below x l k h
    · rename_i hc
      rw [ltB_eq, decide_eq_true_eq, List.not_lt] at hc
      exact hc
def insP (x : Pp) (l : List Pp) : List Pp := l.take (posP x l l.length) ++ x :: l.drop (posP x l l.length)
theorem insP_length (x : Pp) (l : List Pp) : (insP x l).length = l.length + 1 := by
  have := posP_le x l l.length
  simp [insP]; omega
theorem insP_perm (x : Pp) (l : List Pp) : (insP x l).Perm (x :: l) := by
  unfold insP
  refine List.perm_middle.trans (List.Perm.cons x ?_)
  rw [List.take_append_drop]
theorem insP_srt {x : Pp} {l : List Pp} (h : SrtP l) : SrtP (insP x l) := by
  have hle := posP_le x l l.length
  have hab := posP_above x l l.length
  have hbe := posP_below x l l.length
  unfold insP
  generalize posP x l l.length = p at *
  have hx : ∀ y ∈ l.drop p, key x < key y := by
    intro y hy
    obtain ⟨j, hj, e⟩ := List.getElem_of_mem hy
    rw [List.length_drop] at hj
    have := hab (p + j) (by omega) (by omega)
    rw [getD_get (show p + j < l.length by omega)] at this
    rw [List.getElem_drop] at e
    rwa [e] at this
  have hy : ∀ y ∈ l.take p, key y ≤ key x := by
    intro y hy
    obtain ⟨j, hj, e⟩ := List.getElem_of_mem hy
    rw [List.length_take] at hj
    rw [List.getElem_take] at e
    have h0 : 0 < p := by omega
    have h1 := hbe h0
    rw [getD_get (show p - 1 < l.length by omega)] at h1
    subst e
    rcases Nat.lt_or_ge j (p - 1) with h2 | h2
    · exact List.le_trans ((List.pairwise_iff_getElem.1 h) j (p - 1) (by omega) (by omega) h2) h1
    · have : j = p - 1 := by omega
      subst this
      exact h1
  have hcat : SrtP (l.take p ++ l.drop p) := by rw [List.take_append_drop]; exact h
  obtain ⟨c1, c2, c3⟩ := List.pairwise_append.1 hcat
  refine List.pairwise_append.2 ⟨c1, List.pairwise_cons.2 ⟨fun y hyy => List.le_of_lt (hx y hyy), c2⟩, fun a ha b hb => ?_⟩
  rcases List.mem_cons.1 hb with rfl | hb
  · exact hy a ha
  · exact c3 a ha b hb
def srtTo (l : List Pp) (k : Nat) : List Pp := (l.take k).foldl (fun o x => insP x o) []
theorem srtTo_zero (l : List Pp) : srtTo l 0 = [] := by simp [srtTo]
theorem srtTo_succ {l : List Pp} {k : Nat} (h : k < l.length) : srtTo l (k + 1) = insP (l.getD k nilP) (srtTo l k) := by
  unfold srtTo
  rw [List.take_succ_eq_append_getElem h, List.foldl_append, getD_get h]
  rfl
theorem srtTo_length {l : List Pp} : ∀ k, k ≤ l.length → (srtTo l k).length = k
  | 0, _ => by rw [srtTo_zero]; rfl
  | k + 1, h => by rw [srtTo_succ (by omega), insP_length, srtTo_length k (by omega)]
theorem srtTo_srt {l : List Pp} : ∀ k, k ≤ l.length → SrtP (srtTo l k)
  | 0, _ => by rw [srtTo_zero]; exact List.Pairwise.nil
  | k + 1, h => by rw [srtTo_succ (by omega)]; exact insP_srt (srtTo_srt k (by omega))
theorem srtTo_perm {l : List Pp} : ∀ k, k ≤ l.length → (srtTo l k).Perm (l.take k)
  | 0, _ => by rw [srtTo_zero]; simp
  | k + 1, h => by
    rw [srtTo_succ (by omega), List.take_succ_eq_append_getElem (by omega : k < l.length), getD_get (by omega)]
    exact (insP_perm _ _).trans ((List.Perm.cons _ (srtTo_perm k (by omega))).trans (List.perm_append_singleton _ _).symm)
def srt (l : List Pp) : List Pp := srtTo l l.length
theorem srt_srt (l : List Pp) : SrtP (srt l) := srtTo_srt _ (Nat.le_refl _)
theorem srt_perm (l : List Pp) : (srt l).Perm l := by
  have := srtTo_perm (l := l) l.length (Nat.le_refl _)
  rwa [List.take_length] at this
theorem srt_length (l : List Pp) : (srt l).length = l.length := srtTo_length _ (Nat.le_refl _)
/-- What a sort by the names leaves: the same neighbours' fate; and where no two names are one, the same list. -/
theorem sorted_tw {l m : List Pp} (hp : m.Perm l) (hm : SrtP m) : twL m = twL (srt l) := tw_perm (hp.trans (srt_perm l).symm) hm (srt_srt l)
theorem sorted_eq {l m : List Pp} (hp : m.Perm l) (hm : SrtP m) (ht : twL (srt l) = false) : m = srt l :=
  eq_of_strict (hp.trans (srt_perm l).symm) (strict_of hm (by rw [sorted_tw hp hm]; exact ht)) (strict_of (srt_srt l) ht)
theorem Sm.perm {l m : List Pp} (h : Sm l) (hp : m.Perm l) : Sm m := fun x hx => h x (hp.subset hx)

def makeE (l : List Pp) : Int := if twL (srt l) = true then 7 else if rightL (srt l) = true then 0 else 40
def makeL (l : List Pp) : List Pp := if makeE l = 0 then srt l else []
end Go.Proofs.YtcfbcidakddhfaaGreatDoor
namespace Go.Proofs.YtcfbcidakddhfaaGreatDoor
open Go.RowKit

theorem region_GS {P : Program} {Q : Exit → Act → World → Prop} {ops : Array Oper} {id : Nat} {a0 : Act} {w0 : World} {ι : Type} (holds : ι → Value → World → Prop) (G : Bool → World → Prop) (E : World → Prop) (p n : Nat) (xs : List ι) (d : ι)
    (F : (Nat → Value) → Act) (hF : ∀ vs, F vs = putAll vs 0 ops.toList a0) (hm : P.follows .mixedOrders = true) (hf : fitsR ops = true) (hl : lastAll ops n = true) (hp : Nat.blt p n = true)
    (hQ : ∀ c (x y : Act) w, x.defers = y.defers → Q (.panic c) x w → Q (.panic c) y w)
    (h0 : G false w0.drew)
    (hstep : AllOps (fun i o => ∀ vs b w, G b w → AllD (fun j => holds (xs.getD j d) (vs j) w) (depsOf o) → (Nat.beq i p = true → b = false) → (Nat.beq i n = true → b = true) →
      ∀ K : Act → World → Prop, stepOr (Nat.beq i n) (∀ v w', E w' → K ((F vs).put o.dst v) w') (∀ v w', G (upG i p b) w' → (∀ j u, Nat.beq j i = false → holds (xs.getD j d) u w → holds (xs.getD j d) u w') → holds (xs.getD i d) v w' → K ((F vs).put o.dst v) w') →
        if Region.wanted o (yielded ops (F vs).tmps) = true then Oper.wp P o (F vs) w K Q else K ((F vs).put o.dst undef) w) 0 ops.toList)
    (hend : ∀ vs w, E w → Q .normal (F vs) w) :
    (Code.region id ops true).wp P Q a0 w0 := by
  simp only [lastAll, Bool.and_eq_true, beq_iff_eq, List.all_eq_true, List.mem_range] at hl
  obtain ⟨hsz, hlast⟩ := hl
  rw [Nat.blt_eq] at hp
  refine region_inv hm hf F hF hQ (fun l vs w => (∀ j, l j = true → ∀ e ∈ depsAt ops j, l e = true) ∧ (l n = true → E w) ∧ (l n = false → G (l p) w ∧ ∀ i, l i = true → holds (xs.getD i d) (vs i) w))
    ⟨(fun _ h => by cases h), (fun h => by cases h), fun _ => ⟨h0, (fun _ h => by cases h)⟩⟩ ?_ (fun l vs w hl hJ => hend vs w (hJ.2.1 (hl n (by omega))))
  intro i o ho l vs w ⟨hC, hE, hG⟩ hli hall K hK
  have hi : i < ops.size := (Array.getElem?_eq_some_iff.1 ho).1
  have hd := mem_deps ho hall
  have hC' : ∀ j, updR l i true j = true → ∀ e ∈ depsAt ops j, updR l i true e = true := fun j hj e he => by
    by_cases hei : e = i
    · subst hei; rw [updR_same]
    · rw [updR_ne _ _ hei]
      by_cases hji : j = i
      · subst hji; exact hd e he
      · rw [updR_ne _ _ hji] at hj; exact hC j hj e he
  have hn : l n = false := by
    cases hln : l n with
    | false => rfl
    | true =>
      by_cases e : i = n
      · subst e; rw [hli] at hln; cases hln
      · have := reach_up hC ops.size i n (hC n hln) (hlast i (by omega))
        rw [hli] at this
        cases this
  obtain ⟨hg, hh⟩ := hG hn
  have ho' : ops.toList[i]? = some o := by rw [Array.getElem?_toList]; exact ho
  have go := hstep.get ho'
  rw [Nat.zero_add] at go
  have hdep : AllD (fun j => holds (xs.getD j d) (vs j) w) (depsOf o) := by
    have hdo : depsAt ops i = depsOf o := by simp [depsAt, ho]
    rw [hdo] at hd
    exact AllD.of (fun j hj => hh j hj) (AllL.mk hd)
  refine go vs (l p) w hg hdep (fun h => by have := Nat.eq_of_beq_eq_true h; subst this; exact hli) (fun h => by
    have := Nat.eq_of_beq_eq_true h
    subst this
    have := reach_up hC ops.size p i hd (hlast p hp)
    exact this) K ?_
  by_cases e : i = n
  · subst e
    have hb : Nat.beq i i = true := Nat.beq_refl i
    rw [hb]
    exact fun v w' hw => hK v w' ⟨hC', fun _ => hw, fun h => by rw [updR_same] at h; cases h⟩
  · have hb : Nat.beq i n = false := by
      cases h : Nat.beq i n with
      | false => rfl
      | true => exact absurd (Nat.eq_of_beq_eq_true h) e
    rw [hb]
    refine fun v w' hG' hk hv => hK v w' ⟨hC', fun h => ?_, fun _ => ⟨by rw [upG_eq]; exact hG', fun j hj => ?_⟩⟩
    · rw [updR_ne _ _ (Ne.symm e), hn] at h; cases h
    · by_cases ej : j = i
      · subst ej; rw [updR_same]; exact hv
      · rw [updR_ne _ _ ej] at hj ⊢
        have hji : Nat.beq j i = false := by
          cases h : Nat.beq j i with
          | false => rfl
          | true => exact absurd (Nat.eq_of_beq_eq_true h) ej
        exact hk j _ hji (hh j hj)
/-- append of a whole slice of flat elements, as an operation of such a statement. -/
theorem step_appE {α : Type} {enc : α → List Value} {k : Nat} {P : Program} {T ST : TypeId} (hund : P.underlying ST = some (.slice T)) {z : Value} {bytes : Nat} (hinfo : (P.info? T).map (fun i => (i.zero, i.size, i.bytes)) = some (some z, k, bytes)) (hz : z.cells.size = k) (hk0 : 0 < k)
    (henc : ∀ x, (enc x).length = k) (h1 : ∀ x, ∀ u ∈ enc x, u.oneCell' = true) {ops : Array Oper} {o : Oper} {a : Act} {w : World} {Kk : Act → World → Prop} {Q : Exit → Act → World → Prop} {Ee : Prop} {tm : Array Value} (hgd : o.guard = none) (s x : Operand)
    (ho : o.op = .call { callee := .builtin .append, args := #[s, x], argTypes := #[ST, ST] })
    (K : Nat) (v : Value) (l : List α) (hs : a.eval s = v) (hown : So enc k w K T v l) (A : Option Addr) (cap : Nat) (m : List α) (hx : a.eval x = .slice A m.length cap) (K' : Nat) (hsrc : Sr enc k w K' A cap m)
    (hm : l.length + m.length ≤ maxLen) (hsz : (l.length + m.length) * bytes ≤ 140737488355328) (hbase : K ≤ w.heap.size)
    (h : ∀ A' cap' w', So enc k w' K T (.slice A' (l.length + m.length) cap') (l ++ m) → w.grownBy w' v.ownBlock → Kk (a.put o.dst (.slice A' (l.length + m.length) cap')) w') :
    if Region.wanted o (yielded ops tm) = true then Oper.wp P o a w Kk Q else Ee := by
  have hw : Region.wanted o (yielded ops tm) = true := by simp [Region.wanted, hgd]
  rw [if_pos hw]
  obtain ⟨A', cap', w', hr, h2, h3, _⟩ := run_appE hund hinfo hz hk0 henc h1 w o.type hown hsrc hm hsz hbase
  unfold Oper.wp execOp
  simp only [ho, resolve, invoke, builtin, Sem.run_bind, Sem.run_pure, Result.andThen_ok, List.map_toArray, List.map_cons, List.map_nil, hs, hx, hr]
  exact h A' cap' w' h2 h3
end Go.Proofs.YtcfbcidakddhfaaGreatDoor
namespace Go.Proofs.YtcfbcidakddhfaaGreatDoor
open Go.RowKit

def lastBut (ops : Array Oper) (n : Nat) : Bool := (ops.size == n + 2) && ((List.range n).all fun i => reach ops ops.size i n) && (depsAt ops (n + 1)).contains n
theorem region_VT {P : Program} {Q : Exit → Act → World → Prop} {ops : Array Oper} {id : Nat} {a0 : Act} {w0 : World} {ι : Type} (holds : ι → Value → World → Prop) (G : World → Prop) (E : Value → World → Prop) (n : Nat) (xs : List ι) (d : ι)
    (mono : ∀ p v w w', holds p v w → Below w.heap.size w w' → holds p v w')
    (F : (Nat → Value) → Act) (hF : ∀ vs, F vs = putAll vs 0 ops.toList a0) (hm : P.follows .mixedOrders = true) (hf : fitsR ops = true) (hl : lastBut ops n = true)
    (hQ : ∀ c (x y : Act) w, x.defers = y.defers → Q (.panic c) x w → Q (.panic c) y w)
    (h0 : G w0.drew)
    (hstep : AllOps (fun i o => stepOr (Nat.beq i (n + 1))
      (∀ vs w, E (vs n) w → ∀ K : Act → World → Prop, K ((F vs).put o.dst (vs n)) w → if Region.wanted o (yielded ops (F vs).tmps) = true then Oper.wp P o (F vs) w K Q else K ((F vs).put o.dst undef) w)
      (∀ vs w, G w → AllD (fun j => holds (xs.getD j d) (vs j) w) (depsOf o) →
      ∀ K : Act → World → Prop, stepOr (Nat.beq i n) (∀ v w', E v w' → K ((F vs).put o.dst v) w') (∀ v w', Below w.heap.size w w' → G w' → holds (xs.getD i d) v w' → K ((F vs).put o.dst v) w') →
        if Region.wanted o (yielded ops (F vs).tmps) = true then Oper.wp P o (F vs) w K Q else K ((F vs).put o.dst undef) w)) 0 ops.toList)
    (hend : ∀ vs w, E (vs n) w → vs (n + 1) = vs n → Q .normal (F vs) w) :
    (Code.region id ops true).wp P Q a0 w0 := by
  simp only [lastBut, Bool.and_eq_true, beq_iff_eq, List.all_eq_true, List.mem_range, List.contains_iff_mem] at hl
  obtain ⟨⟨hsz, hlast⟩, hdn⟩ := hl
  refine region_inv hm hf F hF hQ (fun l vs w => (∀ j, l j = true → ∀ e ∈ depsAt ops j, l e = true) ∧ (l n = true → E (vs n) w ∧ (l (n + 1) = true → vs (n + 1) = vs n)) ∧ (l n = false → G w ∧ ∀ i, l i = true → holds (xs.getD i d) (vs i) w))
    ⟨(fun _ h => by cases h), (fun h => by cases h), fun _ => ⟨h0, (fun _ h => by cases h)⟩⟩ ?_ (fun l vs w hl hJ => by
      have h1 := hJ.2.1 (hl n (by omega))
      exact hend vs w h1.1 (h1.2 (hl (n + 1) (by omega))))
  intro i o ho l vs w ⟨hC, hE, hG⟩ hli hall K hK
  have hi : i < ops.size := (Array.getElem?_eq_some_iff.1 ho).1
  have hd := mem_deps ho hall
  have hC' : ∀ j, updR l i true j = true → ∀ e ∈ depsAt ops j, updR l i true e = true := fun j hj e he => by
    by_cases hei : e = i
    · subst hei; rw [updR_same]
    · rw [updR_ne _ _ hei]
      by_cases hji : j = i
      · subst hji; exact hd e he
      · rw [updR_ne _ _ hji] at hj; exact hC j hj e he
  have ho' : ops.toList[i]? = some o := by rw [Array.getElem?_toList]; exact ho
  have go := hstep.get ho'
  rw [Nat.zero_add] at go
  by_cases e1 : i = n + 1
  · subst e1
    have hb : Nat.beq (n + 1) (n + 1) = true := Nat.beq_refl _
    rw [hb] at go
    have hln := hd n hdn
    obtain ⟨hEn, _⟩ := hE hln
    refine go vs w hEn K (hK _ _ ⟨hC', fun _ => ?_, fun h => ?_⟩)
    · rw [updR_ne _ _ (by omega : n ≠ n + 1), updR_same]
      exact ⟨hEn, fun _ => updR_same _ _ _⟩
    · rw [updR_ne _ _ (by omega : n ≠ n + 1), hln] at h
      cases h
  · have hb1 : Nat.beq i (n + 1) = false := by
      cases h : Nat.beq i (n + 1) with
      | false => rfl
      | true => exact absurd (Nat.eq_of_beq_eq_true h) e1
    rw [hb1] at go
    have hn : l n = false := by
      cases hln : l n with
      | false => rfl
      | true =>
        by_cases e : i = n
        · subst e; rw [hli] at hln; cases hln
        · have := reach_up hC ops.size i n (hC n hln) (hlast i (by omega))
          rw [hli] at this
          cases this
    have hn1 : l (n + 1) = false := by
      cases h : l (n + 1) with
      | false => rfl
      | true => have := hC (n + 1) h n hdn; rw [hn] at this; cases this
    obtain ⟨hg, hh⟩ := hG hn
    have hdep : AllD (fun j => holds (xs.getD j d) (vs j) w) (depsOf o) := by
      have hdo : depsAt ops i = depsOf o := by simp [depsAt, ho]
      rw [hdo] at hd
      exact AllD.of (fun j hj => hh j hj) (AllL.mk hd)
    refine go vs w hg hdep K ?_
    by_cases e : i = n
    · subst e
      have hb : Nat.beq i i = true := Nat.beq_refl i
      rw [hb]
      exact fun v w' hw => hK v w' ⟨hC', fun _ => ⟨by rw [updR_same]; exact hw, fun h => by rw [updR_ne _ _ (by omega : i + 1 ≠ i), hn1] at h; cases h⟩, fun h => by rw [updR_same] at h; cases h⟩
    · have hb : Nat.beq i n = false := by
        cases h : Nat.beq i n with
        | false => rfl
        | true => exact absurd (Nat.eq_of_beq_eq_true h) e
      rw [hb]
      refine fun v w' hbl hG' hv => hK v w' ⟨hC', fun h => ?_, fun _ => ⟨hG', fun j hj => ?_⟩⟩
      · rw [updR_ne _ _ (Ne.symm e), hn] at h; cases h
      · by_cases ej : j = i
        · subst ej; rw [updR_same]; exact hv
        · rw [updR_ne _ _ ej] at hj ⊢
          exact mono _ _ _ _ (hh j hj) hbl
end Go.Proofs.YtcfbcidakddhfaaGreatDoor
namespace Go.Proofs.YtcfbcidakddhfaaGreatDoor
open Go.RowKit

theorem info_ts : (Tryz.prog.info? 130).map (fun i => (i.zero, i.size, i.bytes)) = some (some (.agg #[.int .i64 0, .int .i64 0]), 2, 16) := by kernel_rfl
theorem grown_belowT {W w w1 : World} {v : Value} {B : Nat} (h : Below B W w) (hg : w.grownBy w1 v.ownBlock) (hB : B ≤ w.heap.size) (ho : ∀ k, v.ownBlock = some k → B ≤ k) : Below B W w1 := h.grown hg hB ho
theorem s_cells {w : World} {K cap : Nat} {A : Option Addr} {l : List Smp} (h : Sr encSm 2 w K A cap l) {i : Nat} (hi : i < l.length) : ∃ ad : Addr, A = some ad ∧ ad.block < K ∧ w.cell? (ad.add (i * 2)) = some (.int .i64 l[i].1) ∧ w.cell? ⟨(ad.add (i * 2)).block, (ad.add (i * 2)).off + 1, none⟩ = some (.int .i64 l[i].2) := by
  obtain ⟨ad, e, hb, h0, h1⟩ := h.get2 hi
  exact ⟨ad, e, hb, h0 _ rfl, h1 1 _ (by decide) rfl⟩

def NewS (w : World) (l : List Smp) (e : Ending) (w' : World) : Prop :=
  ∃ A' cap', e = .returned (.slice A' l.length cap') ∧ So encSm 2 w' w.heap.size 130 (.slice A' l.length cap') l ∧ Below w.heap.size w w'
end Go.Proofs.YtcfbcidakddhfaaGreatDoor
namespace Go.Proofs.YtcfbcidakddhfaaGreatDoor
open Go.RowKit

theorem below_drewN {B : Nat} {a w : World} (h : Below B a w) (n : Nat) : Below B a (w.drewN n) := ⟨h.os, h.tape, h.output, h.size, h.block⟩

end Go.Proofs.YtcfbcidakddhfaaGreatDoor
namespace Go.Proofs.YtcfbcidakddhfaaGreatDoor
open Go.RowKit

def cmpL : List Pp → List Pp → Int
  | [], [] => 0
  | [], _ :: _ => -1
  | _ :: _, [] => 1
  | x :: a, y :: b =>
    if (!(x.1.toList == y.1.toList)) = true then (if ltB x.1 y.1 = true then -1 else 1)
    else if (!(x.2.toList == y.2.toList)) = true then (if ltB x.2 y.2 = true then -1 else 1)
    else cmpL a b
theorem drop_getD {l : List Pp} {k : Nat} (h : k < l.length) : l.drop k = l.getD k nilP :: l.drop (k + 1) := by
  rw [List.drop_eq_getElem_cons h, List.getD_eq_getElem?_getD, List.getElem?_eq_getElem h]; rfl
theorem cmpL_step {a b : List Pp} {k : Nat} (ha : k < a.length) (hb : k < b.length) : cmpL (a.drop k) (b.drop k) =
    if (!((a.getD k nilP).1.toList == (b.getD k nilP).1.toList)) = true then (if ltB (a.getD k nilP).1 (b.getD k nilP).1 = true then -1 else 1)
    else if (!((a.getD k nilP).2.toList == (b.getD k nilP).2.toList)) = true then (if ltB (a.getD k nilP).2 (b.getD k nilP).2 = true then -1 else 1)
    else cmpL (a.drop (k + 1)) (b.drop (k + 1)) := by
  rw [drop_getD ha, drop_getD hb, cmpL]
theorem cmpL_left {a b : List Pp} {k : Nat} (ha : a.length ≤ k) (hb : k < b.length) : cmpL (a.drop k) (b.drop k) = -1 := by
  rw [List.drop_of_length_le ha, drop_getD hb, cmpL]
theorem cmpL_right {a b : List Pp} {k : Nat} (ha : k < a.length) (hb : b.length ≤ k) : cmpL (a.drop k) (b.drop k) = 1 := by
  rw [List.drop_of_length_le hb, drop_getD ha, cmpL]
theorem cmpL_both {a b : List Pp} {k : Nat} (ha : a.length ≤ k) (hb : b.length ≤ k) : cmpL (a.drop k) (b.drop k) = 0 := by
  rw [List.drop_of_length_le ha, List.drop_of_length_le hb, cmpL]
theorem cmpL_self : ∀ a : List Pp, cmpL a a = 0
  | [] => rfl
  | x :: a => by rw [cmpL]; simp [cmpL_self a]
end Go.Proofs.YtcfbcidakddhfaaGreatDoor
