/- slices.Backward over a disk's segments: its contract. -/
import Derived.RangeFuncNested
import Derived.RangeFuncBound
import Derived.RangeFuncCalls
import Derived.RangeFuncLeaves
import Derived.RangeFuncBox
import Derived.Shelf.Abstract
import Derived.WalkKit
import Derived.OwnWalkIn
import Derived.TacticsInMore
import Derived.LoopNIn
import Derived.LoopIn
import Derived.Test.YtkkaehaoahpibaaPk14
import Derived.Test.YtkkaehaoahpibaaPk6
namespace Go.Proofs.Ytkkaehaoahpibaa
open Go.RowKit Go.Shelf

attribute [local go_sem] Oper.semAt_some

/-- A segment and its place. -/
abbrev Ixx (L : List As) := { p : Nat × As // L[p.1]? = some p.2 }
def dnf (L : List As) (h : 0 < L.length) (j : Nat) : Ixx L := ⟨(L.length - 1 - j, L[L.length - 1 - j]'(by omega)), by simp⟩
/-- What has come when k rounds are over. -/
def dnt (L : List As) (h : 0 < L.length) (k : Nat) : List (Ixx L) := (List.range k).map (dnf L h)
theorem dnt_succ (L : List As) (h : 0 < L.length) (k : Nat) : dnt L h (k + 1) = dnt L h k ++ [dnf L h k] := by simp [dnt, List.range_succ]
theorem dnt_length (L : List As) (h : 0 < L.length) (k : Nat) : (dnt L h k).length = k := by simp [dnt]
def encx {L : List As} (x : Ixx L) : Array Value := #[.int .i64 ((x.1.1 : Nat) : Int), .int .i64 x.1.2.n]

set_option maxRecDepth 100000 in
set_option maxHeartbeats 2000000 in
theorem bk1_in (F : Fence) (n : Nat) (h8 : F.fn 60) (hro : F.round = none) (hn : 1 ≤ n) (l Bx n₀ g cap : Nat) (L : List As) (hL : 0 < L.length) (hreach : L.length ≤ 1024) (hb : g < n₀) (J Jx : List (Ixx L) → World → Prop)
    (hY : ∀ pre x W, J pre W → pre.length < L.length → YieldAt F (n - 1) Try.prog l (encx x) W fun e W' =>
      (e = .returned (.bool true) ∧ J (pre ++ [x]) W' ∧ Below n₀ W W') ∨ (e = .returned (.bool false) ∧ Jx (pre ++ [x]) W'))
    (W : World) (hBs : W.cell? ⟨Bx, 0, none⟩ = some (.slice (some ⟨g, 0, none⟩) L.length cap)) (hBn : Bx < n₀) (hc : ∀ j x, L[j]? = some x → W.cell? ⟨g, j, none⟩ = some (.int .i64 x.n)) (h0 : J [] W) :
    CallsIn F n Try.prog 60 #[.func (.yield l) #[] #[], .pointer (some ⟨Bx, 0, none⟩)] W fun e W' => (∃ v, e = .returned v) ∧
      ((∃ ys, ys = dnt L hL L.length ∧ J ys W') ∨ (∃ pre, (∃ k, k ≤ L.length ∧ pre = dnt L hL k) ∧ Jx pre W')) := by
  refine callsIn_of_wp Try.func60 rfl h8 ?_ hro
  simp only [Try.ntmps60, List.size_toArray, List.length_cons, List.length_nil, Nat.reduceAdd, Nat.reduceSub, Array.replicate_succ, Array.replicate_zero, List.push_toArray, List.append_toArray, List.nil_append, List.cons_append]
  gi_wp2
  gi_loopw [3] (fun i wr => ∃ k : Nat, k ≤ L.length ∧ i = .int .i64 ((L.length : Int) - 1 - (k : Int)) ∧ J (dnt L hL k) wr ∧ Below n₀ W wr)
    (fun i _ => (intOf i + 1).toNat)
  case atStart => exact ⟨0, Nat.zero_le _, by simp, h0, Below.refl _ _⟩
  case round =>
    obtain ⟨k, hk, rfl, hJs, hnx⟩ := hrel
    by_cases hlt : k < L.length
    · obtain ⟨fn, tmps, assign, body, hy, hR⟩ := hY _ (dnf L hL k) wr hJs (by rw [dnt_length]; exact hlt)
      simp only [encx, dnf] at hy
      have hq2 := List.getElem?_eq_getElem (l := L) (i := L.length - 1 - k) (by omega)
      have hcx := (hnx.cell (p := ⟨g, L.length - 1 - k, none⟩) hb).trans (hc _ _ hq2)
      have hbx := (hnx.cell (p := ⟨Bx, 0, none⟩) hBn).trans hBs
      have hqi : (L.length : Int) - 1 - (k : Int) = ((L.length - 1 - k : Nat) : Int) := by omega
      have hql : L.length - 1 - k < L.length := by omega
      rw [hqi]
      generalize L[L.length - 1 - k] = x at hy hcx
      generalize L.length - 1 - k = q at hy hcx hqi hql ⊢
      have HQI := Lib.hid hqi
      clear hqi hq2 hc hBs h0
      gi_wp2
      refine hR.mono ?_
      rintro e W3 (⟨rfl, hJ3, hk3⟩ | ⟨rfl, hJx3⟩)
      · gi_wp2
        go_roundw
        case rel => exact ⟨k + 1, by omega, by have := HQI.out; congr 1; push_cast; omega, by rw [dnt_succ]; exact hJ3, hnx.trans hk3⟩
        case measure => simp [intOf]
      · gi_wp2
        refine bodyPost_ret (results_none rfl _ _ _) rfl ?_
        exact ⟨⟨_, rfl⟩, .inr ⟨_, ⟨k + 1, by omega, (dnt_succ _ _ _).symm⟩, hJx3⟩⟩
    · obtain rfl : k = L.length := by omega
      have hqi : (L.length : Int) - 1 - (L.length : Int) = -1 := by omega
      rw [hqi]
      gi_wp2
      go_end0
      exact ⟨⟨_, rfl⟩, .inl ⟨_, rfl, hJs⟩⟩
set_option maxRecDepth 100000 in
set_option maxHeartbeats 1000000 in
theorem bk1_nil_in (F : Fence) (n : Nat) (h8 : F.fn 60) (hro : F.round = none) (l Bx cap : Nat) (A : Option Addr) (J : List (Ixx []) → World → Prop) (W : World) (hBs : W.cell? ⟨Bx, 0, none⟩ = some (.slice A 0 cap)) (h0 : J [] W) :
    CallsIn F n Try.prog 60 #[.func (.yield l) #[] #[], .pointer (some ⟨Bx, 0, none⟩)] W fun e W' => (∃ v, e = .returned v) ∧ J [] W' := by
  refine callsIn_of_wp Try.func60 rfl h8 ?_ hro
  simp only [Try.ntmps60, List.size_toArray, List.length_cons, List.length_nil, Nat.reduceAdd, Nat.reduceSub, Array.replicate_succ, Array.replicate_zero, List.push_toArray, List.append_toArray, List.nil_append, List.cons_append]
  gi_wp2
  gi_loopw [3] (fun i wr => i = .int .i64 (-1) ∧ J [] wr) (fun _ _ => 0)
  case atStart => exact ⟨by simp, h0⟩
  case round =>
    obtain ⟨rfl, hJs⟩ := hrel
    gi_wp2
    go_end0
    exact ⟨⟨_, rfl⟩, hJs⟩
set_option maxHeartbeats 1000000 in
theorem bk_in (F : Fence) (n : Nat) (h6 : F.fn 52) (hro : F.round = none) (a : Option Addr) (len cap : Nat) (w : World) :
    CallsIn F n Try.prog 52 #[.slice a len cap] w fun e w' => e = .returned (.func (.func 60) #[] #[.pointer (some ⟨w.heap.size, 0, none⟩)]) ∧ w' = w.alloc (.cells #[.slice a len cap] 33) := by
  refine callsIn_of_wp Try.func52 rfl h6 ?_ hro
  simp only [Try.ntmps52, List.size_toArray, List.length_cons, List.length_nil, Nat.reduceAdd, Nat.reduceSub, Array.replicate_succ, Array.replicate_zero, List.push_toArray, List.append_toArray, List.nil_append, List.cons_append]
  gi_wp2
  go_ret
  exact ⟨rfl, rfl⟩
/-- All have come; some have. -/
def Sall (L : List As) (ys : List (Ixx L)) : Prop := ∀ i x, (h : L[i]? = some x) → (⟨(i, x), h⟩ : Ixx L) ∈ ys
def Ssome (L : List As) (pre : List (Ixx L)) : Prop := ∃ hL k, k ≤ L.length ∧ pre = dnt L hL k
theorem sall (L : List As) (hL : 0 < L.length) : Sall L (dnt L hL L.length) := by
  intro i x h
  obtain ⟨hi, hx⟩ := List.getElem?_eq_some_iff.1 h
  refine List.mem_map.2 ⟨L.length - 1 - i, List.mem_range.2 (by omega), ?_⟩
  have e : L.length - 1 - (L.length - 1 - i) = i := by omega
  apply Subtype.ext
  show (L.length - 1 - (L.length - 1 - i), L[L.length - 1 - (L.length - 1 - i)]) = (i, x)
  simp only [e, hx]
theorem bk_stops (F : Fence) (n : Nat) (h8 : F.fn 60) (hro : F.round = none) (hn : 1 ≤ n) (Bx n₀ cap : Nat) (A : Option Addr) (L : List As) (hreach : L.length ≤ 1024) (w : World) (hBs : Bx < n₀) (hn₀ : n₀ ≤ w.heap.size)
    (hc : w.cell? ⟨Bx, 0, none⟩ = some (.slice A L.length cap)) (hI : 0 < L.length → ∃ g, A = some ⟨g, 0, none⟩ ∧ g < n₀ ∧ ∀ j x, L[j]? = some x → w.cell? ⟨g, j, none⟩ = some (.int .i64 x.n)) :
    SeqStopsK F n Try.prog 60 #[.pointer (some ⟨Bx, 0, none⟩)] (fun x : Ixx L => #[Value.int .i64 ((x.1.1 : Nat) : Int), Value.int .i64 x.1.2.n]) (Below n₀) (Sall L) (Ssome L) L.length w := fun l J Jx W hW _ _ hY h0 => by
  have hc' := (hW.cell (p := ⟨Bx, 0, none⟩) (by show Bx < _; omega)).trans hc
  by_cases hL : 0 < L.length
  · obtain ⟨g, rfl, hg, hcs⟩ := hI hL
    refine (bk1_in F n h8 hro hn l Bx n₀ g cap L hL hreach hg J Jx hY W hc' hBs (fun j x hj => (hW.cell (p := ⟨g, j, none⟩) (by show g < _; omega)).trans (hcs j x hj)) h0).mono ?_
    rintro e W' ⟨he, ⟨ys, rfl, hj⟩ | ⟨pre, ⟨k, hk, rfl⟩, hj⟩⟩
    · exact ⟨he, .inl ⟨_, sall L hL, hj⟩⟩
    · exact ⟨he, .inr ⟨_, ⟨hL, k, hk, rfl⟩, hj⟩⟩
  · obtain rfl : L = [] := List.eq_nil_of_length_eq_zero (by omega)
    exact (bk1_nil_in F n h8 hro l Bx cap A J W hc' h0).mono fun e W' ⟨he, hj⟩ => ⟨he, .inl ⟨_, fun i x h => by simp at h, hj⟩⟩
/-- The last segment in which something stands, and what does. -/
def newA : List As → Option (As × List UInt8 × List (List UInt8) × Nat)
  | [] => none
  | x :: L => match newA L with
    | some r => some r
    | none => match readB x.b with
      | some (b, r, n) => some (x, b, r, n)
      | none => none
theorem newA_none : ∀ {L : List As}, (∀ x ∈ L, readB x.b = none) → newA L = none
  | [], _ => rfl
  | x :: L, h => by
    have h1 := newA_none (L := L) fun y hy => h y (by simp [hy])
    have h2 := h x (by simp)
    simp [newA, h1, h2]
theorem newA_some {b : List UInt8} {r : List (List UInt8)} {n : Nat} : ∀ {L : List As} {i : Nat} {x : As}, L[i]? = some x → (∀ (j : Nat) y, i < j → L[j]? = some y → readB y.b = none) → readB x.b = some (b, r, n) → newA L = some (x, b, r, n)
  | [], _, _, h, _, _ => by simp at h
  | z :: L, 0, x, h, hn, hr => by
    simp at h
    subst h
    have h1 := newA_none (L := L) fun y hy => by
      obtain ⟨j, hj⟩ := List.getElem?_of_mem hy
      exact hn (j + 1) y (by omega) (by simpa using hj)
    simp [newA, h1, hr]
  | z :: L, i + 1, x, h, hn, hr => by
    have h1 := newA_some (L := L) (i := i) (x := x) (by simpa using h) (fun j y hj hy => hn (j + 1) y (by omega) (by simpa using hy)) hr
    simp [newA, h1]
theorem walGo_ge : ∀ (m : Nat) (l : List UInt8) (s : Bool) (n : Nat), l.length ≤ m → n ≤ (walGo l s n).2.2
  | 0, l, s, n, h => by
    have : l = [] := List.eq_nil_of_length_eq_zero (by omega)
    subst this
    rw [walGo_nil]
    exact Nat.le_refl _
  | m + 1, l, s, n, h => by
    by_cases h0 : (openB l).2.2.2 = 0
    · have hu := openB_used h0
      by_cases h1 : (openB l).1 = 1
      · rw [walGo_rec h0 h1]
        have := walGo_ge m (l.drop (openB l).2.2.1) s (n + (openB l).2.2.1) (by rw [List.length_drop]; omega)
        simp only
        omega
      · by_cases h3 : (openB l).1 = 3 ∧ s = false
        · obtain ⟨h3, rfl⟩ := h3
          rw [walGo_seal h0 h3]
          have := walGo_ge m (l.drop (openB l).2.2.1) true (n + (openB l).2.2.1) (by rw [List.length_drop]; omega)
          omega
        · rw [walGo_else h0 h1 h3]
          exact Nat.le_refl _
    · rw [walGo_bad h0]
      exact Nat.le_refl _
theorem readB_pos {b base : List UInt8} {rs : List (List UInt8)} {n : Nat} (h : readB b = some (base, rs, n)) : 0 < n := by
  unfold readB at h
  split at h
  · rename_i h1
    have hu := openB_used h1.1
    have := walGo_ge _ (b.drop (openB b).2.2.1) false (openB b).2.2.1 (Nat.le_refl _)
    split at h
    · cases h
      omega
    · cases h
  · cases h
def alB (L : List As) (x : As) (n : Nat) : Bool := decide (L.length = 1) && decide (n = x.b.length)
theorem keepsFrom_below {B : Nat} {W W' : World} (h : Below W.heap.size W W') : KeepsFrom B W W' :=
  ⟨h.size, fun k _ _ hk _ => (h.block k (Array.getElem?_eq_some_iff.1 hk).1).trans hk⟩
theorem bs_own {W W' : World} {row : Option Nat} {A : Option Addr} {c : Nat} {p : List UInt8} (h : Bs W W.heap.size A c p) (hg : W.grownBy W' row) (hr : ∀ r, row = some r → ∃ o : Obj, W.heap[r]? = some o ∧ o.isCells = false) : Bs W' W'.heap.size A c p :=
  ⟨h.le, h.max, h.nil, fun hl => by
    obtain ⟨ad, e, hb, hc⟩ := h.at_ hl
    exact ⟨ad, e, Nat.lt_of_lt_of_le hb hg.size, fun j u hu => cell_kept (hc j u hu) hg hr⟩⟩
theorem row_own {W W' : World} {row : Option Nat} {K k : Nat} {T : TypeId} {v : Value} {n : Nat} {xs : List Value} (h : W.ownsRow K T k v n xs) (hg : W.grownBy W' row) (hr : ∀ r, row = some r → ∃ o : Obj, W.heap[r]? = some o ∧ o.isCells = false) : W'.ownsRow K T k v n xs := by
  refine h.kept hg ?_
  rcases h.2 with ⟨rfl, _⟩ | ⟨g, cap, cur, rfl, _, hgb, _⟩
  · exact .inl rfl
  · refine .inr fun e' => ?_
    obtain ⟨o, ho, hc⟩ := hr g e'.symm
    rw [hgb] at ho
    cases ho
    cases hc
theorem Rw.own {W W' : World} {row : Option Nat} {K : Nat} {T : TypeId} {v : Value} {ps : List (List UInt8)} (h : Rw W K T v ps) (hg : W.grownBy W' row) (hr : ∀ r, row = some r → ∃ o : Obj, W.heap[r]? = some o ∧ o.isCells = false) : Rw W' K T v ps := by
  obtain ⟨xs, ho, hx⟩ := h
  exact ⟨xs, row_own ho hg hr, fun i p hi => by
    obtain ⟨A, c, h2, h3, h4⟩ := hx i p hi
    exact ⟨A, c, h2, bs_own h3 hg hr, h4⟩⟩
/-- What newest tells. -/
def NewPost (w : World) (L : List As) (e : Ending) (w' : World) : Prop :=
  Below w.heap.size w w' ∧ ((newA L = none ∧ e = .returned (.tuple #[.agg #[.slice none 0 0, .slice none 0 0], .bool false, .int .i64 0])) ∨
    ∃ x base rs n A1 c1 A2 c2, newA L = some (x, base, rs, n) ∧ e = .returned (.tuple #[.agg #[.slice A1 base.length c1, .slice A2 rs.length c2], .bool (alB L x n), .int .i64 0]) ∧ Ob w' w.heap.size (.slice A1 base.length c1) base ∧ Rw w' w.heap.size 32 (.slice A2 rs.length c2) rs)
/-- A round has found it. -/
def Found (w : World) (q2 q3 q4 : Nat) (L : List As) (pre : List (Ixx L)) (W : World) : Prop :=
  ∃ ini last base rs n A1 c1 A2 c2, pre = ini ++ [last] ∧ (∀ y ∈ ini, readB y.1.2.b = none) ∧ readB last.1.2.b = some (base, rs, n) ∧
    W.cell? ⟨q2, 0, none⟩ = some (.slice A1 base.length c1) ∧ W.cell? ⟨q2, 1, none⟩ = some (.slice A2 rs.length c2) ∧ W.cell? ⟨q3, 0, none⟩ = some (.bool (alB L last.1.2 n)) ∧ W.cell? ⟨q4, 0, none⟩ = some (.int .i64 0) ∧
    Ob W w.heap.size (.slice A1 base.length c1) base ∧ Rw W w.heap.size 32 (.slice A2 rs.length c2) rs
theorem found_own (w : World) (q2 q3 q4 : Nat) (L : List As) : Own (Found w q2 q3 q4 L) := by
  rintro pre W W' row ⟨ini, last, base, rs, n, A1, c1, A2, c2, h1, h2, h3, h4, h5, h6, h7, h8, h9⟩ hg hr
  exact ⟨ini, last, base, rs, n, A1, c1, A2, c2, h1, h2, h3, cell_kept h4 hg hr, cell_kept h5 hg hr, cell_kept h6 hg hr, cell_kept h7 hg hr, row_own h8 hg hr, h9.own hg hr⟩
/-- Nothing has been found so far. -/
def Noth (q0 q1 q2 q3 q4 d : Nat) (A : Option Addr) (c : Nat) (L : List As) (pre : List (Ixx L)) (W : World) : Prop :=
  (∀ y ∈ pre, readB y.1.2.b = none) ∧ W.cell? ⟨q0, 0, none⟩ = some (.pointer (some ⟨d, 0, none⟩)) ∧ W.cell? ⟨q1, 0, none⟩ = some (.slice A L.length c) ∧
    W.cell? ⟨q2, 0, none⟩ = some (.slice none 0 0) ∧ W.cell? ⟨q2, 1, none⟩ = some (.slice none 0 0) ∧ W.cell? ⟨q3, 0, none⟩ = some (.bool false) ∧ W.cell? ⟨q4, 0, none⟩ = some (.int .i64 0) ∧
    W.frozen? ⟨q2, 0, none⟩ = false ∧ W.frozen? ⟨q2, 1, none⟩ = false ∧ W.frozen? ⟨q3, 0, none⟩ = false ∧ W.frozen? ⟨q4, 0, none⟩ = false
theorem noth_own (q0 q1 q2 q3 q4 d : Nat) (A : Option Addr) (c : Nat) (L : List As) : Own (Noth q0 q1 q2 q3 q4 d A c L) := by
  rintro pre W W' row ⟨h1, h2, h3, h4, h5, h6, h7, f1, f2, f3, f4⟩ hg hr
  exact ⟨h1, cell_kept h2 hg hr, cell_kept h3 hg hr, cell_kept h4 hg hr, cell_kept h5 hg hr, cell_kept h6 hg hr, cell_kept h7 hg hr, (frozen_kept h4 hg hr).trans f1, (frozen_kept h5 hg hr).trans f2, (frozen_kept h6 hg hr).trans f3, (frozen_kept h7 hg hr).trans f4⟩
theorem new_of {L : List As} (hL : 0 < L.length) {k : Nat} (hk : k + 1 ≤ L.length) {b : List UInt8} {r : List (List UInt8)} {n : Nat} (h : ∀ y ∈ dnt L hL k, readB y.1.2.b = none) (hr : readB (dnf L hL k).1.2.b = some (b, r, n)) : newA L = some ((dnf L hL k).1.2, b, r, n) := by
  refine newA_some (i := L.length - 1 - k) (dnf L hL k).2 (fun j y hj hy => ?_) hr
  obtain ⟨hjl, rfl⟩ := List.getElem?_eq_some_iff.1 hy
  have h9 := h (dnf L hL (L.length - 1 - j)) (List.mem_map.2 ⟨L.length - 1 - j, List.mem_range.2 (by omega), rfl⟩)
  have e : L.length - 1 - (L.length - 1 - j) = j := by omega
  simp only [dnf, e] at h9
  exact h9
/-- The results are stored. -/
def put3 (W : World) (q2 q3 q4 : Nat) (u v b : Value) : World := (((W.setCell ⟨q2, 0, none⟩ u).setCell ⟨q2, 1, none⟩ v).setCell ⟨q3, 0, none⟩ b).setCell ⟨q4, 0, none⟩ (.int .i64 0)
theorem put3_tn (W : World) (q2 q3 q4 : Nat) (u v b : Value) : Tn (fun k => k = q2 ∨ k = q3 ∨ k = q4) W (put3 W q2 q3 q4 u v b) :=
  ((((Tn.setCell W q2 0 u).mono fun _ _ h => .inl h).then ((Tn.setCell _ q2 1 v).mono fun _ _ h => .inl h)).then ((Tn.setCell _ q3 0 b).mono fun _ _ h => .inr (.inl h))).then ((Tn.setCell _ q4 0 (.int .i64 0)).mono fun _ _ h => .inr (.inr h))
theorem put3_cells {W : World} {q2 q3 q4 : Nat} {u0 u1 u2 u3 : Value} (e23 : q2 ≠ q3) (e24 : q2 ≠ q4) (e34 : q3 ≠ q4) (n2 : W.cell? ⟨q2, 0, none⟩ = some u0) (n2b : W.cell? ⟨q2, 1, none⟩ = some u1) (n3 : W.cell? ⟨q3, 0, none⟩ = some u2) (n4 : W.cell? ⟨q4, 0, none⟩ = some u3) (u v b : Value) :
    (put3 W q2 q3 q4 u v b).cell? ⟨q2, 0, none⟩ = some u ∧ (put3 W q2 q3 q4 u v b).cell? ⟨q2, 1, none⟩ = some v ∧ (put3 W q2 q3 q4 u v b).cell? ⟨q3, 0, none⟩ = some b ∧ (put3 W q2 q3 q4 u v b).cell? ⟨q4, 0, none⟩ = some (.int .i64 0) := by
  refine ⟨?_, ?_, ?_, ?_⟩
  · unfold put3; first | (simp [go_sem, n2]; done) | (simp [go_sem, n2, e23, e24]; done)
  · unfold put3; first | (simp [go_sem, n2b]; done) | (simp [go_sem, n2b, e23, e24]; done)
  · unfold put3; first | (simp [go_sem, n3]; done) | (simp [go_sem, n3, e34, e23.symm]; done)
  · unfold put3; first | (simp [go_sem, n4]; done) | (simp [go_sem, n4, e24.symm, e34.symm]; done)
theorem found_put {w W : World} {K q2 q3 q4 c1 c2 n : Nat} {A1 A2 : Option Addr} {u0 u1 u2 u3 : Value} {base : List UInt8} {rs : List (List UInt8)} {L : List As} {ini : List (Ixx L)} {last : Ixx L} (hq : w.heap.size ≤ q2 ∧ q2 < q3 ∧ q3 < q4 ∧ q4 < K)
    (n2 : W.cell? ⟨q2, 0, none⟩ = some u0) (n2b : W.cell? ⟨q2, 1, none⟩ = some u1) (n3 : W.cell? ⟨q3, 0, none⟩ = some u2) (n4 : W.cell? ⟨q4, 0, none⟩ = some u3) (hi : ∀ y ∈ ini, readB y.1.2.b = none) (hl : readB last.1.2.b = some (base, rs, n))
    (ob : Ob W K (.slice A1 base.length c1) base) (rw_ : Rw W K 32 (.slice A2 rs.length c2) rs) (hB : Below w.heap.size w W) :
    Found w q2 q3 q4 L (ini ++ [last]) (put3 W q2 q3 q4 (.slice A1 base.length c1) (.slice A2 rs.length c2) (.bool (alB L last.1.2 n))) ∧ Below w.heap.size w (put3 W q2 q3 q4 (.slice A1 base.length c1) (.slice A2 rs.length c2) (.bool (alB L last.1.2 n))) := by
  have t := put3_tn W q2 q3 q4 (.slice A1 base.length c1) (.slice A2 rs.length c2) (.bool (alB L last.1.2 n))
  have e23 : q2 ≠ q3 := by omega
  have e24 : q2 ≠ q4 := by omega
  have e34 : q3 ≠ q4 := by omega
  refine ⟨⟨ini, last, base, rs, n, A1, c1, A2, c2, rfl, hi, hl, ?_, ?_, ?_, ?_, (t.ob ob fun g hg e => by have := (ob.lt g hg).1; omega).more (by omega), (rw_.tn t fun k hk e => by omega).more (by omega)⟩, t.bel hB (fun k hk => by omega) (Nat.le_refl _)⟩
  · unfold put3; first | (simp [go_sem, n2]; done) | (simp [go_sem, n2, e23, e24]; done)
  · unfold put3; first | (simp [go_sem, n2b]; done) | (simp [go_sem, n2b, e23, e24]; done)
  · unfold put3; first | (simp [go_sem, n3]; done) | (simp [go_sem, n3, e34, e23.symm]; done)
  · unfold put3; first | (simp [go_sem, n4]; done) | (simp [go_sem, n4, e24.symm, e34.symm]; done)
theorem Noth.kept {q0 q1 q2 q3 q4 d c : Nat} {A : Option Addr} {L : List As} {pre : List (Ixx L)} {x : Ixx L} {W W' : World} (h : Noth q0 q1 q2 q3 q4 d A c L pre W) (hb : Below W.heap.size W W') (hx : readB x.1.2.b = none) : Noth q0 q1 q2 q3 q4 d A c L (pre ++ [x]) W' := by
  obtain ⟨h1, h2, h3, h4, h5, h6, h7, f1, f2, f3, f4⟩ := h
  have fk : ∀ {p : Addr} {v : Value}, W.cell? p = some v → W'.frozen? p = W.frozen? p := fun {p v} hv => hb.frozen (World.block_lt_of_cell? W _ hv)
  refine ⟨fun y hy => (List.mem_append.1 hy).elim (h1 y) fun e => by simp at e; subst e; exact hx, Go.Proofs.Ytkkaehaoahpibaa.kept hb h2, Go.Proofs.Ytkkaehaoahpibaa.kept hb h3, Go.Proofs.Ytkkaehaoahpibaa.kept hb h4, Go.Proofs.Ytkkaehaoahpibaa.kept hb h5, Go.Proofs.Ytkkaehaoahpibaa.kept hb h6, Go.Proofs.Ytkkaehaoahpibaa.kept hb h7, (fk h4).trans f1, (fk h5).trans f2, (fk h6).trans f3, (fk h7).trans f4⟩
set_option maxRecDepth 100000 in
set_option maxHeartbeats 6400000 in
theorem newest_any {w : World} {B : Nat → Prop} {d c K : Nat} {a : Ad} {A : Option Addr} (D : DD w B d a) (hd : a.down = false) (so : So encI 1 w K 3 (.slice A a.L.length c) (a.L.map As.n)) :
    Calls Try.prog 27 #[dP d, .slice A a.L.length c] w (NewPost w a.L) := by
  refine (callsIn_wide (n := 8)).1 ?_
  refine callsIn_of_wp_marks Try.func27 rfl trivial ?_ rfl
  simp only [Try.ntmps27, List.size_toArray, List.length_cons, List.length_nil, Nat.reduceAdd, Nat.reduceSub, Array.replicate_succ, Array.replicate_zero, List.push_toArray, List.append_toArray, List.nil_append, List.cons_append]
  gi_wp2_with (refine ⟨trivial, ?_⟩; gi_at_call 52; refine (bk_in Fence.wide (8 - 1) trivial rfl _ _ _ _).mono ?_; rintro e w' ⟨rfl, rfl⟩)
  obtain ⟨q5, h5⟩ : ∃ q, q = w.heap.size + 1 + 1 + 1 + 1 + 1 := ⟨_, rfl⟩
  obtain ⟨q4, h4⟩ : ∃ q, q = w.heap.size + 1 + 1 + 1 + 1 := ⟨_, rfl⟩
  obtain ⟨q3, h3⟩ : ∃ q, q = w.heap.size + 1 + 1 + 1 := ⟨_, rfl⟩
  obtain ⟨q2, h2⟩ : ∃ q, q = w.heap.size + 1 + 1 := ⟨_, rfl⟩
  obtain ⟨q1, h1⟩ : ∃ q, q = w.heap.size + 1 := ⟨_, rfl⟩
  obtain ⟨q0, h0⟩ : ∃ q, q = w.heap.size := ⟨_, rfl⟩
  obtain ⟨W6, hW6⟩ : ∃ W6, W6 = ((((((w.alloc (Obj.cells #[dP d] 26)).alloc (Obj.cells #[Value.slice A a.L.length c] 33)).alloc (Obj.cells #[Value.slice none 0 0, Value.slice none 0 0] 69)).alloc (Obj.cells #[Value.bool false] 4)).alloc (Obj.cells #[Value.int IntKind.i64 0] 27)).alloc (Obj.cells #[Value.slice A a.L.length c] 33)) := ⟨_, rfl⟩
  rw [← hW6, ← h5, ← h4, ← h3, ← h2, ← h1, ← h0]
  have hb6 : Below w.heap.size w W6 := by
    rw [hW6]
    exact ((((((Below.refl _ _).alloc (Nat.le_refl _) _).alloc (by simp) _).alloc (by simp; omega) _).alloc (by simp; omega) _).alloc (by simp; omega) _).alloc (by simp; omega) _
  have hN0 : Noth q0 q1 q2 q3 q4 d A c a.L [] W6 := by
    rw [h0, h1, h2, h3, h4, hW6]
    exact ⟨by simp, by simp [go_sem], by simp [go_sem], by simp [go_sem], by simp [go_sem], by simp [go_sem], by simp [go_sem], by simp [go_sem], by simp [go_sem], by simp [go_sem], by simp [go_sem]⟩
  have hc5 : W6.cell? ⟨q5, 0, none⟩ = some (.slice A a.L.length c) := by rw [h5, hW6]; simp [go_sem]
  have hs6 : W6.heap.size = q5 + 1 := by rw [h5, hW6]; simp
  clear hW6
  have hln : a.L.length ≤ 1024 := D.ln
  have hI : 0 < a.L.length → ∃ g, A = some ⟨g, 0, none⟩ ∧ g < q5 + 1 ∧ ∀ (j : Nat) x, a.L[j]? = some x → W6.cell? ⟨g, j, none⟩ = some (.int .i64 x.n) := fun hl => by
    have so6 := so.below hb6
    obtain ⟨g, rfl⟩ := so_addr so6 (by simpa using hl)
    refine ⟨g, rfl, by have := (so6.lt g rfl).2; omega, fun j x hj => so_slot so6 (by rw [List.getElem?_map, hj]; rfl)⟩
  have HD := Lib.hid D
  have HQ := Lib.hid (⟨h0, h1, h2, h3, h4, h5⟩ : q0 = w.heap.size ∧ q1 = w.heap.size + 1 ∧ q2 = w.heap.size + 1 + 1 ∧ q3 = w.heap.size + 1 + 1 + 1 ∧ q4 = w.heap.size + 1 + 1 + 1 + 1 ∧ q5 = w.heap.size + 1 + 1 + 1 + 1 + 1)
  clear so D
  refine wpIn_rangeFunc_ownG rfl (by omega) (gf := 60) (lb := #[.pointer (some ⟨q5, 0, none⟩)]) rfl trivial (enters_of Try.func60 (by kernel_rfl) rfl)
    (bk_stops Fence.wide (8 - 1) trivial rfl (by omega) q5 (q5 + 1) c A a.L hln W6 (by omega) (by omega) hc5 hI) belowK_t (belowK_b (by omega)) (Below.refl _ _) (fun _ => rfl)
    (fun pre W => Noth q0 q1 q2 q3 q4 d A c a.L pre W ∧ (Below w.heap.size w W ∧ Below (q5 + 1) W6 W))
    (fun cd pre W => (cd = .ret ∧ Found w q2 q3 q4 a.L pre W) ∧ Below w.heap.size w W)
    (OwnFrom.and (Own.from (noth_own q0 q1 q2 q3 q4 d A c a.L) _) (OwnFrom.and (ownFrom_below (Nat.le_refl _) (by omega)) (ownFrom_below (by omega) (by omega))))
    (fun cd => OwnFrom.and (OwnFrom.and (ownFrom_pure _ _) (Own.from (found_own w q2 q3 q4 a.L) _)) (ownFrom_below (Nat.le_refl _) (by omega)))
    ⟨hN0, hb6, Below.refl _ _⟩
    (fun x => { tmps := #[dP d, Value.slice A a.L.length c, .pointer (some ⟨q0, 0, none⟩), .pointer (some ⟨q1, 0, none⟩), .pointer (some ⟨q2, 0, none⟩), .pointer (some ⟨q3, 0, none⟩), .pointer (some ⟨q4, 0, none⟩), undef, .int .i64 x.1.2.n, undef, undef, undef, undef, Value.slice A a.L.length c,
      .func (.func 60) #[] #[.pointer (some ⟨q5, 0, none⟩)], .int .i64 ((x.1.1 : Nat) : Int), .int .i64 x.1.2.n, undef, undef, undef, undef, undef, undef, undef, undef, undef, undef, undef, undef, undef, undef, undef, undef, undef, undef, undef, undef, undef, undef, undef, undef, undef, undef, undef, undef], defers := [] }) ?assign ?body ?done ?stop
  case assign =>
    clear h0 h1 h2 h3 h4 h5 hN0 hc5 hs6
    intro l x W K hK
    gi_wp2
    exact hK
  case body =>
    clear h0 h1 h2 h3 h4 h5 hN0 hc5
    rintro l pre ⟨⟨i, x⟩, hx⟩ W ⟨hnn, hB, hB6⟩ hlt
    have hW6 : q5 + 1 ≤ W.heap.size := by have := hB6.size; omega
    have HB6 := Lib.hid hB6
    clear hB6 hs6
    have HNN := Lib.hid hnn
    obtain ⟨hp, n0, n1, n2, n2b, n3, n4, f1, f2, f3, f4⟩ := hnn
    have hxm := List.mem_of_getElem? hx
    simp only at hx hxm
    have hr1 := read_DD (HD.out.below hB) hd hxm
    have hbx : x.b.length ≤ 67108864 := Nat.le_trans (sum_mem hxm) (by have h1 := HD.out.le; have h2 := HD.out.rm; omega)
    have HR1 := Lib.hid hr1
    have HP := Lib.hid hp
    have HB := Lib.hid hB
    have HX := Lib.hid hx
    have hWs : w.heap.size ≤ W.heap.size := hB.size
    clear hr1 hp hB hxm
    gi_wp2_with (refine ⟨trivial, ?_⟩; gi_at_call 37; refine (CallsIn.inRound l (callsIn_wide.2 HR1.out)).mono ?_; rintro e W1 ⟨A9, c9, rfl, ob9, b9⟩; have HRD := Lib.hid (read_any W1.heap.size A9 c9 x.b W1 ob9.bs.1 (Nat.le_refl _) (by omega)); have HB9 := Lib.hid b9; have m0 := kept b9 n0)
    refine ⟨trivial, ?_⟩
    refine (CallsIn.inRound l (callsIn_wide.2 HRD.out)).mono ?_
    rintro e W2 ⟨b2, hcase⟩
    have hb12 : Below W.heap.size W W2 := HB9.out.trans (b2.mono HB9.out.size)
    have HB12 := Lib.hid hb12
    have m1 := kept hb12 n1
    have m2 := kept hb12 n2
    have m2b := kept hb12 n2b
    have m3 := kept hb12 n3
    have m4 := kept hb12 n4
    have fk : ∀ {p : Addr} {v : Value}, W.cell? p = some v → W2.frozen? p = W.frozen? p := fun {p v} hv => hb12.frozen (World.block_lt_of_cell? W _ hv)
    have g1 := (fk n2).trans f1
    have g2 := (fk n2b).trans f2
    have g3 := (fk n3).trans f3
    have g4 := (fk n4).trans f4
    have l1 := World.block_lt_of_cell? _ _ m1
    have l2 := World.block_lt_of_cell? _ _ m2
    have l3 := World.block_lt_of_cell? _ _ m3
    have l4 := World.block_lt_of_cell? _ _ m4
    have l1b : q1 < W1.heap.size := Nat.lt_of_lt_of_le (World.block_lt_of_cell? _ _ n1) HB9.out.size
    have l4b : q4 < W1.heap.size := Nat.lt_of_lt_of_le (World.block_lt_of_cell? _ _ n4) HB9.out.size
    clear hb12 b2 fk n0 n1 n2 n2b n3 n4 f1 f2 f3 f4 m0 HR1 HRD
    rcases hcase with ⟨hn, rfl⟩ | ⟨base, rs, n, A1, c1, A2, c2, hn, rfl, ob, rw_⟩
    · have HFIN : Hid (∀ o : Obj, Noth q0 q1 q2 q3 q4 d A c a.L (pre ++ [⟨(i, x), hx⟩]) (W2.alloc o) ∧ Below W.heap.size W (W2.alloc o)) := Lib.hid fun o => ⟨HNN.out.kept (HB12.out.alloc HB12.out.size o) hn, HB12.out.alloc HB12.out.size o⟩
      clear hn HNN
      gi_wp2
      exact ⟨keepsFrom_below (HFIN.out _).2, (HFIN.out _).2.mono hW6, (HFIN.out _).1, HB.out.trans ((HFIN.out _).2.mono hWs), HB6.out.trans ((HFIN.out _).2.mono hW6)⟩
    · have hn0 := readB_pos hn
      have n1' : (0 : Int) < (n : Int) := by omega
      have HQ2 : Hid (w.heap.size ≤ q2 ∧ q2 < q3 ∧ q3 < q4 ∧ q4 < W1.heap.size) := Lib.hid (by have := HQ.out; omega)
      have hfp := found_put (L := a.L) (last := ⟨(i, x), hx⟩) HQ2.out m2 m2b m3 m4 HP.out hn ob rw_ (HB.out.trans (HB12.out.mono hWs))
      have HFIN : Hid (∀ o : Obj, Found w q2 q3 q4 a.L (pre ++ [⟨(i, x), hx⟩]) ((put3 W2 q2 q3 q4 (.slice A1 base.length c1) (.slice A2 rs.length c2) (.bool (alB a.L x n))).alloc o) ∧ Below w.heap.size w ((put3 W2 q2 q3 q4 (.slice A1 base.length c1) (.slice A2 rs.length c2) (.bool (alB a.L x n))).alloc o)) := Lib.hid fun o =>
        ⟨(found_own w q2 q3 q4 a.L).alloc o hfp.1, hfp.2.alloc hfp.2.size o⟩
      clear hfp
      have HKF : Hid (∀ (o : Obj) u v b, KeepsFrom W6.heap.size W ((put3 W2 q2 q3 q4 u v b).alloc o)) := Lib.hid fun o u v b => (keepsFrom_below HB12.out).trans (((((((KeepsOthers.setCell _ _ _).trans (KeepsOthers.setCell _ _ _)).trans (KeepsOthers.setCell _ _ _)).trans (KeepsOthers.setCell _ _ _)).trans (KeepsOthers.alloc _ _))).from _)
      have hcl := ob.bs.1.le
      have ne23 : q2 ≠ q3 := by have := HQ2.out; omega
      have ne24 : q2 ≠ q4 := by have := HQ2.out; omega
      have ne34 : q3 ≠ q4 := by have := HQ2.out; omega
      have ne32 := ne23.symm
      have ne42 := ne24.symm
      have ne43 := ne34.symm
      clear hn HNN hn0 ob rw_ HB12 HQ HQ2
      unfold put3 at HFIN HKF
      by_cases hl1 : a.L.length = 1
      · have q1b : ((a.L.length : Int) == 1) = true := by simp; omega
        by_cases hnl : n = x.b.length
        · have q2b : ((n : Int) == (x.b.length : Int)) = true := by simp; omega
          have hal : alB a.L x n = true := by simp [alB, hl1, hnl]
          rw [hal] at HFIN
          clear hal hl1 hnl
          gi_wp2
          exact ⟨HKF.out _ _ _ _, ⟨rfl, (HFIN.out _).1⟩, (HFIN.out _).2⟩
        · have q2b : ((n : Int) == (x.b.length : Int)) = false := by simp; omega
          have hal : alB a.L x n = false := by simp [alB, hl1, hnl]
          rw [hal] at HFIN
          clear hal hl1 hnl
          gi_wp2
          exact ⟨HKF.out _ _ _ _, ⟨rfl, (HFIN.out _).1⟩, (HFIN.out _).2⟩
      · have q1b : ((a.L.length : Int) == 1) = false := by simp; omega
        have hal : alB a.L x n = false := by simp [alB, hl1]
        rw [hal] at HFIN
        clear hal hl1
        gi_wp2
        exact ⟨HKF.out _ _ _ _, ⟨rfl, (HFIN.out _).1⟩, (HFIN.out _).2⟩
  case done =>
    have ne : q2 ≠ q3 ∧ q2 ≠ q4 ∧ q3 ≠ q4 := by omega
    have hq2 : w.heap.size ≤ q2 ∧ w.heap.size ≤ q3 ∧ w.heap.size ≤ q4 := by omega
    clear h0 h1 h2 h3 h4 h5 hN0 hc5
    rintro D9 ys W hD hys ⟨⟨hp, n0, n1, n2, n2b, n3, n4, f1, f2, f3, f4⟩, hB, _⟩ hK
    have HC := Lib.hid (put3_cells ne.1 ne.2.1 ne.2.2 n2 n2b n3 n4 (.slice none 0 0) (.slice none 0 0) (.bool false))
    have HKO : Hid (KeepsOthers W (put3 W q2 q3 q4 (.slice none 0 0) (.slice none 0 0) (.bool false))) := Lib.hid ((((KeepsOthers.setCell _ _ _).trans (KeepsOthers.setCell _ _ _)).trans (KeepsOthers.setCell _ _ _)).trans (KeepsOthers.setCell _ _ _))
    have HB9 : Hid (Below w.heap.size w (put3 W q2 q3 q4 (.slice none 0 0) (.slice none 0 0) (.bool false))) := Lib.hid ((put3_tn W q2 q3 q4 _ _ _).bel hB (fun k hk => by omega) (Nat.le_refl _))
    have HN : Hid (newA a.L = none) := Lib.hid (newA_none fun x hx => by
      obtain ⟨j, hj⟩ := List.getElem?_of_mem hx
      exact hp _ (hys j x hj))
    have HKD := Lib.hid hK
    have HDs := Lib.hid (show w.heap.size ≤ D9 by have := HQ.out; omega)
    obtain ⟨ne23, ne24, ne34⟩ := ne
    have ne32 := ne23.symm
    have ne42 := ne24.symm
    have ne43 := ne34.symm
    clear hp hys hB hK hq2 hD hs6
    unfold put3 at HC HKO HB9
    gi_wp2
    have hK' := HKO.out.same D9 _ HKD.out rfl
    refine ⟨by simp, .inl ⟨_, _, rfl, run_takeDeferred hK', ?_⟩⟩
    obtain ⟨y1, y2, y3, y4⟩ := HC.out
    have z1 := cell_kept y1 (grownBy_putObj' _ D9 (.deferred none)) (fun r e => by cases e; exact ⟨_, hK', rfl⟩)
    have z2 := cell_kept y2 (grownBy_putObj' _ D9 (.deferred none)) (fun r e => by cases e; exact ⟨_, hK', rfl⟩)
    have z3 := cell_kept y3 (grownBy_putObj' _ D9 (.deferred none)) (fun r e => by cases e; exact ⟨_, hK', rfl⟩)
    have z4 := cell_kept y4 (grownBy_putObj' _ D9 (.deferred none)) (fun r e => by cases e; exact ⟨_, hK', rfl⟩)
    refine ⟨.tuple #[.agg #[.slice none 0 0, .slice none 0 0], .bool false, .int .i64 0], ?_, HB9.out.trans (belowK_b (w := w) (Nat.le_refl _) _ D9 _ _ HDs.out hK' rfl rfl), .inl ⟨HN.out, rfl⟩⟩
    simp [results, Try.results27, go_sem, z1, z2, z3, z4]
  case stop =>
    clear h0 h1 h2 h3 h4 h5 hN0 hc5
    rintro D9 cd pre W hD ⟨hL, k, hk, rfl⟩ ⟨⟨rfl, ini, last, base, rs, n, A1, c1, A2, c2, e1, hini, hlast, y1, y2, y3, y4, ob, rw_⟩, hB⟩ hK
    obtain ⟨k', rfl⟩ : ∃ k', k = k' + 1 := by
      cases k with
      | zero => simp [dnt] at e1
      | succ k' => exact ⟨k', rfl⟩
    rw [dnt_succ] at e1
    obtain ⟨rfl, e5⟩ := List.append_inj' e1 rfl
    obtain rfl : dnf a.L hL k' = last := by simpa using e5
    have HN := Lib.hid (new_of hL (by omega) hini hlast)
    have HDs := Lib.hid (show w.heap.size ≤ D9 by have := HQ.out; omega)
    have HOB := Lib.hid ob
    have HRW := Lib.hid rw_
    have HKD := Lib.hid hK
    clear hini hlast ob rw_ hK e1 e5 hD hs6
    gi_wp2
    have hK' := HKD.out
    refine ⟨by simp, .inl ⟨_, _, rfl, run_takeDeferred hK', ?_⟩⟩
    have z1 := cell_kept y1 (grownBy_putObj' _ D9 (.deferred none)) (fun r e => by cases e; exact ⟨_, hK', rfl⟩)
    have z2 := cell_kept y2 (grownBy_putObj' _ D9 (.deferred none)) (fun r e => by cases e; exact ⟨_, hK', rfl⟩)
    have z3 := cell_kept y3 (grownBy_putObj' _ D9 (.deferred none)) (fun r e => by cases e; exact ⟨_, hK', rfl⟩)
    have z4 := cell_kept y4 (grownBy_putObj' _ D9 (.deferred none)) (fun r e => by cases e; exact ⟨_, hK', rfl⟩)
    have hr : ∀ r, some D9 = some r → ∃ o : Obj, W.heap[r]? = some o ∧ o.isCells = false := fun r e => by cases e; exact ⟨_, hK', rfl⟩
    refine ⟨.tuple #[.agg #[.slice A1 base.length c1, .slice A2 rs.length c2], .bool (alB a.L (dnf a.L hL k').1.2 n), .int .i64 0], ?_, hB.trans (belowK_b (w := w) (Nat.le_refl _) _ D9 _ _ HDs.out hK' rfl rfl), .inr ⟨_, base, rs, n, A1, c1, A2, c2, HN.out, rfl, row_own HOB.out (grownBy_putObj' _ D9 _) hr, HRW.out.own (grownBy_putObj' _ D9 _) hr⟩⟩
    simp [results, Try.results27, go_sem, z1, z2, z3, z4]
end Go.Proofs.Ytkkaehaoahpibaa
