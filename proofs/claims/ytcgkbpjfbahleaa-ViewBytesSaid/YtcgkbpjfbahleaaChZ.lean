/- Slices of flat elements behind what a call turned; a cell of a slice of the own is turned. -/
import Derived.WalkKit
import Derived.WalkSpells
import Derived.WalkLawsBesides
import Derived.Handy
import Derived.Lib.Hide
import Derived.Deep.RegionHeld3
import Derived.Deep.DeepCutAuto
import Derived.Test.YtcgkbpjfbahleaaProg
import Derived.Maps.AppendAt
import Derived.OwnWalk
import Derived.Laws.OwnMore
import Derived.Laws.Rows
import Derived.Deep.AppendLies
import Derived.LoopTactic
import Derived.Lib.SliceRun
import Derived.BigQuiet
import Derived.Deep.QuietTactic
import Derived.Laws.BytesArg
import Derived.Orders
namespace Go.Proofs.Ytcgkbpjfbahleaa
open Go.RowKit

theorem bcell {W w1 : World} (hb : Below W.heap.size W w1) : (∀ b o, b < W.heap.size → w1.cell? ⟨b, o, none⟩ = W.cell? ⟨b, o, none⟩) ∧ (∀ b o, b < W.heap.size → w1.frozen? ⟨b, o, none⟩ = W.frozen? ⟨b, o, none⟩) :=
  ⟨fun b o h => hb.cell (p := ⟨b, o, none⟩) h, fun b o h => hb.frozen (p := ⟨b, o, none⟩) h⟩
/-- What a call made behind a world that had only grown. -/
theorem via {B : Nat} {w W w1 : World} (hb : Below W.heap.size W w1) (h : Below B w W) (hB : B ≤ W.heap.size) : Below B w w1 := h.trans (hb.mono hB)
theorem kept {W w1 : World} {p : Addr} {v : Value} (hb : Below W.heap.size W w1) (h : W.cell? p = some v) : w1.cell? p = some v :=
  (hb.cell (World.block_lt_of_cell? W p h)).trans h
theorem keptD {X : World} {p : Addr} {v : Value} (h : X.cell? p = some v) : X.drew.cell? p = some v := h
theorem keptA {X : World} {p : Addr} {v : Value} {o : Obj} (h : X.cell? p = some v) : (X.alloc o).cell? p = some v :=
  (World.cell?_alloc_lt _ _ _ (World.block_lt_of_cell? X p h)).trans h
theorem ret_int {k : IntKind} {a b : Int} (h : a = b) : Ending.returned (.int k a) = .returned (.int k b) := by rw [h]
theorem ret_bool {a b : Bool} (h : a = b) : Ending.returned (.bool a) = .returned (.bool b) := by rw [h]

end Go.Proofs.Ytcgkbpjfbahleaa
namespace Go.Proofs.Ytcgkbpjfbahleaa

/-- Each number stands behind the one ahead of it, and is below 8. -/
def riseB : Int → List Int → Bool
  | _, [] => true
  | p, n :: l => decide (p < n) && decide (n < 8) && riseB n l
def memsB (l : List Int) : Bool := riseB (-1) l && decide (0 < l.length)
def hasB (l : List Int) (n : Int) : Bool := decide (n ∈ l)
def rightV (e p : Int) (l : List Int) : Bool := decide (1 ≤ e) && decide (e ≤ 4611686018427387904) && memsB l && hasB l p
/-- A control: the epoch, the primary, the members, the safe nodes. -/
structure Vc where
  e : Int
  p : Int
  ms : List Int
  sf : List Int
def chV (c : Vc) (p : Int) (ms : List Int) : Int × Vc :=
  if rightV 1 p ms = false then (1, c) else if hasB c.sf p = false then (111, c) else if 4611686018427387904 ≤ c.e then (20, c)
  else (0, ⟨c.e + 1, p, ms, c.sf.filter fun n => hasB ms n⟩)
def acV (c : Vc) (n : Int) : Int × Vc :=
  if n < 1 ∨ c.e < n then (1, c) else if n = c.e then (0, ⟨c.e, c.p, c.ms, c.ms⟩) else (0, c)
/-- What holds of each control that was made. -/
structure VcOk (c : Vc) : Prop where
  e1 : 1 ≤ c.e
  e2 : c.e ≤ 4611686018427387904
  ms : memsB c.ms = true
  pm : c.p ∈ c.ms
  ps : c.p ∈ c.sf
  sub : ∀ n ∈ c.sf, n ∈ c.ms
  len : c.sf.length ≤ 8

theorem riseB_snoc (x : Int) : ∀ (p : Int) (l : List Int), riseB p (l ++ [x]) = (riseB p l && (decide (l.getLastD p < x) && decide (x < 8)))
  | p, [] => by simp [riseB]
  | p, n :: l => by
    rw [List.cons_append, riseB, riseB_snoc x n l, riseB, List.getLastD_cons]
    cases decide (p < n) <;> cases decide (n < 8) <;> simp
theorem riseB_take {p : Int} {l : List Int} (h : riseB p l = true) (i : Nat) : riseB p (l.take i) = true := by
  induction l generalizing p i with
  | nil => simp [riseB]
  | cons n l ih =>
    cases i with
    | zero => rfl
    | succ i =>
      rw [riseB, Bool.and_eq_true] at h
      rw [List.take_succ_cons, riseB, h.1, ih h.2 i]; rfl
theorem riseB_all : ∀ {p : Int} {l : List Int}, riseB p l = true → ∀ n ∈ l, p < n ∧ n < 8
  | p, [], _, n, hn => by cases hn
  | p, m :: l, h, n, hn => by
    simp only [riseB, Bool.and_eq_true, decide_eq_true_eq] at h
    rcases List.mem_cons.1 hn with rfl | hn
    · exact h.1
    · have := riseB_all h.2 n hn; omega
theorem riseB_len : ∀ {p : Int} {l : List Int}, -1 ≤ p → riseB p l = true → (l.length : Int) + p ≤ 7 ∨ l = []
  | _, [], _, _ => .inr rfl
  | p, m :: l, hp, h => by
    simp only [riseB, Bool.and_eq_true, decide_eq_true_eq] at h
    left
    rcases riseB_len (l := l) (p := m) (by omega) h.2 with h2 | h2
    · simp only [List.length_cons]; omega
    · subst h2; simp; omega
theorem mems_len {l : List Int} (h : memsB l = true) : 1 ≤ l.length ∧ l.length ≤ 8 := by
  unfold memsB at h
  rw [Bool.and_eq_true, decide_eq_true_eq] at h
  rcases riseB_len (by omega) h.1 with h2 | h2
  · omega
  · rw [h2] at h; simp at h
theorem mems_all {l : List Int} (h : memsB l = true) : ∀ n ∈ l, 0 ≤ n ∧ n < 8 := fun n hn => by
  unfold memsB at h
  rw [Bool.and_eq_true] at h
  have := riseB_all h.1 n hn
  omega
theorem rightV_iff {e p : Int} {l : List Int} : rightV e p l = true ↔ 1 ≤ e ∧ e ≤ 4611686018427387904 ∧ memsB l = true ∧ p ∈ l := by
  simp [rightV, hasB, and_assoc]
theorem ch_ok {c : Vc} (h : VcOk c) (p : Int) (ms : List Int) : VcOk (chV c p ms).2 := by
  unfold chV
  by_cases h1 : rightV 1 p ms = false
  · rw [if_pos h1]; exact h
  rw [if_neg h1]
  by_cases h2 : hasB c.sf p = false
  · rw [if_pos h2]; exact h
  rw [if_neg h2]
  by_cases h3 : 4611686018427387904 ≤ c.e
  · rw [if_pos h3]; exact h
  rw [if_neg h3]
  have r := rightV_iff.1 (by simpa using h1)
  have hp : p ∈ c.sf := by simpa [hasB] using h2
  refine ⟨by have := h.e1; simp only; omega, by simp only; omega, r.2.2.1, r.2.2.2, ?_, fun n hn => ?_, ?_⟩
  · simp only [List.mem_filter]; exact ⟨hp, by simpa [hasB] using r.2.2.2⟩
  · simp only [List.mem_filter] at hn; simpa [hasB] using hn.2
  · exact Nat.le_trans (List.length_filter_le _ _) h.len
theorem ac_ok {c : Vc} (h : VcOk c) (n : Int) : VcOk (acV c n).2 := by
  unfold acV
  split
  · exact h
  · split
    · exact ⟨h.e1, h.e2, h.ms, h.pm, h.pm, fun _ h => h, (mems_len h.ms).2⟩
    · exact h
theorem new_ok {m : Int} {l : List Int} (h : memsB (m :: l) = true) : VcOk ⟨1, m, m :: l, m :: l⟩ :=
  ⟨by simp, by simp, h, List.mem_cons_self, List.mem_cons_self, fun _ h => h, (mems_len h).2⟩
/-- Whoever is safe behind a change was safe. -/
theorem ch_sub {c : Vc} {p : Int} {ms : List Int} : ∀ n ∈ (chV c p ms).2.sf, n ∈ c.sf := by
  unfold chV
  intro n hn
  split at hn
  · exact hn
  split at hn
  · exact hn
  split at hn
  · exact hn
  simp only [List.mem_filter] at hn
  exact hn.1
end Go.Proofs.Ytcgkbpjfbahleaa
namespace Go.Proofs.Ytcgkbpjfbahleaa
open Go.RowKit

theorem el_block_of_add (a : Addr) (n : Nat) : (a.add n).block = a.block := by unfold Addr.add; split <;> rfl
theorem el_add_of_add (a : Addr) (i j : Nat) : (a.add i).add j = a.add (i + j) := by
  unfold Addr.add
  by_cases hi : i = 0 <;> by_cases hj : j = 0 <;> simp [hi, hj, Nat.add_assoc]
theorem el_add_pos (q : Addr) (j : Nat) (hj : 0 < j) : q.add j = ⟨q.block, q.off + j, none⟩ := by unfold Addr.add; rw [if_neg (by omega)]
theorem el_add_zero (q : Addr) : q.add 0 = q := by unfold Addr.add; rw [if_pos rfl]

section
variable {α : Type} {enc : α → List Value} {k : Nat}

/-- The slice at A with capacity cap reads as the list l, each element k cells, in memory below block K. -/
structure Sr (enc : α → List Value) (k : Nat) (w : World) (K : Nat) (A : Option Addr) (cap : Nat) (l : List α) : Prop where
  le : l.length ≤ cap
  max : cap ≤ maxLen
  nil : A = none → cap = 0
  at_ : 0 < l.length → ∃ ad : Addr, A = some ad ∧ ad.block < K ∧ ∀ i x, l[i]? = some x → ∀ j u, (enc x)[j]? = some u → w.cell? (ad.add (i * k + j)) = some u
/-- v is a slice of the call's own (blocks from K on, elements of type T) that holds the list l. -/
def So (enc : α → List Value) (k : Nat) (w : World) (K : Nat) (T : TypeId) (v : Value) (l : List α) : Prop := w.ownsRow K T k v l.length (l.flatMap enc)

variable {w w' : World} {K K' cap : Nat} {A : Option Addr} {l : List α}
theorem Sr.none_ (w : World) (K : Nat) : Sr enc k w K none 0 ([] : List α) := ⟨Nat.le_refl _, by unfold maxLen; omega, fun _ => rfl, fun h => absurd h (by simp)⟩
theorem Sr.keep (h : Sr enc k w K A cap l) (hk : ∀ p : Addr, p.block < K → w'.cell? p = w.cell? p) : Sr enc k w' K A cap l :=
  ⟨h.le, h.max, h.nil, fun hn => by
    obtain ⟨ad, e, hb, hc⟩ := h.at_ hn
    exact ⟨ad, e, hb, fun i x hi j u hu => (hk _ (by rw [el_block_of_add]; exact hb)).trans (hc i x hi j u hu)⟩⟩
theorem Sr.below (h : Sr enc k w K A cap l) (hb : Below K w w') : Sr enc k w' K A cap l := h.keep fun _ hp => hb.cell hp
theorem Sr.more (h : Sr enc k w K A cap l) (hK : K ≤ K') : Sr enc k w K' A cap l :=
  ⟨h.le, h.max, h.nil, fun hn => by
    obtain ⟨ad, e, hb, hc⟩ := h.at_ hn
    exact ⟨ad, e, by omega, hc⟩⟩
theorem Sr.drewN (h : Sr enc k w K A cap l) (n : Nat) : Sr enc k (w.drewN n) K A cap l := h.keep fun _ _ => rfl
theorem Sr.drew (h : Sr enc k w K A cap l) : Sr enc k w.drew K A cap l := h.keep fun _ _ => rfl
theorem Sr.alloc (h : Sr enc k w K A cap l) (hK : K ≤ w.heap.size) (o : Obj) : Sr enc k (w.alloc o) K A cap l := h.keep fun _ hp => World.cell?_alloc_lt _ _ _ (by omega)
theorem Sr.get (h : Sr enc k w K A cap l) {i : Nat} (hi : i < l.length) : ∃ ad : Addr, A = some ad ∧ ad.block < K ∧ ∀ j u, (enc l[i])[j]? = some u → w.cell? (ad.add (i * k + j)) = some u := by
  obtain ⟨ad, e, hb, hc⟩ := h.at_ (by omega)
  exact ⟨ad, e, hb, fun j u hu => hc i l[i] (List.getElem?_eq_getElem hi) j u hu⟩
/-- The element's cells as the walk spells them. -/
theorem Sr.get2 (h : Sr enc k w K A cap l) {i : Nat} (hi : i < l.length) : ∃ ad : Addr, A = some ad ∧ ad.block < K ∧ (∀ u, (enc l[i])[0]? = some u → w.cell? (ad.add (i * k)) = some u) ∧
    ∀ j u, 0 < j → (enc l[i])[j]? = some u → w.cell? ⟨(ad.add (i * k)).block, (ad.add (i * k)).off + j, none⟩ = some u := by
  obtain ⟨ad, e, hb, hc⟩ := h.get hi
  refine ⟨ad, e, hb, fun u hu => hc 0 u hu, fun j u hj hu => ?_⟩
  rw [← el_add_pos _ _ hj, el_add_of_add]
  exact hc j u hu
theorem Sr.to (h : Sr enc k w K A cap l) {j : Nat} (hj : j ≤ l.length) : Sr enc k w K A cap (l.take j) := by
  have hle := h.le
  have hlen : (l.take j).length = j := by simp; omega
  refine ⟨by omega, h.max, h.nil, fun hn => ?_⟩
  obtain ⟨ad, e, hb, hc⟩ := h.at_ (by omega)
  refine ⟨ad, e, hb, fun i x hi => hc i x ?_⟩
  rw [List.getElem?_take] at hi
  split at hi
  · exact hi
  · cases hi

variable {T : TypeId} {v : Value}
theorem So.empty (enc : α → List Value) (k : Nat) (w : World) (K : Nat) (T : TypeId) : So enc k w K T (.slice none 0 0) [] := World.ownsRow_nil w K _ _
theorem So.keep (h : So enc k w K T v l) {row : Option Nat} (hg : w.grownBy w' row) (hne : v.ownBlock = none ∨ v.ownBlock ≠ row) : So enc k w' K T v l := World.ownsRow.kept h hg hne
theorem So.below (h : So enc k w K T v l) (hb : Below w.heap.size w w') : So enc k w' K T v l :=
  World.ownsRow.kept (row := none) h ⟨hb.os, hb.tape, hb.output, hb.size, fun k hk _ => hb.block k hk⟩ (by cases h' : v.ownBlock <;> simp)
theorem So.alloc (h : So enc k w K T v l) (o : Obj) : So enc k (w.alloc o) K T v l := World.ownsRow.alloc h o
theorem So.drew (h : So enc k w K T v l) : So enc k w.drew K T v l := h
theorem So.drewN (h : So enc k w K T v l) (n : Nat) : So enc k (w.drewN n) K T v l := h
theorem So.lt (h : So enc k w K T v l) : ∀ g, v.ownBlock = some g → K ≤ g ∧ g < w.heap.size := World.ownsRow.lt h
theorem So.more (h : So enc k w K T v l) (hK : K' ≤ K) : So enc k w K' T v l := by
  rcases h.2 with ⟨he, h0⟩ | ⟨g, cap', cur, he, hb, hg⟩
  · exact ⟨h.1, .inl ⟨he, h0⟩⟩
  · exact ⟨h.1, .inr ⟨g, cap', cur, he, by omega, hg⟩⟩
theorem flatMap_get (henc : ∀ x, (enc x).length = k) : ∀ (l : List α) (i : Nat) (x : α), l[i]? = some x → ∀ j u, (enc x)[j]? = some u → (l.flatMap enc)[i * k + j]? = some u
  | [], i, x, h, _, _, _ => by simp at h
  | y :: l, 0, x, h, j, u, hu => by
    simp at h
    subst h
    rw [List.flatMap_cons, Nat.zero_mul, Nat.zero_add, List.getElem?_append_left]
    · exact hu
    · exact (List.getElem?_eq_some_iff.1 hu).1
  | y :: l, i + 1, x, h, j, u, hu => by
    rw [List.flatMap_cons, List.getElem?_append_right (by rw [henc, Nat.add_mul]; omega), henc]
    have : (i + 1) * k + j - k = i * k + j := by rw [Nat.add_mul]; omega
    rw [this]
    exact flatMap_get henc l i x (by simpa using h) j u hu
theorem So.sr (henc : ∀ x, (enc x).length = k) {n : Nat} (h : So enc k w K T (.slice A n cap) l) : Sr enc k w w.heap.size A cap l ∧ l.length = n := by
  rcases h.2 with ⟨he, h0⟩ | ⟨g, cap', cur, he, hb, hg, hn, hc, hs, ht⟩
  · injection he with h1 h2 h3
    subst h1 h2 h3
    exact ⟨⟨by omega, Nat.zero_le _, fun _ => rfl, fun h => absurd h (by omega)⟩, h0⟩
  · injection he with h1 h2 h3
    subst h1 h3
    refine ⟨⟨hn, hc, (fun h => by cases h), fun hl => ⟨_, rfl, ?_, fun i x hi j u hu => ?_⟩⟩, h2.symm⟩
    · rcases Nat.lt_or_ge g w.heap.size with hlt | hge
      · exact hlt
      · rw [Array.getElem?_eq_none hge] at hg; cases hg
    · exact h.cells (g := g) rfl _ _ (flatMap_get henc l i x hi j u hu)
theorem So.form (h : So enc k w K T v l) : ∃ A' cap', v = .slice A' l.length cap' := by
  rcases h.2 with ⟨he, h0⟩ | ⟨g, cap', cur, he, _⟩
  · exact ⟨none, 0, by rw [he, h0]⟩
  · exact ⟨_, _, he⟩

variable {P : Program}
/-- append of one element. -/
theorem wpList_pushE {T ST : TypeId} (hund : P.underlying ST = some (.slice T)) {z : Value} {bytes : Nat} (hinfo : (P.info? T).map (fun i => (i.zero, i.size, i.bytes)) = some (some z, k, bytes)) (hz : z.cells.size = k) (hk : 0 < k)
    {ops : Array Oper} {rest : List Oper} {o : Oper} {a : Act} {Q : Exit → Act → World → Prop} (w : World) (hgd : o.guard = none) (s x : Operand)
    (ho : o.op = .call { callee := .builtin .append, args := #[s, x], argTypes := #[ST, ST] }) (K : Nat) (v : Value) (l : List α) (hs : a.eval s = v) (hown : So enc k w K T v l)
    (e : α) (cs : Array Value) (hcs : cs.toList = enc e) (he : (enc e).length = k) (h1 : ∀ u ∈ enc e, u.oneCell' = true) (TB : TypeId) (H : Nat) (hH : w.heap.size = H) (hxx : a.eval x = .slice (some ⟨H, 0, none⟩) 1 1)
    (N : Nat) (hN : l.length + 1 = N) (hm : N ≤ maxLen) (hsz : N * bytes ≤ 140737488355328) (hK : K ≤ H)
    (h : ∀ A' cap' w', So enc k w' K T (.slice A' N cap') (l ++ [e]) → w.grownBy w' v.ownBlock → ((Value.slice A' N cap').ownBlock = v.ownBlock ∨ ∃ g, (Value.slice A' N cap').ownBlock = some g ∧ w.heap.size ≤ g) → wpList P ops Q rest (a.put o.dst (.slice A' N cap')) w') :
    wpList P ops Q (o :: rest) a (w.alloc (.cells cs TB)) := by
  subst hH hN
  obtain ⟨i0, hi, hz0, hz1, hz2⟩ := info_parts hinfo
  refine wpList_append_lies _ hgd s x ST ho K T i0 z k bytes hund hi hz0 hz1 hz2 hz hk v l.length _ hs (World.ownsRow.alloc hown _) ⟨w.heap.size, 0, none⟩ 1 1 (enc e) hxx (by rw [he]; omega)
    (by have := World.news_of_block (heap_alloc_new w (.cells cs TB)); rwa [hcs] at this) h1 (by omega) hm hsz (by simp; omega) _ rfl ?_
  intro g cap w1 hown1 hgrow1 hat1 hlt1
  have hg : w.grownBy w1 v.ownBlock := ⟨hgrow1.os, hgrow1.tape, hgrow1.output, Nat.le_trans (by simp) hgrow1.size, fun i hi hne => (hgrow1.block i (by simp; omega) hne).trans (Below.heap_alloc w _ i hi)⟩
  refine h _ _ w1 (by unfold So; rw [List.length_append, List.flatMap_append]; simpa using hown1) hg ?_
  rcases hat1 with h1 | h1
  · exact .inl (by simpa [Value.ownBlock] using h1.symm)
  · exact .inr ⟨g, rfl, by rw [h1]; simp⟩
end
end Go.Proofs.Ytcgkbpjfbahleaa
namespace Go.Proofs.Ytcgkbpjfbahleaa
open Go.RowKit

section
variable {α : Type} {enc : α → List Value} {k : Nat} {P : Program}

theorem flatMap_len (henc : ∀ x, (enc x).length = k) (l : List α) : (l.flatMap enc).length = l.length * k := by
  induction l with
  | nil => simp
  | cons x l ih => rw [List.flatMap_cons, List.length_append, ih, henc, List.length_cons, Nat.add_mul]; omega
theorem flatMap_split (henc : ∀ x, (enc x).length = k) : ∀ (l : List α) (j : Nat) (u : Value), (l.flatMap enc)[j]? = some u → ∃ i x q, l[i]? = some x ∧ (enc x)[q]? = some u ∧ j = i * k + q
  | [], j, u, h => by simp at h
  | y :: l, j, u, h => by
    rw [List.flatMap_cons] at h
    by_cases hj : j < (enc y).length
    · rw [List.getElem?_append_left hj] at h
      exact ⟨0, y, j, rfl, h, by omega⟩
    · rw [List.getElem?_append_right (by omega)] at h
      obtain ⟨i, x, q, h1, h2, h3⟩ := flatMap_split henc l _ u h
      refine ⟨i + 1, x, q, by simpa using h1, h2, ?_⟩
      rw [henc] at h3 hj
      rw [Nat.add_mul]
      omega

theorem run_appE {T ST : TypeId} (hund : P.underlying ST = some (.slice T)) {z : Value} {bytes : Nat} (hinfo : (P.info? T).map (fun i => (i.zero, i.size, i.bytes)) = some (some z, k, bytes)) (hz : z.cells.size = k) (hk : 0 < k)
    (henc : ∀ x, (enc x).length = k) (h1 : ∀ x, ∀ u ∈ enc x, u.oneCell' = true) (w : World) (ty : TypeId) {K K' : Nat} {v : Value} {l m : List α} (hown : So enc k w K T v l) {A : Option Addr} {cap : Nat} (hsrc : Sr enc k w K' A cap m)
    (hm : l.length + m.length ≤ maxLen) (hsz : (l.length + m.length) * bytes ≤ 140737488355328) (hbase : K ≤ w.heap.size) :
    ∃ A' cap' w', (Builtin.append_ #[ST, ST] ty #[v, .slice A m.length cap]).run P w = .ok (.slice A' (l.length + m.length) cap') w' ∧ So enc k w' K T (.slice A' (l.length + m.length) cap') (l ++ m) ∧ w.grownBy w' v.ownBlock ∧
      ((Value.slice A' (l.length + m.length) cap').ownBlock = v.ownBlock ∨ (Value.slice A' (l.length + m.length) cap').ownBlock = some w.heap.size) := by
  obtain ⟨i0, hi, hz0, hz1, hz2⟩ := info_parts hinfo
  rcases A with _ | ad
  · have hc := hsrc.nil rfl
    have hm0 : m = [] := List.eq_nil_of_length_eq_zero (by have := hsrc.le; omega)
    subst hm0
    subst hc
    obtain ⟨A', cap', hv⟩ := hown.form
    have hrun := run_append_owned_none (P := P) w K ST ty T i0 k hund hi v _ _ hown
    exact ⟨A', cap', w, by rw [hv] at hrun ⊢; exact hrun, by rw [List.append_nil]; exact hv ▸ hown, ⟨rfl, rfl, rfl, Nat.le_refl _, fun _ _ _ => rfl⟩, .inl (by rw [hv]; rfl)⟩
  · obtain ⟨v', w', hr, h2, h3, _, h5⟩ := run_append_own_at (P := P) w K ST ty T i0 z k bytes hund hi hz0 hz1 hz2 hz hk v _ _ hown ad m.length cap (m.flatMap enc) (flatMap_len henc m)
      (fun j u hj => by
        obtain ⟨i, x, q, e1, e2, e3⟩ := flatMap_split henc m j u hj
        have hpos : 0 < m.length := by have := (List.getElem?_eq_some_iff.1 e1).1; omega
        obtain ⟨ad', he, _, hcell⟩ := hsrc.at_ hpos
        cases he
        rw [e3]
        exact hcell i x e1 q u e2)
      (fun u hu => by
        obtain ⟨x, _, hx⟩ := List.mem_flatMap.1 hu
        exact h1 x u hx) hm hsz hbase
    have h2' : So enc k w' K T v' (l ++ m) := by unfold So; rw [List.length_append, List.flatMap_append]; exact h2
    obtain ⟨A', cap', hv⟩ := h2'.form
    rw [List.length_append] at hv
    subst hv
    exact ⟨A', cap', w', hr, h2', h3, h5⟩

theorem wpList_appE {T ST : TypeId} (hund : P.underlying ST = some (.slice T)) {z : Value} {bytes : Nat} (hinfo : (P.info? T).map (fun i => (i.zero, i.size, i.bytes)) = some (some z, k, bytes)) (hz : z.cells.size = k) (hk : 0 < k)
    (henc : ∀ x, (enc x).length = k) (h1 : ∀ x, ∀ u ∈ enc x, u.oneCell' = true)
    {ops : Array Oper} {rest : List Oper} {o : Oper} {a : Act} {Q : Exit → Act → World → Prop} (w : World) (hgd : o.guard = none) (s x : Operand)
    (ho : o.op = .call { callee := .builtin .append, args := #[s, x], argTypes := #[ST, ST] })
    (K : Nat) (v : Value) (l : List α) (hs : a.eval s = v) (hown : So enc k w K T v l) (A : Option Addr) (M cap : Nat) (m : List α) (hx : a.eval x = .slice A M cap) (hM : m.length = M) (K' : Nat) (hsrc : Sr enc k w K' A cap m)
    (N : Nat) (hN : l.length + m.length = N) (hm : N ≤ maxLen) (hsz : N * bytes ≤ 140737488355328) (hbase : K ≤ w.heap.size)
    (h : ∀ A' cap' w', So enc k w' K T (.slice A' N cap') (l ++ m) → w.grownBy w' v.ownBlock → ((Value.slice A' N cap').ownBlock = v.ownBlock ∨ (Value.slice A' N cap').ownBlock = some w.heap.size) → wpList P ops Q rest (a.put o.dst (.slice A' N cap')) w') : wpList P ops Q (o :: rest) a w := by
  subst hN hM
  refine wpList_plain hgd fun _ hK => ?_
  obtain ⟨A', cap', w', hr, h2, h3, h4⟩ := run_appE hund hinfo hz hk henc h1 w o.type hown hsrc hm hsz hbase
  unfold Oper.wp execOp
  simp only [ho, resolve, invoke, builtin, Sem.run_bind, Sem.run_pure, Result.andThen_ok, List.map_toArray, List.map_cons, List.map_nil, hs, hx, hr]
  exact hK _ _ (h A' cap' w' h2 h3 h4)

theorem lit_so (w : World) (K : Nat) (T : TypeId) (H : Nat) (hH : w.heap.size = H) (hK : K ≤ H) (cs : Array Value) (n : Nat) (l : List α) (henc : ∀ x, (enc x).length = k) (h : cs.toList = l.flatMap enc) (hn : l.length = n) (hm : n ≤ maxLen) : So enc k (w.alloc (.cells cs T)) K T (.slice (some ⟨H, 0, none⟩) n n) l := by
  subst hH hn
  have := World.ownsRow_lit (e := T) (size := k) w cs l.length hK hm (by rw [← Array.length_toList, h, flatMap_len henc])
  rw [h] at this
  exact this
end
end Go.Proofs.Ytcgkbpjfbahleaa
namespace Go.Proofs.Ytcgkbpjfbahleaa
open Go.RowKit

def encI (n : Int) : List Value := [.int .i64 n]
theorem encI_len (n : Int) : (encI n).length = 1 := rfl
theorem encI_one (n : Int) : ∀ u ∈ encI n, u.oneCell' = true := fun u hu => by
  unfold encI at hu
  rw [List.mem_singleton] at hu
  rw [hu]; rfl
theorem Sr.int {K cap i : Nat} {A : Option Addr} {l : List Int} {w : World} (h : Sr encI 1 w K A cap l) (hi : i < l.length) : ∃ ad : Addr, A = some ad ∧ ad.block < K ∧ w.cell? (ad.add i) = some (.int .i64 l[i]) := by
  obtain ⟨ad, e, hb, hc⟩ := h.get hi
  have := hc 0 (.int .i64 l[i]) rfl
  rw [Nat.mul_one, Nat.add_zero] at this
  exact ⟨ad, e, hb, this⟩
end Go.Proofs.Ytcgkbpjfbahleaa
namespace Go.Proofs.Ytcgkbpjfbahleaa
open Go.RowKit Go.BigFrame

theorem info_i64 : (Try.prog.info? 3).map (fun i => (i.zero, i.size, i.bytes)) = some (some (.int .i64 0), 1, 8) := by kernel_rfl
theorem take_snocI (l : List Int) (k : Nat) (h : k < l.length) : l.take (k + 1) = l.take k ++ [l[k]] := by
  rw [List.take_succ_eq_append_getElem h]
set_option maxHeartbeats 800000 in
theorem mems_any (K : Nat) (A : Option Addr) (n cap : Nat) (l : List Int) (w : World) (hn : l.length = n) (hp : Sr encI 1 w K A cap l) :
    Calls Try.prog 32 #[.slice A n cap] w fun e w' => e = .returned (.bool (memsB l)) ∧ w = w' := by
  subst hn
  have hle := hp.le
  have hmax := hp.max
  unfold maxLen at hmax
  have HP := Lib.hid hp
  clear hp
  go_enter Try.func32, Try.ntmps32
  go_wp2
  go_loop [3, 8] (fun lv iv => ∃ (k : Nat) (q : Int), k ≤ l.length ∧ iv = .int .i64 k ∧ lv = .int .i64 q ∧ Hid (q = (l.take k).getLastD (-1)) ∧ Hid (riseB (-1) (l.take k) = true)) (fun _ i => l.length - (intOf i).toNat)
  case atStart => exact ⟨0, -1, Nat.zero_le _, rfl, rfl, Lib.hid rfl, Lib.hid rfl⟩
  case round =>
    obtain ⟨k, q, hk, rfl, rfl, HQ, HR⟩ := hrel
    by_cases hlt : k < l.length
    · obtain ⟨ad, rfl, hadK, hc⟩ := HP.out.int hlt
      have HS := Lib.hid (take_snocI l k hlt)
      generalize l[k] = x at *
      have HX : Hid (riseB (-1) (l.take (k + 1)) = (decide (q < x) && decide (x < 8))) := Lib.hid (by rw [HS.out, riseB_snoc, HR.out, HQ.out]; simp)
      have HY : Hid (x = (l.take (k + 1)).getLastD (-1)) := Lib.hid (by rw [HS.out]; simp)
      by_cases c1 : x ≤ q
      · have HZ : Hid (false = memsB l) := Lib.hid (by
          unfold memsB
          cases hr : riseB (-1) l with
          | false => rfl
          | true => have := riseB_take hr (k + 1); rw [HX.out] at this; simp at this; omega)
        have d1 : decide (x ≤ q) = true := by simpa using c1
        clear c1
        go_wp2
        go_ret
        exact ⟨ret_bool HZ.out, rfl⟩
      · have d1 : decide (x ≤ q) = false := by simpa using c1
        have d1' := c1
        clear c1
        by_cases c2 : 8 ≤ x
        · have HZ : Hid (false = memsB l) := Lib.hid (by
            unfold memsB
            cases hr : riseB (-1) l with
            | false => rfl
            | true => have := riseB_take hr (k + 1); rw [HX.out] at this; simp at this; omega)
          have d2 : decide (8 ≤ x) = true := by simpa using c2
          clear c2
          go_wp2
          go_ret
          exact ⟨ret_bool HZ.out, rfl⟩
        · have d2 : decide (8 ≤ x) = false := by simpa using c2
          have HZ : Hid (riseB (-1) (l.take (k + 1)) = true) := Lib.hid (by rw [HX.out]; simp; omega)
          clear c2 d1'
          go_wp2
          go_round
          case rel => exact ⟨k + 1, x, by omega, by go_num, rfl, Lib.hid HY.out, Lib.hid HZ.out⟩
          case measure => simp [intOf]; omega
    · have hkl : k = l.length := by omega
      subst hkl
      have HZ : Hid (decide (0 < (l.length : Int)) = memsB l) := Lib.hid (by
        have := HR.out
        rw [List.take_length] at this
        unfold memsB; rw [this]; simp)
      go_wp2
      go_ret
      exact ⟨ret_bool (by rw [← HZ.out]; simp), rfl⟩

/-- slices.Index tells a place, or -1. -/
def IdxP (l : List Int) (v : Int) (w : World) (e : Ending) (w' : World) : Prop := ∃ r : Int, e = .returned (.int .i64 r) ∧ hasB l v = decide (0 ≤ r) ∧ w = w'
set_option maxHeartbeats 800000 in
theorem idx_any (K : Nat) (A : Option Addr) (n cap : Nat) (l : List Int) (v : Int) (w : World) (hn : l.length = n) (hp : Sr encI 1 w K A cap l) :
    Calls Try.prog 47 #[.slice A n cap, .int .i64 v] w (IdxP l v w) := by
  subst hn
  have hle := hp.le
  have hmax := hp.max
  unfold maxLen at hmax
  have HP := Lib.hid hp
  clear hp
  go_enter Try.func47, Try.ntmps47
  go_wp2
  go_loop [8] (fun iv => ∃ (k : Nat), k ≤ l.length ∧ iv = .int .i64 k ∧ Hid (v ∉ l.take k)) (fun i => l.length - (intOf i).toNat)
  case atStart => exact ⟨0, Nat.zero_le _, rfl, Lib.hid (by simp)⟩
  case round =>
    obtain ⟨k, hk, rfl, HR⟩ := hrel
    by_cases hlt : k < l.length
    · obtain ⟨ad, rfl, hadK, hc⟩ := HP.out.int hlt
      have HS := Lib.hid (take_snocI l k hlt)
      have HM : Hid (l[k] ∈ l) := Lib.hid (List.getElem_mem hlt)
      generalize l[k] = x at *
      by_cases c1 : v = x
      · subst c1
        have HZ : Hid (hasB l v = decide ((0 : Int) ≤ (k : Int))) := Lib.hid (by unfold hasB; simp [HM.out])
        go_wp2
        go_ret
        exact ⟨_, rfl, HZ.out, rfl⟩
      · have d1 : (v == x) = false := by simpa using c1
        have HZ : Hid (v ∉ l.take (k + 1)) := Lib.hid (by rw [HS.out]; simp only [List.mem_append, List.mem_singleton, not_or]; exact ⟨HR.out, c1⟩)
        clear c1
        go_wp2
        go_round
        case rel => exact ⟨k + 1, by omega, by go_num, Lib.hid HZ.out⟩
        case measure => simp [intOf]; omega
    · have hkl : k = l.length := by omega
      subst hkl
      have HZ : Hid (hasB l v = decide ((0 : Int) ≤ -1)) := Lib.hid (by
        have := HR.out
        rw [List.take_length] at this
        unfold hasB; simp [this])
      go_wp2
      go_ret
      exact ⟨_, rfl, HZ.out, rfl⟩
set_option maxHeartbeats 400000 in
theorem has_any (K : Nat) (A : Option Addr) (n cap : Nat) (l : List Int) (v : Int) (w : World) (hn : l.length = n) (hp : Sr encI 1 w K A cap l) :
    Calls Try.prog 34 #[.slice A n cap, .int .i64 v] w fun e w' => e = .returned (.bool (hasB l v)) ∧ w = w' := by
  have HP := Lib.hid (idx_any K A n cap l v w hn hp)
  clear hp
  go_enter Try.func34, Try.ntmps34
  go_wp2_with fail
  refine HP.out.mono ?_
  rintro e w' ⟨r, rfl, hr, rfl⟩
  have HR := Lib.hid hr
  clear hr
  go_wp2_with fail
  go_ret
  exact ⟨ret_bool (by rw [HR.out]), rfl⟩
/-- A new slice of ints. -/
def NewI (w : World) (l : List Int) (e : Ending) (w' : World) : Prop := ∃ A' cap', e = .returned (.slice A' l.length cap') ∧ So encI 1 w' w.heap.size 3 (.slice A' l.length cap') l ∧ Below w.heap.size w w'
theorem grown_belowI {W w w1 : World} {v : Value} {B : Nat} (h : Below B W w) (hg : w.grownBy w1 v.ownBlock) (hB : B ≤ w.heap.size) (ho : ∀ k, v.ownBlock = some k → B ≤ k) : Below B W w1 := h.grown hg hB ho
theorem clone_ints (K : Nat) (A : Option Addr) (n cap : Nat) (l : List Int) (w : World) (hn : l.length = n) (hb : Sr encI 1 w K A cap l) (hK : K ≤ w.heap.size) (hsz : l.length * 8 ≤ 140737488355328) :
    Calls Try.prog 33 #[.slice A n cap] w (NewI w l) := by
  subst hn
  have hle := hb.le
  have hmax := hb.max
  unfold maxLen at hmax
  cases A with
  | none =>
    have hc := hb.nil rfl
    have hl : l = [] := List.eq_nil_of_length_eq_zero (by omega)
    subst hl hc
    have hq := Lib.run_eql_slice_nil (P := Try.prog) w 22 3 none 0 0 0 0 Try.underlying22
    go_enter Try.func33, Try.ntmps33
    go_wp2
    go_ret
    exact ⟨none, 0, rfl, So.empty _ _ _ _ _, Below.refl _ _⟩
  | some ad =>
    have hq := Lib.run_eql_slice_nil (P := Try.prog) w 22 3 (some ad) l.length cap 0 0 Try.underlying22
    go_enter Try.func33, Try.ntmps33
    go_wp2_with (at_builtin; refine wpList_appE Try.underlying22 info_i64 (by kernel_rfl) (by decide) encI_len encI_one _ rfl (.tmp 5) (.tmp 6) rfl w.heap.size (.slice (some ⟨w.heap.size, 0, none⟩) 0 0) [] rfl (lit_so (α := Int) (enc := encI) (k := 1) w w.heap.size 3 w.heap.size rfl (Nat.le_refl _) _ 0 [] encI_len rfl rfl (by decide)) (some ad) l.length cap l rfl rfl K (hb.alloc hK _) l.length (by simp) (by unfold maxLen; omega) (by omega) (by simp) ?_; intro A2 cap2 w2 hown2 hgrow2 hat2; have B2 : Below w.heap.size w w2 := grown_belowI ((Below.refl _ _).alloc (Nat.le_refl _) _) hgrow2 (by simp) (by simp [Value.ownBlock]))
    go_ret
    exact ⟨A2, cap2, rfl, hown2, B2⟩
set_option maxHeartbeats 800000 in
/-- view.Right of a view by value. -/
theorem vright_any (e p : Int) (K : Nat) (A : Option Addr) (n cap : Nat) (l : List Int) (w : World) (hn : l.length = n) (hp : Sr encI 1 w K A cap l) (hK : K ≤ w.heap.size) :
    Calls Try.prog 19 #[.agg #[.int .i64 e, .int .i64 p, .slice A n cap]] w fun r w' => r = .returned (.bool (rightV e p l)) ∧ Below w.heap.size w w' := by
  subst hn
  have HM := Lib.hid (mems_any K A l.length cap l (w.alloc (.cells #[.int .i64 e, .int .i64 p, .slice A l.length cap] 37)) rfl (hp.alloc hK _))
  have HC := Lib.hid (has_any K A l.length cap l p (w.alloc (.cells #[.int .i64 e, .int .i64 p, .slice A l.length cap] 37)) rfl (hp.alloc hK _))
  have HB : Hid (Below w.heap.size w (w.alloc (.cells #[.int .i64 e, .int .i64 p, .slice A l.length cap] 37))) := Lib.hid ((Below.refl _ _).alloc (Nat.le_refl _) _)
  clear hp hK
  have HR : ∀ (b1 b2 b3 b4 : Bool), decide (1 ≤ e) = b1 → decide (e ≤ 4611686018427387904) = b2 → memsB l = b3 → hasB l p = b4 → Hid (rightV e p l = (b1 && b2 && b3 && b4)) := by
    rintro b1 b2 b3 b4 rfl rfl rfl rfl
    exact Lib.hid rfl
  cases h1 : decide (1 ≤ e) with
  | false =>
    have HQ := Lib.hid ((HR _ _ _ _ h1 rfl rfl rfl).out)
    clear HR
    go_enter Try.func19, Try.ntmps19
    go_wp2_with fail
    go_ret
    exact ⟨ret_bool (by rw [HQ.out]; rfl), HB.out⟩
  | true =>
    cases h2 : decide (e ≤ 4611686018427387904) with
    | false =>
      have HQ := Lib.hid ((HR _ _ _ _ h1 h2 rfl rfl).out)
      clear HR
      go_enter Try.func19, Try.ntmps19
      go_wp2_with fail
      go_ret
      exact ⟨ret_bool (by rw [HQ.out]; rfl), HB.out⟩
    | true =>
      cases h3 : memsB l with
      | false =>
        rw [h3] at HM
        have HQ := Lib.hid ((HR _ _ _ _ h1 h2 h3 rfl).out)
        clear HR h3
        go_enter Try.func19, Try.ntmps19
        go_wp2_with (go_at_call 32; refine HM.out.mono ?_; rintro r w1 ⟨rfl, rfl⟩)
        go_ret
        exact ⟨ret_bool (by rw [HQ.out]; rfl), HB.out⟩
      | true =>
        rw [h3] at HM
        have HQ := Lib.hid ((HR _ _ _ _ h1 h2 h3 rfl).out)
        clear HR h3
        go_enter Try.func19, Try.ntmps19
        go_wp2_with (first
          | (go_at_call 32; refine HM.out.mono ?_; rintro r w1 ⟨rfl, rfl⟩)
          | (go_at_call 34; refine HC.out.mono ?_; rintro r w1 ⟨rfl, rfl⟩))
        go_ret
        exact ⟨ret_bool (by rw [HQ.out]; rfl), HB.out⟩
end Go.Proofs.Ytcgkbpjfbahleaa
namespace Go.Proofs.Ytcgkbpjfbahleaa
open Go.RowKit

theorem block_of_add (a : Addr) (n : Nat) : (a.add n).block = a.block := by unfold Addr.add; split <;> rfl
theorem add_of_add (a : Addr) (i j : Nat) : (a.add i).add j = a.add (i + j) := by
  unfold Addr.add
  by_cases hi : i = 0 <;> by_cases hj : j = 0 <;> simp [hi, hj, Nat.add_assoc]

/-- The slice with address A, length n and capacity cap reads as the bytes l, in memory below block K. -/
structure Bs (w : World) (K : Nat) (A : Option Addr) (cap : Nat) (l : List UInt8) : Prop where
  le : l.length ≤ cap
  max : cap ≤ maxLen
  nil : A = none → cap = 0
  at_ : 0 < l.length → ∃ ad : Addr, A = some ad ∧ ad.block < K ∧ ∀ k c, l[k]? = some c → w.cell? (ad.add k) = some (.int .u8 (c.toNat : Int))

section
variable {w w' : World} {K K' cap : Nat} {A : Option Addr} {l : List UInt8}
theorem Bs.get (h : Bs w K A cap l) {k : Nat} (hk : k < l.length) : ∃ ad : Addr, A = some ad ∧ ad.block < K ∧ w.cell? (ad.add k) = some (.int .u8 (l[k].toNat : Int)) := by
  obtain ⟨ad, e, hb, hc⟩ := h.at_ (by omega)
  exact ⟨ad, e, hb, hc k _ (List.getElem?_eq_getElem hk)⟩
theorem Bs.keep (h : Bs w K A cap l) (hk : ∀ p : Addr, p.block < K → w'.cell? p = w.cell? p) : Bs w' K A cap l :=
  ⟨h.le, h.max, h.nil, fun hn => by
    obtain ⟨ad, e, hb, hc⟩ := h.at_ hn
    exact ⟨ad, e, hb, fun j u hu => (hk _ (by rw [block_of_add]; exact hb)).trans (hc j u hu)⟩⟩
theorem Bs.cut (h : Bs w K A cap l) {i j : Nat} (hij : i ≤ j) (hj : j ≤ l.length) : Bs w K (if cap = i then A else A.map (·.add i)) (cap - i) ((l.drop i).take (j - i)) := by
  have hle := h.le
  have hmax := h.max
  have hlen : ((l.drop i).take (j - i)).length = j - i := by simp; omega
  refine ⟨by rw [hlen]; omega, by omega, fun hn => ?_, fun hn => ?_⟩
  · by_cases e : cap = i
    · omega
    · rw [if_neg e] at hn
      have : A = none := by cases A <;> simp_all
      have := h.nil this
      omega
  · rw [hlen] at hn
    obtain ⟨ad, rfl, hb, hc⟩ := h.at_ (by omega)
    rw [if_neg (by omega)]
    refine ⟨_, rfl, by rw [block_of_add]; exact hb, fun k c hk => ?_⟩
    rw [add_of_add]
    refine hc _ c ?_
    rw [List.getElem?_take] at hk
    split at hk
    · rwa [List.getElem?_drop] at hk
    · cases hk
theorem Bs.some_ (h : Bs w K A cap l) (hl : 0 < l.length) : ∃ ad : Addr, A = some ad ∧ ad.block < K := by
  obtain ⟨ad, e, hb, _⟩ := h.at_ hl
  exact ⟨ad, e, hb⟩
theorem Bs.cutS {ad : Addr} (h : Bs w K (some ad) cap l) {i j : Nat} (hi : 0 < i) (hij : i ≤ j) (hj : j ≤ l.length) (hc : i < cap) : Bs w K (some ⟨ad.block, ad.off + i, none⟩) (cap - i) ((l.drop i).take (j - i)) := by
  have := h.cut hij hj
  rw [if_neg (by omega)] at this
  have e : ad.add i = ⟨ad.block, ad.off + i, none⟩ := by unfold Addr.add; rw [if_neg (by omega)]
  rwa [Option.map_some, e] at this
theorem Bs.c {ad : Addr} (h : Bs w K (some ad) cap l) (i : Nat) (hi : 0 < i) (hil : i < l.length) : w.cell? ⟨ad.block, ad.off + i, none⟩ = some (.int .u8 ((l.getD i 0).toNat : Int)) := by
  obtain ⟨ad', e, _, hc⟩ := h.get hil
  cases e
  have e : ad.add i = ⟨ad.block, ad.off + i, none⟩ := by unfold Addr.add; rw [if_neg (by omega)]
  rw [e] at hc
  rw [hc]; simp [hil]
theorem Bs.c0 {ad : Addr} (h : Bs w K (some ad) cap l) (hil : 0 < l.length) : w.cell? ad = some (.int .u8 ((l.getD 0 0).toNat : Int)) := by
  obtain ⟨ad', e, _, hc⟩ := h.get hil
  cases e
  have e : ad.add 0 = ad := by unfold Addr.add; rw [if_pos rfl]
  rw [e] at hc
  rw [hc]; simp [hil]
theorem Bs.drew (h : Bs w K A cap l) : Bs w.drew K A cap l := ⟨h.le, h.max, h.nil, h.at_⟩
theorem Bs.drewN (h : Bs w K A cap l) (n : Nat) : Bs (w.drewN n) K A cap l := ⟨h.le, h.max, h.nil, h.at_⟩
theorem Bs.more (h : Bs w K A cap l) (hB : K ≤ K') : Bs w K' A cap l :=
  ⟨h.le, h.max, h.nil, fun hn => by
    obtain ⟨ad, e, hb, hc⟩ := h.at_ hn
    exact ⟨ad, e, by omega, hc⟩⟩
theorem Bs.alloc (h : Bs w K A cap l) (hK : K ≤ w.heap.size) (o : Obj) : Bs (w.alloc o) K A cap l := h.keep fun _ hp => World.cell?_alloc_lt _ _ _ (by omega)
theorem Bs.below (h : Bs w K A cap l) (hb : Below K w w') : Bs w' K A cap l := h.keep fun _ hp => hb.cell hp
end

end Go.Proofs.Ytcgkbpjfbahleaa
namespace Go.Proofs.Ytcgkbpjfbahleaa
open Go.RowKit

abbrev bv (c : UInt8) : Value := .int .u8 (c.toNat : Int)
/-- v is a slice of the call's own (blocks from K on) that holds the bytes l. -/
def Ob (w : World) (K : Nat) (v : Value) (l : List UInt8) : Prop := w.ownsRow K 5 1 v l.length (l.map bv)

theorem info_u8 : (Try.prog.info? 5).map (fun i => (i.zero, i.size, i.bytes)) = some (some (.int .u8 0), 1, 1) := by kernel_rfl

section
variable {w w' : World} {K : Nat} {l : List UInt8} {v : Value}
theorem Ob.empty (w : World) (K : Nat) : Ob w K (.slice none 0 0) [] := World.ownsRow_nil w K _ _
theorem Ob.bs {A : Option Addr} {n cap : Nat} (h : Ob w K (.slice A n cap) l) : Bs w w.heap.size A cap l ∧ n = l.length := by
  rcases h.2 with ⟨he, h0⟩ | ⟨g, cap', cur, he, hb, hg, hn, hc, hs, ht⟩
  · injection he with h1 h2 h3
    subst h1 h2 h3
    have : l = [] := List.eq_nil_of_length_eq_zero h0
    subst this
    exact ⟨⟨Nat.le_refl _, by unfold maxLen; omega, fun _ => rfl, fun h => absurd h (by simp)⟩, rfl⟩
  · injection he with h1 h2 h3
    subst h1 h2 h3
    refine ⟨⟨hn, hc, (fun h => by cases h), fun hl => ⟨_, rfl, ?_, fun k c hk => ?_⟩⟩, rfl⟩
    · rcases Nat.lt_or_ge g w.heap.size with hlt | hge
      · exact hlt
      · rw [Array.getElem?_eq_none hge] at hg; cases hg
    · exact h.cells (g := g) rfl k _ (by simp [hk])
theorem Ob.keep (h : Ob w K v l) {row : Option Nat} (hg : w.grownBy w' row) (hne : v.ownBlock = none ∨ v.ownBlock ≠ row) : Ob w' K v l := World.ownsRow.kept h hg hne
theorem Ob.below (h : Ob w K v l) (hb : Below w.heap.size w w') : Ob w' K v l :=
  World.ownsRow.kept (row := none) h ⟨hb.os, hb.tape, hb.output, hb.size, fun k hk _ => hb.block k hk⟩ (by cases h' : v.ownBlock <;> simp)
theorem Ob.alloc (h : Ob w K v l) (o : Obj) : Ob (w.alloc o) K v l := World.ownsRow.alloc h o
theorem Ob.drew (h : Ob w K v l) : Ob w.drew K v l := h
theorem Ob.lt (h : Ob w K v l) : ∀ k, v.ownBlock = some k → K ≤ k ∧ k < w.heap.size := World.ownsRow.lt h
theorem Ob.more {K' : Nat} (h : Ob w K v l) (hK : K' ≤ K) : Ob w K' v l := by
  rcases h.2 with ⟨he, h0⟩ | ⟨g, cap', cur, he, hb, hg⟩
  · exact ⟨h.1, .inl ⟨he, h0⟩⟩
  · exact ⟨h.1, .inr ⟨g, cap', cur, he, by omega, hg⟩⟩
theorem Ob.made {w1 : World} {n : Nat} (h : w1.ownsRow K 5 1 v n []) : Ob w1 K v [] := by
  have : n = 0 := by have := h.1; simp at this; omega
  subst this; exact h

theorem lit_bs (w : World) (T : TypeId) (cs : Array Value) (l : List UInt8) (h : cs.toList = l.map bv) (hl : l.length ≤ maxLen) : Bs (w.alloc (.cells cs T)) (w.heap.size + 1) (some ⟨w.heap.size, 0, none⟩) l.length l :=
  ⟨Nat.le_refl _, hl, (fun h => by cases h), fun _ => ⟨_, rfl, Nat.lt_succ_self _, fun k c hk => by
    have hadd : (⟨w.heap.size, 0, none⟩ : Addr).add k = ⟨w.heap.size, k, none⟩ := by unfold Addr.add; split <;> simp_all
    rw [hadd, cell_of_row (w.alloc (.cells cs T)) w.heap.size k cs T (0, 0) (heap_alloc_new w _), ← Array.getElem?_toList, h]
    simp [hk]⟩⟩

theorem lit_ob (w : World) (K H : Nat) (hH : w.heap.size = H) (hK : K ≤ H) (cs : Array Value) (n : Nat) (l : List UInt8) (h : cs.toList = l.map bv) (hn : l.length = n) (hm : n ≤ maxLen) : Ob (w.alloc (.cells cs 5)) K (.slice (some ⟨H, 0, none⟩) n n) l := by
  subst hH hn
  have := World.ownsRow_lit (e := 5) (size := 1) w cs l.length hK hm (by rw [← Array.length_toList, h]; simp)
  rw [h] at this
  exact this
theorem lit_bsH (w : World) (T : TypeId) (H : Nat) (hH : w.heap.size = H) (cs : Array Value) (n : Nat) (l : List UInt8) (h : cs.toList = l.map bv) (hn : l.length = n) (hm : n ≤ maxLen) : Bs (w.alloc (.cells cs T)) (H + 1) (some ⟨H, 0, none⟩) n l := by
  subst hH hn
  exact lit_bs w T cs l h hm

theorem lit_bsF (w : World) (T : TypeId) (fr : Nat × Nat) (H : Nat) (hH : w.heap.size = H) (cs : Array Value) (n : Nat) (l : List UInt8) (h : cs.toList = l.map bv) (hn : l.length = n) (hm : n ≤ maxLen) : Bs (w.alloc (.cells cs T fr)) (H + 1) (some ⟨H, 0, none⟩) n l := by
  subst hH hn
  refine ⟨Nat.le_refl _, hm, (fun h => by cases h), fun _ => ⟨_, rfl, Nat.lt_succ_self _, fun k c hk => ?_⟩⟩
  have hadd : (⟨w.heap.size, 0, none⟩ : Addr).add k = ⟨w.heap.size, k, none⟩ := by unfold Addr.add; split <;> simp_all
  rw [hadd, cell_of_row (w.alloc (.cells cs T fr)) w.heap.size k cs T fr (heap_alloc_new w _), ← Array.getElem?_toList, h]
  simp [hk]

theorem run_app (w : World) (ty : TypeId) {K K' : Nat} {v : Value} {l m : List UInt8} (hown : Ob w K v l) {A : Option Addr} {cap : Nat} (hsrc : Bs w K' A cap m)
    (hsz : l.length + m.length ≤ 140737488355328) (hbase : K ≤ w.heap.size) :
    ∃ A' cap' w', (Builtin.append_ #[53, 53] ty #[v, .slice A m.length cap]).run Try.prog w = .ok (.slice A' (l.length + m.length) cap') w' ∧ Ob w' K (.slice A' (l.length + m.length) cap') (l ++ m) ∧ w.grownBy w' v.ownBlock ∧
      ((Value.slice A' (l.length + m.length) cap').ownBlock = v.ownBlock ∨ (Value.slice A' (l.length + m.length) cap').ownBlock = some w.heap.size) := by
  have form : ∀ {w' : World} {v' : Value} {k : List UInt8}, Ob w' K v' k → ∃ A' cap', v' = .slice A' k.length cap' := fun h => by
    rcases h.2 with ⟨he, h0⟩ | ⟨g, cap', cur, he, _⟩
    · exact ⟨none, 0, by rw [he, h0]⟩
    · exact ⟨_, _, he⟩
  have hml : m.length ≤ maxLen := Nat.le_trans hsrc.le hsrc.max
  rcases A with _ | ad
  · have hc := hsrc.nil rfl
    have hm0 : m = [] := List.eq_nil_of_length_eq_zero (by have := hsrc.le; omega)
    subst hm0
    subst hc
    obtain ⟨A', cap', hv⟩ := form hown
    obtain ⟨i0, hi, _, _, _⟩ := info_parts info_u8
    have hrun := run_append_owned_none (P := Try.prog) w K 53 ty 5 i0 1 Try.underlying53 hi v _ _ hown
    exact ⟨A', cap', w, by rw [hv] at hrun ⊢; exact hrun, by rw [List.append_nil]; exact hv ▸ hown, ⟨rfl, rfl, rfl, Nat.le_refl _, fun _ _ _ => rfl⟩, .inl (by rw [hv]; rfl)⟩
  · obtain ⟨i0, hi, hz0, hz1, hz2⟩ := info_parts info_u8
    obtain ⟨v', w', hr, h2, h3, _, h5⟩ := run_append_own_at (P := Try.prog) w K 53 ty 5 i0 (.int .u8 0) 1 1 Try.underlying53 hi hz0 hz1 hz2 rfl (by decide) v _ _ hown ad m.length cap (m.map bv) (by simp)
      (fun j u hj => by
        simp only [List.getElem?_map, Option.map_eq_some_iff] at hj
        obtain ⟨c, hc, rfl⟩ := hj
        have hpos : 0 < m.length := by have := (List.getElem?_eq_some_iff.1 hc).1; omega
        obtain ⟨ad', he, _, hcell⟩ := hsrc.at_ hpos
        cases he
        exact hcell j c hc)
      (fun u hu => by
        simp only [List.mem_map] at hu
        obtain ⟨c, _, rfl⟩ := hu; rfl) (by unfold maxLen; omega) (by omega) hbase
    have h2' : Ob w' K v' (l ++ m) := by unfold Ob; rw [List.length_append, List.map_append]; exact h2
    obtain ⟨A', cap', hv⟩ := form h2'
    rw [List.length_append] at hv
    subst hv
    exact ⟨A', cap', w', hr, h2', h3, h5⟩

theorem wpList_app {ops : Array Oper} {rest : List Oper} {o : Oper} {a : Act} {Q : Exit → Act → World → Prop} (w : World) (hgd : o.guard = none) (s x : Operand)
    (ho : o.op = .call { callee := .builtin .append, args := #[s, x], argTypes := #[53, 53] })
    (K : Nat) (v : Value) (l : List UInt8) (hs : a.eval s = v) (hown : Ob w K v l) (A : Option Addr) (M cap : Nat) (m : List UInt8) (hx : a.eval x = .slice A M cap) (hM : m.length = M) (K' : Nat) (hsrc : Bs w K' A cap m)
    (N : Nat) (hN : l.length + m.length = N) (hsz : l.length + m.length ≤ 140737488355328) (hbase : K ≤ w.heap.size)
    (h : ∀ A' cap' w', Ob w' K (.slice A' N cap') (l ++ m) → w.grownBy w' v.ownBlock → ((Value.slice A' N cap').ownBlock = v.ownBlock ∨ (Value.slice A' N cap').ownBlock = some w.heap.size) → wpList Try.prog ops Q rest (a.put o.dst (.slice A' N cap')) w') : wpList Try.prog ops Q (o :: rest) a w := by
  subst hN hM
  refine wpList_plain hgd fun _ hK => ?_
  obtain ⟨A', cap', w', hr, h2, h3, h4⟩ := run_app w o.type hown hsrc hsz hbase
  unfold Oper.wp execOp
  simp only [ho, resolve, invoke, builtin, Sem.run_bind, Sem.run_pure, Result.andThen_ok, List.map_toArray, List.map_cons, List.map_nil, hs, hx, hr]
  exact hK _ _ (h A' cap' w' h2 h3 h4)
end

theorem Ob.stored {w : World} {K g n cap : Nat} {l : List UInt8} (h : Ob w K (.slice (some ⟨g, 0, none⟩) n cap) l) (j : Nat) (c : UInt8) : Ob (w.setCell ⟨g, j, none⟩ (bv c)) K (.slice (some ⟨g, 0, none⟩) n cap) (l.set j c) := by
  have hn := h.bs.2
  subst hn
  have := World.ownsRow.stored h j (bv c)
  unfold Ob
  rw [List.length_set, List.map_set]
  exact this.1
theorem add0 (g j : Nat) : (⟨g, 0, none⟩ : Addr).add j = ⟨g, j, none⟩ := by unfold Addr.add; split <;> simp_all
theorem Ob.addr {w : World} {K n cap : Nat} {A : Option Addr} {l : List UInt8} (h : Ob w K (.slice A n cap) l) (hn : 0 < n) : ∃ g, A = some ⟨g, 0, none⟩ ∧ K ≤ g ∧ g < w.heap.size := by
  have e := h.bs.2
  obtain ⟨g, cap', he, hg, hl⟩ := World.ownsRow.form (h := h) (by omega)
  injection he with h1 h2 h3
  exact ⟨g, h1, hg, hl⟩


theorem Ob.slot {w : World} {K g n cap k : Nat} {l : List UInt8} (h : Ob w K (.slice (some ⟨g, 0, none⟩) n cap) l) (hk : k < l.length) : w.cell? ⟨g, k, none⟩ = some (bv l[k]) ∧ w.frozen? ⟨g, k, none⟩ = false ∧ n = l.length ∧ n ≤ cap ∧ cap ≤ maxLen := by
  have h1 : w.ownsRow K 5 1 (.slice (some ⟨g, 0, none⟩) n cap) n (l.map bv) := by
    have h2 := h
    unfold Ob at h2
    rwa [← h.bs.2] at h2
  have hb := h.bs
  refine ⟨?_, h1.frozenAt k, hb.2, by have := hb.1.le; omega, hb.1.max⟩
  rw [h1.cellAt k (by omega)]
  simp [hk]

end Go.Proofs.Ytcgkbpjfbahleaa
namespace Go.Proofs.Ytcgkbpjfbahleaa
open Go.RowKit

structure Tn (P : Nat → Prop) (w w' : World) : Prop where
  os : w'.os = w.os
  tape : w'.tape = w.tape
  output : w'.output = w.output
  size : w.heap.size ≤ w'.heap.size
  block : ∀ k, k < w.heap.size → ¬ P k → w'.heap[k]? = w.heap[k]?

section
variable {P Q R : Nat → Prop} {w w1 w2 w' : World}
theorem Tn.refl (P : Nat → Prop) (w : World) : Tn P w w := ⟨rfl, rfl, rfl, Nat.le_refl _, fun _ _ _ => rfl⟩
theorem Tn.thenQ (h : Tn P w w1) (h2 : Tn Q w1 w2) (hQ : ∀ k, k < w.heap.size → Q k → P k) : Tn P w w2 :=
  ⟨h2.os.trans h.os, h2.tape.trans h.tape, h2.output.trans h.output, Nat.le_trans h.size h2.size, fun k hk hn =>
    (h2.block k (Nat.lt_of_lt_of_le hk h.size) (fun q => hn (hQ k hk q))).trans (h.block k hk hn)⟩
theorem Tn.then (h : Tn P w w1) (h2 : Tn P w1 w2) : Tn P w w2 := h.thenQ h2 fun _ _ h => h
theorem Tn.mono (h : Tn P w w') (hP : ∀ k, k < w.heap.size → P k → Q k) : Tn Q w w' :=
  ⟨h.os, h.tape, h.output, h.size, fun k hk hn => h.block k hk fun p => hn (hP k hk p)⟩
theorem Tn.ofBelow {B : Nat} (h : Below B w w') : Tn (B ≤ ·) w w' := ⟨h.os, h.tape, h.output, h.size, fun k _ hn => h.block k (by omega)⟩
theorem Tn.ofNew (h : Below w.heap.size w w') : Tn P w w' := ⟨h.os, h.tape, h.output, h.size, fun k hk _ => h.block k hk⟩
theorem Tn.below {B : Nat} (h : Tn P w w') (hB : B ≤ w.heap.size) (hP : ∀ k, k < w.heap.size → P k → B ≤ k) : Below B w w' :=
  ⟨h.os, h.tape, h.output, h.size, fun k hk => h.block k (by omega) fun p => by have := hP k (by omega) p; omega⟩
theorem Tn.ofGrown {row : Option Nat} (h : w.grownBy w' row) : Tn (fun k => some k = row) w w' := ⟨h.os, h.tape, h.output, h.size, fun k hk hn => h.block k hk hn⟩
theorem Tn.setCell (w : World) (b o : Nat) (v : Value) : Tn (· = b) w (w.setCell ⟨b, o, none⟩ v) :=
  ⟨rfl, rfl, rfl, by simp [World.setCell], fun k _ hn => by
    simp only [World.setCell]; rw [Array.getElem?_modify, if_neg (fun e => hn e.symm)]⟩
theorem Tn.alloc (w : World) (o : Obj) : Tn P w (w.alloc o) := ⟨rfl, rfl, rfl, by simp, fun k hk _ => Below.heap_alloc w o k hk⟩
theorem Tn.drew (w : World) : Tn P w w.drew := ⟨rfl, rfl, rfl, Nat.le_refl _, fun _ _ _ => rfl⟩
theorem Tn.cell (h : Tn P w w') {p : Addr} {v : Value} (hc : w.cell? p = some v) (hn : ¬ P p.block) : w'.cell? p = some v :=
  (World.cell?_of_block (h.block _ (World.block_lt_of_cell? w _ hc) hn)).trans hc
theorem Tn.frozen (h : Tn P w w') {p : Addr} (hp : p.block < w.heap.size) (hn : ¬ P p.block) : w'.frozen? p = w.frozen? p :=
  World.frozen?_of_block (h.block _ hp hn)
theorem Tn.ob (h : Tn P w w') {K : Nat} {v : Value} {l : List UInt8} (ho : Ob w K v l) (hn : ∀ k, v.ownBlock = some k → ¬ P k) : Ob w' K v l := by
  have hlt := ho.lt
  rcases ho.2 with ⟨he, h0⟩ | ⟨g, cap', cur, he, hb, hg, hrest⟩
  · exact ⟨ho.1, .inl ⟨he, h0⟩⟩
  · subst he
    exact ⟨ho.1, .inr ⟨g, cap', cur, rfl, hb, (h.block g (hlt g rfl).2 (hn g rfl)).trans hg, hrest⟩⟩
theorem Tn.bs (h : Tn P w w') {K : Nat} {A : Option Addr} {cap : Nat} {l : List UInt8} (hb : Bs w K A cap l) (hn : 0 < l.length → ∀ ad : Addr, A = some ad → ¬ P ad.block) : Bs w' K A cap l :=
  ⟨hb.le, hb.max, hb.nil, fun hl => by
    obtain ⟨ad, e, hk, hc⟩ := hb.at_ hl
    refine ⟨ad, e, hk, fun k c hkc => ?_⟩
    have := hc k c hkc
    have hbl : (ad.add k).block = ad.block := block_of_add ad k
    have hlt := World.block_lt_of_cell? w _ this
    generalize ad.add k = q at *
    obtain ⟨qb, qo, qx⟩ := q
    exact h.cell this (by rw [hbl]; exact hn hl ad e)⟩
end
end Go.Proofs.Ytcgkbpjfbahleaa
namespace Go.Proofs.Ytcgkbpjfbahleaa
open Go.RowKit

def strB (l : List UInt8) : ByteArray := ⟨l.toArray⟩
theorem strB_toList (l : List UInt8) : (strB l).data.toList = l := rfl
theorem strB_size (l : List UInt8) : (strB l).size = l.length := by simp [strB, ByteArray.size]

theorem bs_str {w : World} {K cap n : Nat} {A : Option Addr} {l : List UInt8} (h : Bs w K A cap l) (hn : l.length = n) : (convert 53 9 (.slice A n cap)).run Try.prog w = .ok (.string (strB l)) w := by
  subst hn
  by_cases hl : l = []
  · subst hl
    rcases A with _ | ad
    · exact run_convert_bytes_nil (P := Try.prog) w 53 5 Try.underlying53 Try.underlying5 0 cap 9 Try.underlying9
    · show (convert 53 9 (.slice (some ad) 0 cap)).run Try.prog w = _
      rw [run_convert_bytes_string w 53 9 5 _ _ _ Try.underlying53 Try.underlying5 Try.underlying9, run_bytesToString w ad 0 cap [] (by simpa using run_loadCells_list (P := Try.prog) w ad [] (fun j v hj => by simp at hj))]
      rfl
  · obtain ⟨ad, rfl, _, hc⟩ := h.at_ (List.length_pos_iff.2 hl)
    have hld : (loadCells ad l.length).run Try.prog w = .ok ((l.map fun c => (c.toNat : Int)).map (Value.int .u8)).toArray w := by
      have := run_loadCells_list (P := Try.prog) w ad (l.map bv) (fun j v hj => by
        simp only [List.getElem?_map, Option.map_eq_some_iff] at hj
        obtain ⟨c, hc', rfl⟩ := hj
        exact hc j c hc')
      rw [List.length_map] at this
      rw [List.map_map]
      exact this
    rw [run_convert_bytes_string w 53 9 5 _ _ _ Try.underlying53 Try.underlying5 Try.underlying9, run_bytesToString w ad l.length cap _ hld, foldl_push_bytes, List.map_map]
    have e : (l.map ((fun n : Int => UInt8.ofNat n.toNat) ∘ fun c : UInt8 => (c.toNat : Int))) = l := by
      rw [show ((fun n : Int => UInt8.ofNat n.toNat) ∘ fun c : UInt8 => (c.toNat : Int)) = id by funext c; simp, List.map_id]
    rw [e]
    simp [strB, ByteArray.empty, ByteArray.emptyWithCapacity]
    rfl
end Go.Proofs.Ytcgkbpjfbahleaa
namespace Go.Proofs.Ytcgkbpjfbahleaa
open Go.RowKit

section
variable {P : Program} {Q : Exit → Act → World → Prop}

/-- What every operation left, put into its slot, in the text's order. -/
def putAll (vs : Nat → Value) : Nat → List Oper → Act → Act
  | _, [], a => a
  | k, o :: os, a => putAll vs (k + 1) os (a.put o.dst (vs k))
/-- The last operation that writes a slot. -/
def owner : List Oper → Tmp → Option Nat
  | [], _ => none
  | o :: os, t => match owner os t with
    | some j => some (j + 1)
    | none => if o.dst = some t then some 0 else none

theorem put_size (a : Act) (d : Option Tmp) (v : Value) : (a.put d v).tmps.size = a.tmps.size := by
  cases d <;> simp [Act.put]
theorem put_defers (a : Act) (d : Option Tmp) (v : Value) : (a.put d v).defers = a.defers := by
  cases d <;> rfl
theorem putAll_size (vs : Nat → Value) : ∀ (os : List Oper) (k : Nat) (a : Act), (putAll vs k os a).tmps.size = a.tmps.size
  | [], _, _ => rfl
  | _ :: os, k, _ => (putAll_size vs os (k + 1) _).trans (put_size _ _ _)
theorem putAll_defers (vs : Nat → Value) : ∀ (os : List Oper) (k : Nat) (a : Act), (putAll vs k os a).defers = a.defers
  | [], _, _ => rfl
  | _ :: os, k, _ => (putAll_defers vs os (k + 1) _).trans (put_defers _ _ _)
theorem putAll_get (vs : Nat → Value) (t : Tmp) : ∀ (os : List Oper) (k : Nat) (a : Act),
    (putAll vs k os a).tmps[t]? = match owner os t with | some j => (if t < a.tmps.size then some (vs (k + j)) else none) | none => a.tmps[t]?
  | [], _, _ => rfl
  | o :: os, k, a => by
    rw [putAll, putAll_get vs t os (k + 1)]
    simp only [owner]
    cases h : owner os t with
    | some j => simp only [put_size, show k + 1 + j = k + (j + 1) by omega]
    | none =>
      by_cases hd : o.dst = some t
      · simp only [hd, if_true, Act.put, Nat.add_zero, Array.getElem?_setIfInBounds]
      · simp only [hd, if_false]
        cases hd' : o.dst with
        | none => rfl
        | some d =>
          have hne : d ≠ t := fun e => hd (by rw [hd', e])
          simp [Act.put, Array.getElem?_setIfInBounds_ne hne]

/-- What the kernel reckons of a statement's operations: each slot has one writer, each waits for those that it looks at, and for earlier ones alone. -/
def fitsAt (ops : Array Oper) (i : Nat) (o : Oper) : Bool :=
  (match o.dst with | some d => owner ops.toList d == some i | none => true) &&
  ((o.looksAt ops).all fun t => match owner ops.toList t with | some j => o.after.any fun e => Region.binds .any e && e.on == j | none => true) &&
  (o.after.all fun e => !Region.binds .any e || Nat.blt e.on i) &&
  (match o.op with | .select _ _ => false | _ => true)
def fitsR (ops : Array Oper) : Bool := (List.range ops.size).all fun i => match ops[i]? with | some o => fitsAt ops i o | none => true

theorem fits_spec {ops : Array Oper} (h : fitsR ops = true) {i : Nat} {o : Oper} (hi : ops[i]? = some o) : fitsAt ops i o = true := by
  have hlt : i < ops.size := (Array.getElem?_eq_some_iff.1 hi).1
  have := List.all_eq_true.1 h i (List.mem_range.2 hlt)
  simpa [hi] using this

def updR {α : Type} (f : Nat → α) (i : Nat) (v : α) : Nat → α := fun j => if j = i then v else f j
theorem updR_same {α : Type} (f : Nat → α) (i : Nat) (v : α) : updR f i v i = v := by simp [updR]
theorem updR_ne {α : Type} (f : Nat → α) {i j : Nat} (v : α) (h : j ≠ i) : updR f i v j = f j := by simp [updR, h]

theorem put_alike {a b : Act} {d : Option Tmp} {u v : Value} (hs : a.tmps.size = b.tmps.size) (h : b.put d u = b.put d v) : a.put d u = a.put d v := by
  cases d with
  | none => rfl
  | some t =>
    by_cases ht : t < b.tmps.size
    · have := congrArg (fun x => x.tmps[t]?) h
      simp [Act.put, ht] at this
      rw [this]
    · have ht' : a.tmps.size ≤ t := hs ▸ Nat.le_of_not_lt ht
      simp [Act.put, Array.setIfInBounds_eq_of_size_le ht']

/-- One operation at one frame, and at another one that it can't tell from it. -/
theorem wp_alike {o : Oper} {a b : Act} {w : World} {K : Act → World → Prop} {Post : Value → World → Prop} (he : execOp a.eval o = execOp b.eval o)
    (hs : a.tmps.size = b.tmps.size) (hd : b.defers = a.defers) (hQ : ∀ c (x y : Act) w, x.defers = y.defers → Q (.panic c) x w → Q (.panic c) y w) (hK : ∀ v w', Post v w' → K (a.put o.dst v) w')
    (h : Oper.wp P o b w (fun a' w' => ∃ v, a' = b.put o.dst v ∧ Post v w') Q) : Oper.wp P o a w K Q := by
  have one : ∀ {u : Value} {w' : World}, (∃ v, b.put o.dst u = b.put o.dst v ∧ Post v w') → K (a.put o.dst u) w' := fun ⟨v, e, hp⟩ => by
    rw [put_alike hs e]; exact hK v _ hp
  unfold Oper.wp at *
  rw [he]
  generalize (execOp b.eval o).run P w = r at *
  cases r with
  | ok n w' =>
    cases n <;> simp only [Oper.upon] at h ⊢
    case value u => exact one h
    case skip => exact one h
    case defer d =>
      obtain ⟨v, e, _⟩ := h
      have := congrArg (fun x => x.defers.length) e
      simp [put_defers] at this
    case enter f args =>
      refine Calls.mono h fun e w'' he => ?_
      cases e with
      | returned u => exact one he
      | panicked c => exact hQ _ _ _ _ hd he
      | outgrown => exact he
    case row row args => exact Rows.mono h fun u w'' he => one he
  | halt x w' =>
    cases x <;> simp only [Oper.upon] at h ⊢
    case panic u => exact hQ _ _ _ _ hd h

/-- Two frames that an operation can't tell from one another: its operands and its guard's slot hold the same. -/
theorem eval_alike {a b : Act} {x : Operand} (h : ∀ t, x = .tmp t → a.tmps[t]? = b.tmps[t]?) : a.eval x = b.eval x := by
  cases x with
  | tmp t => simp only [Act.eval, Array.getD_eq_getD_getElem?, h t rfl]
  | _ => rfl
theorem exec_alike {ops : Array Oper} {a b : Act} {o : Oper} (hsel : ∀ cs d, o.op ≠ .select cs d) (h : ∀ t ∈ o.looksAt ops, a.tmps[t]? = b.tmps[t]?) : execOp a.eval o = execOp b.eval o :=
  execOp_congr o hsel fun x hx => eval_alike fun t ht => h t (by
    subst ht
    exact List.mem_append_left _ (List.mem_filterMap.2 ⟨.tmp t, by simpa using hx, rfl⟩))
theorem wanted_alike {ops : Array Oper} {a b : Act} {o : Oper} (h : ∀ t ∈ o.looksAt ops, a.tmps[t]? = b.tmps[t]?) : Region.wanted o (yielded ops a.tmps) = Region.wanted o (yielded ops b.tmps) := by
  unfold Region.wanted
  cases hg : o.guard with
  | none => rfl
  | some gw =>
    obtain ⟨g, want⟩ := gw
    have hy : yielded ops a.tmps g = yielded ops b.tmps g := by
      unfold yielded
      cases ht : (ops[g]?).bind (·.dst) with
      | none => rfl
      | some t => simp only [Option.bind_some, h t (by simp [Oper.looksAt, hg, ht])]
    simp only [hy]

/-- How many have not come up. -/
def todo (n : Nat) (listed : Array Bool) : Nat := (List.range n).countP fun i => !listed.getD i false
theorem todo_set {n i : Nat} {listed : Array Bool} (hn : i < n) (hs : listed.size = n) (h : listed.getD i true = false) : todo n (listed.setIfInBounds i true) + 1 ≤ todo n listed := by
  have h' : listed.getD i false = false := by
    have hi : i < listed.size := by omega
    simpa [hi] using h
  unfold todo
  have key : ∀ l : List Nat, i ∈ l → l.countP (fun k => !(listed.setIfInBounds i true).getD k false) + 1 ≤ l.countP fun k => !listed.getD k false := by
    have le : ∀ l : List Nat, l.countP (fun k => !(listed.setIfInBounds i true).getD k false) ≤ l.countP fun k => !listed.getD k false := fun l =>
      List.countP_mono_left fun k _ hk => by
        by_cases hik : i = k
        · subst hik
          simp [show i < listed.size by omega] at hk
        · rw [getD_set_ne false hik] at hk; exact hk
    intro l hl
    induction l with
    | nil => cases hl
    | cons x r ih =>
      rcases List.mem_cons.1 hl with rfl | hr
      · have h1 : (listed.setIfInBounds i true).getD i false = true := by simp [show i < listed.size by omega]
        have := le r
        rw [List.countP_cons, List.countP_cons, h1, h']
        simp only [Bool.not_true, Bool.not_false, Bool.false_eq_true, if_true, if_false, Nat.add_zero]
        omega
      · have := ih hr
        have l2 : (!(listed.setIfInBounds i true).getD x false) = true → (!listed.getD x false) = true := fun hk => by
          by_cases hik : i = x
          · subst hik; simp [show i < listed.size by omega] at hk
          · rw [getD_set_ne false hik] at hk; exact hk
        rw [List.countP_cons, List.countP_cons]
        split <;> split <;> simp_all <;> omega
  exact key _ (List.mem_range.2 hn)

theorem readyR_nil {ops : Array Oper} (hf : fitsR ops = true) {listed : Array Bool} (hs : listed.size = ops.size) (h : Region.ready .any ops listed = []) : ∀ i, i < ops.size → listed.getD i false = true := by
  intro i
  induction i using Nat.strongRecOn with
  | ind i ih =>
    intro hi
    by_cases hl : listed.getD i false = true
    · exact hl
    · exfalso
      have hi' : i < listed.size := by omega
      have ho : ops[i]? = some ops[i] := Array.getElem?_eq_getElem hi
      have hfit := fits_spec hf ho
      simp only [fitsAt, Bool.and_eq_true, Array.all_eq_true_iff_forall_mem] at hfit
      have : i ∈ Region.ready .any ops listed := mem_ready.2 ⟨by simpa [hi'] using hl, _, ho, fun e he hb => by
        have := hfit.1.2 e he
        simp [hb] at this
        have h2 : e.on < i := by simpa using this
        exact ih e.on h2 (Nat.lt_trans h2 hi)⟩
      rw [h] at this
      cases this

theorem any_of_inv {ops : Array Oper} (hf : fitsR ops = true) {a0 : Act} {F : (Nat → Value) → Act} (hF : ∀ vs, F vs = putAll vs 0 ops.toList a0)
    (hQ : ∀ c (x y : Act) w, x.defers = y.defers → Q (.panic c) x w → Q (.panic c) y w) (J : (Nat → Bool) → (Nat → Value) → World → Prop)
    (hstep : ∀ i o, ops[i]? = some o → ∀ l vs w, J l vs w → l i = false → (∀ e ∈ o.after, Region.binds .any e = true → l e.on = true) →
      ∀ K : Act → World → Prop, (∀ v w', J (updR l i true) (updR vs i v) w' → K ((F vs).put o.dst v) w') →
        if Region.wanted o (yielded ops (F vs).tmps) = true then Oper.wp P o (F vs) w K Q else K ((F vs).put o.dst undef) w)
    (hend : ∀ l vs w, (∀ i, i < ops.size → l i = true) → J l vs w → Q .normal (F vs) w) :
    ∀ (fuel : Nat) (listed : Array Bool) (vs : Nat → Value) (a : Act) (w : World), todo ops.size listed ≤ fuel → listed.size = ops.size →
      a.defers = a0.defers → a.tmps.size = a0.tmps.size → (∀ t, (∀ j, owner ops.toList t = some j → listed.getD j false = true) → a.tmps[t]? = (F vs).tmps[t]?) →
      J (fun j => listed.getD j false) vs w → wpAny P .any ops Q fuel listed a w := by
  have fin : ∀ (listed : Array Bool) (vs : Nat → Value) (a : Act) (w : World), listed.size = ops.size → a.defers = a0.defers →
      (∀ t, (∀ j, owner ops.toList t = some j → listed.getD j false = true) → a.tmps[t]? = (F vs).tmps[t]?) → J (fun j => listed.getD j false) vs w →
      Region.ready .any ops listed = [] → Q .normal a w := fun listed vs a w hs hd ha hJ hr => by
    have hall := readyR_nil hf hs hr
    have own_lt : ∀ (l : List Oper) t j, owner l t = some j → j < l.length := by
      intro l
      induction l with
      | nil => intro t j h; cases h
      | cons x r ih =>
        intro t j h
        simp only [owner] at h
        split at h
        · rename_i k hk; have := ih t k hk; simp at h; subst h; simp; omega
        · split at h
          · simp at h; subst h; simp
          · cases h
    have : a = F vs := by
      have ht : a.tmps = (F vs).tmps := Array.ext_getElem? fun t => ha t fun j hj => hall j (by simpa using own_lt _ t j hj)
      have hdd : a.defers = (F vs).defers := by rw [hF, putAll_defers]; exact hd
      cases a; cases hv : F vs; rw [hv] at ht hdd; simp at ht hdd; rw [ht, hdd]
    rw [this]
    exact hend _ vs w (fun i hi => hall i hi) hJ
  intro fuel
  induction fuel with
  | zero =>
    intro listed vs a w ht hs hd hsz ha hJ
    have hr : Region.ready .any ops listed = [] := by
      refine List.eq_nil_iff_forall_not_mem.2 fun i hi => ?_
      obtain ⟨h0, o, ho, _⟩ := mem_ready.1 hi
      have := todo_set (Array.getElem?_eq_some_iff.1 ho).1 hs h0
      omega
    exact ⟨hr, fin listed vs a w hs hd ha hJ hr⟩
  | succ fuel ih =>
    intro listed vs a w ht hs hd hsz ha hJ
    refine ⟨fin listed vs a w hs hd ha hJ, fun i hi => ?_⟩
    obtain ⟨h0, o, ho, hall⟩ := mem_ready.1 hi
    have hlt : i < ops.size := (Array.getElem?_eq_some_iff.1 ho).1
    have hfit := fits_spec hf ho
    simp only [fitsAt, Bool.and_eq_true, Array.all_eq_true_iff_forall_mem, List.all_eq_true] at hfit
    obtain ⟨⟨⟨hdst, hlook⟩, hback⟩, hsel⟩ := hfit
    have hfs : (F vs).tmps.size = a.tmps.size := by rw [hF, putAll_size]; exact hsz.symm
    have same : ∀ t ∈ o.looksAt ops, a.tmps[t]? = (F vs).tmps[t]? := fun t hlt => ha t fun j hj => by
      have := hlook t hlt
      rw [hj] at this
      simp only [Array.any_eq_true', Bool.and_eq_true, beq_iff_eq] at this
      obtain ⟨e, he, hb, heq⟩ := this
      rw [← heq]; exact hall e he hb
    have hsel' : ∀ cs d, o.op ≠ .select cs d := fun cs d h => by rw [h] at hsel; simp at hsel
    have hl : listed.getD i false = false := by
      have hi' : i < listed.size := by omega
      simpa [hi'] using h0
    have go := hstep i o ho (fun j => listed.getD j false) vs w hJ hl hall
    have next : ∀ v w', J (updR (fun j => listed.getD j false) i true) (updR vs i v) w' → wpAny P .any ops Q fuel (listed.setIfInBounds i true) (a.put o.dst v) w' := fun v w' hJ' => by
      refine ih _ (updR vs i v) _ w' (by have := todo_set hlt hs h0; omega) (by simpa using hs) (by rw [put_defers]; exact hd) (by rw [put_size]; exact hsz) (fun t hown => ?_) ?_
      · rw [hF, putAll_get]
        by_cases hdt : o.dst = some t
        · rw [hdt] at hdst
          simp only [beq_iff_eq] at hdst
          rw [hdst]
          simp only [Nat.zero_add, updR_same, hdt, Act.put, Array.getElem?_setIfInBounds, hsz]
          simp
        · have h1 : (a.put o.dst v).tmps[t]? = a.tmps[t]? := by
            cases hd' : o.dst with
            | none => rfl
            | some d =>
              have hne : d ≠ t := fun e => hdt (by rw [hd', e])
              simp [Act.put, Array.getElem?_setIfInBounds_ne hne]
          rw [h1, ha t (fun j hj => by
            have h2 := hown j hj
            by_cases hji : i = j
            · subst hji
              exfalso
              have own_dst : ∀ (l : List Oper) j, owner l t = some j → ∃ x, l[j]? = some x ∧ x.dst = some t := by
                intro l
                induction l with
                | nil => intro j h; cases h
                | cons x r ih2 =>
                  intro j h
                  simp only [owner] at h
                  split at h
                  · rename_i k hk; obtain ⟨y, hy, hyd⟩ := ih2 k hk; simp at h; subst h; exact ⟨y, by simpa using hy, hyd⟩
                  · split at h
                    · rename_i hx; simp at h; subst h; exact ⟨x, by simp, hx⟩
                    · cases h
              obtain ⟨x, hx, hxd⟩ := own_dst _ _ hj
              rw [Array.getElem?_toList, ho] at hx
              cases hx
              exact hdt hxd
            · rw [getD_set_ne false hji] at h2; exact h2), hF, putAll_get]
          cases hw : owner ops.toList t with
          | none => rfl
          | some j =>
            have hji : j ≠ i := fun e => by
              subst e
              have own_dst : ∀ (l : List Oper) j, owner l t = some j → ∃ x, l[j]? = some x ∧ x.dst = some t := by
                intro l
                induction l with
                | nil => intro j h; cases h
                | cons x r ih2 =>
                  intro j h
                  simp only [owner] at h
                  split at h
                  · rename_i k hk; obtain ⟨y, hy, hyd⟩ := ih2 k hk; simp at h; subst h; exact ⟨y, by simpa using hy, hyd⟩
                  · split at h
                    · rename_i hx; simp at h; subst h; exact ⟨x, by simp, hx⟩
                    · cases h
              obtain ⟨x, hx, hxd⟩ := own_dst _ _ hw
              rw [Array.getElem?_toList, ho] at hx
              cases hx
              exact hdt hxd
            simp only [Nat.zero_add, updR_ne vs v hji]
      · have : (fun j => (listed.setIfInBounds i true).getD j false) = updR (fun j => listed.getD j false) i true := by
          funext j
          by_cases hji : j = i
          · subst hji; simp [updR, show j < listed.size by omega]
          · rw [updR_ne _ _ hji, getD_set_ne false (Ne.symm hji)]
        rw [this]; exact hJ'
    unfold wpOp
    simp only [ho]
    rw [wanted_alike same]
    by_cases hw : Region.wanted o (yielded ops (F vs).tmps) = true
    · simp only [hw, if_true] at go ⊢
      exact .inl (wp_alike (Post := fun v w' => J (updR (fun j => listed.getD j false) i true) (updR vs i v) w') (exec_alike hsel' same) hfs.symm (by rw [hF, putAll_defers]; exact hd.symm) hQ next (go _ fun v w' hp => ⟨v, rfl, hp⟩))
    · have hw' : Region.wanted o (yielded ops (F vs).tmps) = false := by simpa using hw
      simp only [hw', Bool.false_eq_true, if_false] at go ⊢
      obtain ⟨v, e, hp⟩ := go (fun a' w' => ∃ v, a' = (F vs).put o.dst v ∧ J (updR (fun j => listed.getD j false) i true) (updR vs i v) w') fun v w' hp => ⟨v, rfl, hp⟩
      rw [put_alike hfs.symm e]
      exact next v w hp

/-- A STATEMENT WHOSE ORDER IS OPEN: an invariant of what has come up, of what it left, and of the world. -/
theorem region_inv {ops : Array Oper} {id : Nat} {a0 : Act} {w0 : World} (hm : P.follows .mixedOrders = true) (hf : fitsR ops = true)
    (F : (Nat → Value) → Act) (hF : ∀ vs, F vs = putAll vs 0 ops.toList a0)
    (hQ : ∀ c (x y : Act) w, x.defers = y.defers → Q (.panic c) x w → Q (.panic c) y w) (J : (Nat → Bool) → (Nat → Value) → World → Prop)
    (h0 : J (fun _ => false) (fun _ => undef) w0.drew)
    (hstep : ∀ i o, ops[i]? = some o → ∀ l vs w, J l vs w → l i = false → (∀ e ∈ o.after, Region.binds .any e = true → l e.on = true) →
      ∀ K : Act → World → Prop, (∀ v w', J (updR l i true) (updR vs i v) w' → K ((F vs).put o.dst v) w') →
        if Region.wanted o (yielded ops (F vs).tmps) = true then Oper.wp P o (F vs) w K Q else K ((F vs).put o.dst undef) w)
    (hend : ∀ l vs w, (∀ i, i < ops.size → l i = true) → J l vs w → Q .normal (F vs) w) :
    (Code.region id ops true).wp P Q a0 w0 := by
  refine wp_region_any hm ?_
  refine any_of_inv hf hF hQ J hstep hend ops.size _ (fun _ => undef) a0 _ ?_ (by simp) rfl rfl (fun t ht => ?_) ?_
  · unfold todo
    exact Nat.le_trans List.countP_le_length (by simp)
  · rw [hF, putAll_get]
    cases hw : owner ops.toList t with
    | none => rfl
    | some j =>
      have h1 := ht j hw
      exfalso
      by_cases hj : j < ops.size
      · simp [hj] at h1
      · simp [hj] at h1
  · have : (fun j => (Array.replicate ops.size false).getD j false) = fun _ => false := by
      funext j
      by_cases hj : j < ops.size <;> simp [hj]
    rw [this]; exact h0

/-- Of each operation, with its number. -/
def AllOps (p : Nat → Oper → Prop) : Nat → List Oper → Prop
  | _, [] => True
  | k, o :: os => p k o ∧ AllOps p (k + 1) os
theorem AllOps.get {p : Nat → Oper → Prop} : ∀ {os : List Oper} {k : Nat}, AllOps p k os → ∀ {j : Nat} {o : Oper}, os[j]? = some o → p (k + j) o
  | [], _, _, _, _, hj => by cases hj
  | x :: os, k, h, 0, o, hj => by simp at hj; subst hj; exact h.1
  | x :: os, k, h, j + 1, o, hj => by
    have := AllOps.get h.2 (j := j) (o := o) (by simpa using hj)
    rwa [show k + 1 + j = k + (j + 1) by omega] at this
theorem AllOps.nil {p : Nat → Oper → Prop} {k : Nat} : AllOps p k [] := trivial
theorem AllOps.cons {p : Nat → Oper → Prop} {k : Nat} {o : Oper} {os : List Oper} (h : p k o) (h' : AllOps p (k + 1) os) : AllOps p k (o :: os) := ⟨h, h'⟩
/-- Those that an operation waits for. -/
def depsOf (o : Oper) : List Nat := o.after.toList.filterMap fun e => if Region.binds .any e = true then some e.on else none
def AllR (R : Nat → Value → World → Prop) (vs : Nat → Value) (w : World) : List Nat → Prop
  | [] => True
  | j :: js => R j (vs j) w ∧ AllR R vs w js
theorem AllR.mk {R : Nat → Value → World → Prop} {vs : Nat → Value} {w : World} : ∀ {js : List Nat}, (∀ j ∈ js, R j (vs j) w) → AllR R vs w js
  | [], _ => trivial
  | j :: js, h => ⟨h j (by simp), AllR.mk fun k hk => h k (by simp [hk])⟩
theorem AllR.get {R : Nat → Value → World → Prop} {vs : Nat → Value} {w : World} : ∀ {js : List Nat}, AllR R vs w js → ∀ j ∈ js, R j (vs j) w
  | j :: js, h, k, hk => by
    rcases List.mem_cons.1 hk with rfl | hk
    · exact h.1
    · exact h.2.get k hk

/-- THE COMMON CASE: of each operation's value one thing is known, which later calls and new memory leave true; S is what is known of the world. -/
theorem region_grow {ops : Array Oper} {id : Nat} {a0 : Act} {w0 : World} (S : World → Prop) (R : Nat → Value → World → Prop)
    (F : (Nat → Value) → Act) (hF : ∀ vs, F vs = putAll vs 0 ops.toList a0) (hm : P.follows .mixedOrders = true) (hf : fitsR ops = true)
    (hQ : ∀ c (x y : Act) w, x.defers = y.defers → Q (.panic c) x w → Q (.panic c) y w)
    (h0 : S w0.drew) (stab : ∀ w w', Below w.heap.size w w' → ∀ j v, R j v w → R j v w')
    (hstep : AllOps (fun i o => ∀ vs w, S w → AllR R vs w (depsOf o) →
      ∀ K : Act → World → Prop, (∀ v w', S w' → R i v w' → Below w.heap.size w w' → K ((F vs).put o.dst v) w') →
        if Region.wanted o (yielded ops (F vs).tmps) = true then Oper.wp P o (F vs) w K Q else K ((F vs).put o.dst undef) w) 0 ops.toList)
    (hend : ∀ vs w, S w → AllR R vs w (List.range ops.size) → Q .normal (F vs) w) :
    (Code.region id ops true).wp P Q a0 w0 := by
  refine region_inv hm hf F hF hQ (fun l vs w => S w ∧ ∀ j, l j = true → R j (vs j) w) ⟨h0, fun j h => by cases h⟩ ?_ ?_
  · intro i o ho l vs w ⟨hS, hR⟩ _ hall K hK
    have ho' : ops.toList[i]? = some o := by rw [Array.getElem?_toList]; exact ho
    have := hstep.get ho'
    rw [Nat.zero_add] at this
    refine this vs w hS (AllR.mk fun j hj => ?_) K fun v w' hS' hR' hb => hK v w' ⟨hS', fun j hj => ?_⟩
    · simp only [depsOf, List.mem_filterMap, Array.mem_toList_iff] at hj
      obtain ⟨e, he, hej⟩ := hj
      split at hej
      · rename_i hb; cases hej; exact hR _ (hall e he hb)
      · cases hej
    · by_cases hji : j = i
      · subst hji; rw [updR_same]; exact hR'
      · rw [updR_ne _ _ hji] at hj ⊢; exact stab w w' hb j _ (hR j hj)
  · intro l vs w hl ⟨hS, hR⟩
    exact hend vs w hS (AllR.mk fun j hj => hR j (hl j (List.mem_range.1 hj)))

theorem own_dst {t : Tmp} : ∀ (l : List Oper) j, owner l t = some j → ∃ x, l[j]? = some x ∧ x.dst = some t := by
  intro l
  induction l with
  | nil => intro j h; cases h
  | cons x r ih2 =>
    intro j h
    simp only [owner] at h
    split at h
    · rename_i k hk; obtain ⟨y, hy, hyd⟩ := ih2 k hk; simp at h; subst h; exact ⟨y, by simpa using hy, hyd⟩
    · split at h
      · rename_i hx; simp at h; subst h; exact ⟨x, by simp, hx⟩
      · cases h

/-- THE PLAINEST CASE: each operation leaves one value, whatever the order: xs; S is what is known of the world; each only makes new memory. -/
theorem region_vals {ops : Array Oper} {id : Nat} {a0 : Act} {w0 : World} (S : World → Prop) (xs : List Value)
    (F : Act) (hF : F = putAll (fun i => xs.getD i undef) 0 ops.toList a0) (hm : P.follows .mixedOrders = true) (hf : fitsR ops = true)
    (hQ : ∀ c (x y : Act) w, x.defers = y.defers → Q (.panic c) x w → Q (.panic c) y w)
    (h0 : S w0.drew)
    (hstep : AllOps (fun i o => ∀ w, S w → ∀ K : Act → World → Prop, (∀ v w', v = xs.getD i undef → S w' → K (F.put o.dst v) w') →
        if Region.wanted o (yielded ops F.tmps) = true then Oper.wp P o F w K Q else K (F.put o.dst undef) w) 0 ops.toList)
    (hend : ∀ w, S w → Q .normal F w) :
    (Code.region id ops true).wp P Q a0 w0 := by
  refine region_inv hm hf (fun vs => putAll vs 0 ops.toList a0) (fun _ => rfl) hQ (fun l vs w => S w ∧ ∀ j, l j = true → vs j = xs.getD j undef) ⟨h0, fun j h => by cases h⟩ ?_ ?_
  · intro i o ho l vs w ⟨hS, hR⟩ _ hall K hK
    have ho' : ops.toList[i]? = some o := by rw [Array.getElem?_toList]; exact ho
    have go := hstep.get ho'
    rw [Nat.zero_add] at go
    have hfit := fits_spec hf ho
    simp only [fitsAt, Bool.and_eq_true, Array.all_eq_true_iff_forall_mem, List.all_eq_true] at hfit
    obtain ⟨⟨⟨_, hlook⟩, _⟩, hsel⟩ := hfit
    have same : ∀ t ∈ o.looksAt ops, (putAll vs 0 ops.toList a0).tmps[t]? = F.tmps[t]? := fun t ht => by
      rw [hF, putAll_get, putAll_get]
      have := hlook t ht
      cases hj : owner ops.toList t with
      | none => rfl
      | some j =>
        rw [hj] at this
        simp only [Array.any_eq_true', Bool.and_eq_true, beq_iff_eq] at this
        obtain ⟨e, he, hb, heq⟩ := this
        have h1 := hR e.on (hall e he hb)
        rw [heq] at h1
        simp only [Nat.zero_add, h1]
    have hsel' : ∀ cs d, o.op ≠ .select cs d := fun cs d h => by rw [h] at hsel; simp at hsel
    have hsz : (putAll vs 0 ops.toList a0).tmps.size = F.tmps.size := by rw [hF, putAll_size, putAll_size]
    have hdf : F.defers = (putAll vs 0 ops.toList a0).defers := by rw [hF, putAll_defers, putAll_defers]
    have next : ∀ v w', (v = xs.getD i undef ∧ S w') → K ((putAll vs 0 ops.toList a0).put o.dst v) w' := fun v w' ⟨hv, hS'⟩ => hK v w' ⟨hS', fun j hj => by
      by_cases hji : j = i
      · subst hji; rw [updR_same]; exact hv
      · rw [updR_ne _ _ hji] at hj ⊢; exact hR j hj⟩
    rw [wanted_alike same]
    by_cases hw : Region.wanted o (yielded ops F.tmps) = true
    · simp only [hw, if_true] at go ⊢
      exact wp_alike (Post := fun v w' => v = xs.getD i undef ∧ S w') (exec_alike hsel' same) hsz hdf hQ next (go w hS _ fun v w' hv hS' => ⟨v, rfl, hv, hS'⟩)
    · have hw' : Region.wanted o (yielded ops F.tmps) = false := by simpa using hw
      simp only [hw', Bool.false_eq_true, if_false] at go ⊢
      obtain ⟨v, e, hp⟩ := go w hS (fun a' w' => ∃ v, a' = F.put o.dst v ∧ v = xs.getD i undef ∧ S w') fun v w' hv hS' => ⟨v, rfl, hv, hS'⟩
      rw [put_alike hsz e]
      exact next v w hp
  · intro l vs w hl ⟨hS, hR⟩
    have : putAll vs 0 ops.toList a0 = F := by
      have hx : ∀ (os : List Oper) (k : Nat) (a : Act), (∀ j, j < os.length → vs (k + j) = xs.getD (k + j) undef) → putAll vs k os a = putAll (fun i => xs.getD i undef) k os a := by
        intro os
        induction os with
        | nil => intro k a _; rfl
        | cons o os ih =>
          intro k a h
          have h0 := h 0 (by simp)
          simp only [Nat.add_zero] at h0
          simp only [putAll, h0]
          exact ih (k + 1) _ fun j hj => by
            have := h (j + 1) (by simp; omega)
            rwa [show k + (j + 1) = k + 1 + j by omega] at this
      rw [hF]
      exact hx _ 0 a0 fun j hj => by rw [Nat.zero_add]; exact hR j (hl j (by simpa using hj))
    rw [this]
    exact hend w hS
end
end Go.Proofs.Ytcgkbpjfbahleaa
namespace Go.Proofs.Ytcgkbpjfbahleaa
open Go.RowKit

theorem cellO {X : World} {p q : Addr} {u v : Value} (hne : p ≠ q) (h : X.cell? q = some v) : (X.setCell p u).cell? q = some v := by
  rw [World.cell?_setCell_other]
  · exact h
  · exact hne
theorem cellS {X : World} {p : Addr} {u : Value} (h : (X.cell? p).isSome = true) : (X.setCell p u).cell? p = some u := by
  obtain ⟨v, hv⟩ := Option.isSome_iff_exists.1 h
  exact World.cell?_setCell_same (w := X) (a := p) (v := u) hv
theorem isOf {X : World} {p : Addr} {v : Value} (h : X.cell? p = some v) : (X.cell? p).isSome = true := by rw [h]; rfl
theorem isS {X : World} {p q : Addr} {u : Value} (h : (X.cell? q).isSome = true) : ((X.setCell p u).cell? q).isSome = true := by
  by_cases e : p = q
  · subst e; rw [cellS h]; rfl
  · rw [World.cell?_setCell_other]
    · exact h
    · exact e
theorem frS {X : World} {p q : Addr} {u : Value} (h : X.frozen? q = false) : (X.setCell p u).frozen? q = false := by simpa using h

def AllL (l : Nat → Bool) : List Nat → Prop
  | [] => True
  | j :: js => l j = true ∧ AllL l js
theorem AllL.mk {l : Nat → Bool} : ∀ {js : List Nat}, (∀ j ∈ js, l j = true) → AllL l js
  | [], _ => trivial
  | j :: _, h => ⟨h j (by simp), AllL.mk fun k hk => h k (by simp [hk])⟩
theorem region_invA {P : Program} {Q : Exit → Act → World → Prop} {ops : Array Oper} {id : Nat} {a0 : Act} {w0 : World} (J : (Nat → Bool) → (Nat → Value) → World → Prop)
    (F : (Nat → Value) → Act) (hF : ∀ vs, F vs = putAll vs 0 ops.toList a0) (hm : P.follows .mixedOrders = true) (hf : fitsR ops = true)
    (hQ : ∀ c (x y : Act) w, x.defers = y.defers → Q (.panic c) x w → Q (.panic c) y w)
    (h0 : J (fun _ => false) (fun _ => undef) w0.drew)
    (hstep : AllOps (fun i o => ∀ l vs w, J l vs w → l i = false → AllL l (depsOf o) →
      ∀ K : Act → World → Prop, (∀ v w', J (updR l i true) (updR vs i v) w' → K ((F vs).put o.dst v) w') →
        if Region.wanted o (yielded ops (F vs).tmps) = true then Oper.wp P o (F vs) w K Q else K ((F vs).put o.dst undef) w) 0 ops.toList)
    (hend : ∀ l vs w, (∀ i, i < ops.size → l i = true) → J l vs w → Q .normal (F vs) w) :
    (Code.region id ops true).wp P Q a0 w0 := by
  refine region_inv hm hf F hF hQ J h0 (fun i o ho l vs w hJ hl hall => ?_) hend
  have ho' : ops.toList[i]? = some o := by rw [Array.getElem?_toList]; exact ho
  have go := hstep.get ho'
  rw [Nat.zero_add] at go
  refine go l vs w hJ hl (AllL.mk fun j hj => ?_)
  simp only [depsOf, List.mem_filterMap, Array.mem_toList_iff] at hj
  obtain ⟨e, he, hej⟩ := hj
  split at hej
  · rename_i hb; cases hej; exact hall e he hb
  · cases hej

/-- A block with room for a stamp; a block that holds one. -/
def Room3 (w : World) (b : Nat) : Prop := ∀ o, o < 3 → (w.cell? ⟨b, o, none⟩).isSome = true ∧ w.frozen? ⟨b, o, none⟩ = false
def At3 (w : World) (b : Nat) (y : Int × Int × Int) : Prop := w.cell? ⟨b, 0, none⟩ = some (.int .i64 y.1) ∧ w.cell? ⟨b, 1, none⟩ = some (.int .u32 y.2.1) ∧ w.cell? ⟨b, 2, none⟩ = some (.int .u32 y.2.2)
theorem At3.below {w w' : World} {b : Nat} {y : Int × Int × Int} (h : At3 w b y) (hb : Below w.heap.size w w') : At3 w' b y := ⟨kept hb h.1, kept hb h.2.1, kept hb h.2.2⟩
theorem Room3.below {w w' : World} {b : Nat} (h : Room3 w b) (hl : b < w.heap.size) (hb : Below w.heap.size w w') : Room3 w' b := fun o ho => by
  obtain ⟨h1, h2⟩ := h o ho
  rw [hb.cell (p := ⟨b, o, none⟩) hl, hb.frozen (p := ⟨b, o, none⟩) hl]
  exact ⟨h1, h2⟩

def store3 (w : World) (b : Nat) (y : Int × Int × Int) : World := ((w.setCell ⟨b, 0, none⟩ (.int .i64 y.1)).setCell ⟨b, 1, none⟩ (.int .u32 y.2.1)).setCell ⟨b, 2, none⟩ (.int .u32 y.2.2)
theorem Room3.store {w : World} {b c : Nat} {y : Int × Int × Int} (h : Room3 w b) : Room3 (store3 w c y) b := fun o ho => by
  obtain ⟨h1, h2⟩ := h o ho
  exact ⟨isS (isS (isS h1)), frS (frS (frS h2))⟩
theorem At3.store {w : World} {b : Nat} {y : Int × Int × Int} (h : Room3 w b) : At3 (store3 w b y) b y :=
  ⟨cellO (by simp) (cellO (by simp) (cellS (h 0 (by omega)).1)), cellO (by simp) (cellS (isS (h 1 (by omega)).1)), cellS (isS (isS (h 2 (by omega)).1))⟩
theorem At3.store_other {w : World} {b c : Nat} {y z : Int × Int × Int} (h : At3 w b y) (hne : c ≠ b) : At3 (store3 w c z) b y := by
  have ne : ∀ i j : Nat, (⟨c, i, none⟩ : Addr) ≠ ⟨b, j, none⟩ := fun i j e => hne (congrArg Addr.block e)
  exact ⟨cellO (ne _ _) (cellO (ne _ _) (cellO (ne _ _) h.1)), cellO (ne _ _) (cellO (ne _ _) (cellO (ne _ _) h.2.1)), cellO (ne _ _) (cellO (ne _ _) (cellO (ne _ _) h.2.2))⟩
theorem store3_size (w : World) (b : Nat) (y : Int × Int × Int) : (store3 w b y).heap.size = w.heap.size := by simp [store3]

/-- m values, k variables that are made, k stores into them: what holds of those that have come up. -/
structure Lets (S : World → Prop) (N m k : Nat) (xs : Nat → Value) (ys : Nat → Int × Int × Int) (l : Nat → Bool) (vs : Nat → Value) (w : World) : Prop where
  s : S w
  n : N ≤ w.heap.size
  v : ∀ j, j < m → l j = true → vs j = xs j
  p : ∀ i, i < k → l (m + i) = true → ∃ b, vs (m + i) = .pointer (some ⟨b, 0, none⟩) ∧ N ≤ b ∧ b < w.heap.size ∧ Room3 w b
  d : ∀ i j, i < k → j < k → i ≠ j → l (m + i) = true → l (m + j) = true → vs (m + i) ≠ vs (m + j)
  h : ∀ i, i < k → l (m + k + i) = true → l (m + i) = true ∧ ∀ b, vs (m + i) = .pointer (some ⟨b, 0, none⟩) → At3 w b (ys i)

variable {S : World → Prop} {N m k : Nat} {xs : Nat → Value} {ys : Nat → Int × Int × Int} {l : Nat → Bool} {vs : Nat → Value} {w : World}

theorem Lets.value (J : Lets S N m k xs ys l vs w) {i : Nat} (hi : i < m) {v : Value} (hv : v = xs i) {w' : World} (hb : Below w.heap.size w w') (hS : S w') : Lets S N m k xs ys (updR l i true) (updR vs i v) w' where
  s := hS
  n := Nat.le_trans J.n hb.size
  v := fun j hj hl => by
    by_cases e : j = i
    · subst e; rw [updR_same]; exact hv
    · rw [updR_ne _ _ e] at hl ⊢; exact J.v j hj hl
  p := fun j hj hl => by
    rw [updR_ne _ _ (by omega)] at hl ⊢
    obtain ⟨b, h1, h2, h3, h4⟩ := J.p j hj hl
    exact ⟨b, h1, h2, Nat.lt_of_lt_of_le h3 hb.size, h4.below h3 hb⟩
  d := fun a c ha hc hac hla hlc => by
    rw [updR_ne _ _ (by omega)] at hla hlc ⊢
    rw [updR_ne _ _ (by omega)]
    exact J.d a c ha hc hac hla hlc
  h := fun j hj hl => by
    rw [updR_ne _ _ (by omega)] at hl ⊢
    obtain ⟨h1, h2⟩ := J.h j hj hl
    refine ⟨h1, fun b hb' => ?_⟩
    rw [updR_ne _ _ (by omega)] at hb'
    exact (h2 b hb').below hb

theorem Lets.made (J : Lets S N m k xs ys l vs w) {i : Nat} (hi : i < k) (hl : l (m + i) = false) {z0 z1 z2 : Value} {T : TypeId} (hS : S (w.alloc (.cells #[z0, z1, z2] T))) :
    Lets S N m k xs ys (updR l (m + i) true) (updR vs (m + i) (.pointer (some ⟨w.heap.size, 0, none⟩))) (w.alloc (.cells #[z0, z1, z2] T)) := by
  have hb : Below w.heap.size w (w.alloc (.cells #[z0, z1, z2] T)) := (Below.refl _ _).alloc (Nat.le_refl _) _
  refine ⟨hS, Nat.le_trans J.n hb.size, fun j hj hl' => ?_, fun j hj hl' => ?_, fun a c ha hc hac hla hlc => ?_, fun j hj hl' => ?_⟩
  · rw [updR_ne _ _ (by omega)] at hl' ⊢; exact J.v j hj hl'
  · by_cases e : j = i
    · subst e
      rw [updR_same]
      refine ⟨w.heap.size, rfl, J.n, by simp, fun o ho => ?_⟩
      match o, ho with
      | 0, _ => exact ⟨by simp, by simp⟩
      | 1, _ => exact ⟨by simp, by simp⟩
      | 2, _ => exact ⟨by simp, by simp⟩
    · rw [updR_ne _ _ (by omega)] at hl' ⊢
      obtain ⟨b, h1, h2, h3, h4⟩ := J.p j hj hl'
      exact ⟨b, h1, h2, Nat.lt_of_lt_of_le h3 hb.size, h4.below h3 hb⟩
  · have far : ∀ j, j < k → l (m + j) = true → vs (m + j) ≠ .pointer (some ⟨w.heap.size, 0, none⟩) := fun j hj h e => by
      obtain ⟨b, h1, _, h3, _⟩ := J.p j hj h
      rw [h1] at e
      have e' : b = w.heap.size := congrArg (fun x => match x with | Value.pointer (some a) => a.block | _ => 0) e
      omega
    by_cases ea : a = i
    · subst ea
      rw [updR_same, updR_ne _ _ (by omega)]
      rw [updR_ne _ _ (by omega)] at hlc
      exact fun e => far c hc hlc e.symm
    · rw [updR_ne _ _ (by omega)] at hla
      rw [updR_ne vs _ (j := m + a) (by omega)]
      by_cases ec : c = i
      · subst ec; rw [updR_same]; exact far a ha hla
      · rw [updR_ne _ _ (by omega)] at hlc ⊢; exact J.d a c ha hc hac hla hlc
  · rw [updR_ne _ _ (by omega)] at hl'
    obtain ⟨h1, h2⟩ := J.h j hj hl'
    have ej : j ≠ i := fun e => by subst e; rw [hl] at h1; cases h1
    rw [updR_ne _ _ (by omega)]
    refine ⟨h1, fun b hb' => ?_⟩
    rw [updR_ne _ _ (by omega)] at hb'
    exact (h2 b hb').below hb

theorem Lets.stored (J : Lets S N m k xs ys l vs w) {i : Nat} (hi : i < k) (hl : l (m + i) = true) {b : Nat} (hv : vs (m + i) = .pointer (some ⟨b, 0, none⟩)) (hS : S (store3 w b (ys i))) (u : Value) :
    Lets S N m k xs ys (updR l (m + k + i) true) (updR vs (m + k + i) u) (store3 w b (ys i)) := by
  refine ⟨hS, by rw [store3_size]; exact J.n, fun j hj hl' => ?_, fun j hj hl' => ?_, fun a c ha hc hac hla hlc => ?_, fun j hj hl' => ?_⟩
  · rw [updR_ne _ _ (by omega)] at hl' ⊢; exact J.v j hj hl'
  · rw [updR_ne _ _ (by omega)] at hl' ⊢
    obtain ⟨c, h1, h2, h3, h4⟩ := J.p j hj hl'
    exact ⟨c, h1, h2, by rw [store3_size]; exact h3, h4.store⟩
  · rw [updR_ne _ _ (by omega)] at hla hlc ⊢
    rw [updR_ne _ _ (by omega)]
    exact J.d a c ha hc hac hla hlc
  · by_cases e : j = i
    · subst e
      rw [updR_ne _ _ (by omega)]
      refine ⟨hl, fun c hc => ?_⟩
      rw [updR_ne _ _ (by omega), hv] at hc
      simp at hc
      subst hc
      obtain ⟨c, h1, _, _, h4⟩ := J.p j hj hl
      rw [hv] at h1
      simp at h1
      subst h1
      exact At3.store h4
    · rw [updR_ne _ _ (by omega)] at hl' ⊢
      obtain ⟨h1, h2⟩ := J.h j hj hl'
      refine ⟨h1, fun c hc => ?_⟩
      rw [updR_ne _ _ (by omega)] at hc
      refine (h2 c hc).store_other fun ebc => ?_
      subst ebc
      exact J.d i j hi hj (Ne.symm e) hl h1 (by rw [hv, hc])

end Go.Proofs.Ytcgkbpjfbahleaa
namespace Go.Proofs.Ytcgkbpjfbahleaa
open Go.RowKit

def AllD (p : Nat → Prop) : List Nat → Prop
  | [] => True
  | j :: js => p j ∧ AllD p js
theorem AllD.of {p : Nat → Prop} {l : Nat → Bool} (h : ∀ j, l j = true → p j) : ∀ {js : List Nat}, AllL l js → AllD p js
  | [], _ => trivial
  | _ :: _, ⟨h1, h2⟩ => ⟨h _ h1, AllD.of h h2⟩
theorem AllD.get {p : Nat → Prop} : ∀ {js : List Nat}, AllD p js → ∀ {j : Nat}, j ∈ js → p j
  | _ :: _, ⟨h1, h2⟩, _, hj => (List.mem_cons.1 hj).elim (fun e => e ▸ h1) (fun e => h2.get e)
theorem AllOps.imp {p q : Nat → Oper → Prop} (h : ∀ i o, p i o → q i o) : ∀ {k : Nat} {os : List Oper}, AllOps p k os → AllOps q k os
  | _, [], _ => trivial
  | _, _ :: _, h2 => ⟨h _ _ h2.1, AllOps.imp h h2.2⟩
theorem region_V {P : Program} {Q : Exit → Act → World → Prop} {ops : Array Oper} {id : Nat} {a0 : Act} {w0 : World} {ι : Type} (holds : ι → Value → World → Prop) (G : World → Prop) (xs : List ι) (d : ι)
    (mono : ∀ p v w w', holds p v w → Below w.heap.size w w' → holds p v w')
    (F : (Nat → Value) → Act) (hF : ∀ vs, F vs = putAll vs 0 ops.toList a0) (hm : P.follows .mixedOrders = true) (hf : fitsR ops = true)
    (hQ : ∀ c (x y : Act) w, x.defers = y.defers → Q (.panic c) x w → Q (.panic c) y w)
    (h0 : G w0.drew)
    (hstep : AllOps (fun i o => ∀ vs w, G w → AllD (fun j => holds (xs.getD j d) (vs j) w) (depsOf o) →
      ∀ K : Act → World → Prop, (∀ v w', Below w.heap.size w w' → G w' → holds (xs.getD i d) v w' → K ((F vs).put o.dst v) w') →
        if Region.wanted o (yielded ops (F vs).tmps) = true then Oper.wp P o (F vs) w K Q else K ((F vs).put o.dst undef) w) 0 ops.toList)
    (hend : ∀ vs w, G w → (∀ i, i < ops.size → holds (xs.getD i d) (vs i) w) → Q .normal (F vs) w) :
    (Code.region id ops true).wp P Q a0 w0 := by
  refine region_invA (fun l vs w => G w ∧ ∀ i, l i = true → holds (xs.getD i d) (vs i) w) F hF hm hf hQ ⟨h0, fun i h => by cases h⟩ ?_ (fun l vs w hl hJ => hend vs w hJ.1 fun i hi => hJ.2 i (hl i hi))
  refine hstep.imp fun i o go l vs w hJ _ hd K hK => ?_
  refine go vs w hJ.1 (AllD.of (fun j hj => hJ.2 j hj) hd) K fun v w' hb hG hv => hK v w' ⟨hG, fun j hj => ?_⟩
  by_cases e : j = i
  · subst e; rw [updR_same]; exact hv
  · rw [updR_ne _ _ e] at hj ⊢
    exact mono _ _ _ _ (hJ.2 j hj) hb
end Go.Proofs.Ytcgkbpjfbahleaa
namespace Go.Proofs.Ytcgkbpjfbahleaa
open Go.RowKit


section
variable {P : Program} {Q : Exit → Act → World → Prop}
def depsAt (ops : Array Oper) (i : Nat) : List Nat := match ops[i]? with | some o => depsOf o | none => []
/-- Does i wait for a, by whatever way? -/
def reach (ops : Array Oper) : Nat → Nat → Nat → Bool
  | 0, _, _ => false
  | f + 1, a, i => (depsAt ops i).any fun e => e == a || reach ops f a e
theorem reach_up {ops : Array Oper} {l : Nat → Bool} (hC : ∀ j, l j = true → ∀ e ∈ depsAt ops j, l e = true) :
    ∀ (f a i : Nat), (∀ e ∈ depsAt ops i, l e = true) → reach ops f a i = true → l a = true
  | 0, _, _, _, h => by cases h
  | f + 1, a, i, hi, h => by
    simp only [reach, List.any_eq_true, Bool.or_eq_true, beq_iff_eq] at h
    obtain ⟨e, he, h⟩ := h
    rcases h with rfl | h
    · exact hi _ he
    · exact reach_up hC f a e (hC e (hi e he)) h

theorem mem_deps {ops : Array Oper} {i : Nat} {o : Oper} (ho : ops[i]? = some o) {l : Nat → Bool} (hall : ∀ e ∈ o.after, Region.binds .any e = true → l e.on = true) : ∀ e ∈ depsAt ops i, l e = true := by
  intro e he
  simp only [depsAt, ho, depsOf, List.mem_filterMap, Array.mem_toList_iff] at he
  obtain ⟨x, hx, hxe⟩ := he
  split at hxe
  · rename_i hb; cases hxe; exact hall x hx hb
  · cases hxe

/-- Each operation leaves one value; S is what is known of the world, by which operations have come up. -/
theorem region_valsL {ops : Array Oper} {id : Nat} {a0 : Act} {w0 : World} (S : (Nat → Bool) → World → Prop) (xs : List Value)
    (F : Act) (hF : F = putAll (fun i => xs.getD i undef) 0 ops.toList a0) (hm : P.follows .mixedOrders = true) (hf : fitsR ops = true)
    (hQ : ∀ c (x y : Act) w, x.defers = y.defers → Q (.panic c) x w → Q (.panic c) y w)
    (h0 : S (fun _ => false) w0.drew)
    (hstep : ∀ i o, ops[i]? = some o → ∀ l w, S l w → l i = false → (∀ e ∈ depsAt ops i, l e = true) → (∀ j, l j = true → ∀ e ∈ depsAt ops j, l e = true) →
      ∀ K : Act → World → Prop, (∀ v w', v = xs.getD i undef → S (updR l i true) w' → K (F.put o.dst v) w') →
        if Region.wanted o (yielded ops F.tmps) = true then Oper.wp P o F w K Q else K (F.put o.dst undef) w)
    (hend : ∀ l w, (∀ i, i < ops.size → l i = true) → S l w → Q .normal F w) :
    (Code.region id ops true).wp P Q a0 w0 := by
  refine region_inv hm hf (fun vs => putAll vs 0 ops.toList a0) (fun _ => rfl) hQ (fun l vs w => (S l w ∧ ∀ j, l j = true → ∀ e ∈ depsAt ops j, l e = true) ∧ ∀ j, l j = true → vs j = xs.getD j undef) ⟨⟨h0, fun j h => by cases h⟩, fun j h => by cases h⟩ ?_ ?_
  · intro i o ho l vs w ⟨⟨hS, hC⟩, hR⟩ hl hall K hK
    have hd := mem_deps ho hall
    have hC' : ∀ j, updR l i true j = true → ∀ e ∈ depsAt ops j, updR l i true e = true := fun j hj e he => by
      by_cases hei : e = i
      · subst hei; rw [updR_same]
      · rw [updR_ne _ _ hei]
        by_cases hji : j = i
        · subst hji; exact hd e he
        · rw [updR_ne _ _ hji] at hj; exact hC j hj e he
    have go := hstep i o ho l w hS hl hd hC
    have hfit := fits_spec hf ho
    simp only [fitsAt, Bool.and_eq_true, Array.all_eq_true_iff_forall_mem, List.all_eq_true] at hfit
    obtain ⟨⟨⟨_, hlook⟩, _⟩, hsel⟩ := hfit
    have same : ∀ t ∈ o.looksAt ops, (putAll vs 0 ops.toList a0).tmps[t]? = F.tmps[t]? := fun t ht => by
      rw [hF, putAll_get, putAll_get]
      have := hlook t ht
      cases hj : owner ops.toList t with
      | none => rfl
      | some j =>
        rw [hj] at this
        simp only [Array.any_eq_true', Bool.and_eq_true, beq_iff_eq] at this
        obtain ⟨e, he, hb, heq⟩ := this
        have h1 := hR e.on (hall e he hb)
        rw [heq] at h1
        simp only [Nat.zero_add, h1]
    have hsel' : ∀ cs d, o.op ≠ .select cs d := fun cs d h => by rw [h] at hsel; simp at hsel
    have hsz : (putAll vs 0 ops.toList a0).tmps.size = F.tmps.size := by rw [hF, putAll_size, putAll_size]
    have hdf : F.defers = (putAll vs 0 ops.toList a0).defers := by rw [hF, putAll_defers, putAll_defers]
    have next : ∀ v w', (v = xs.getD i undef ∧ S (updR l i true) w') → K ((putAll vs 0 ops.toList a0).put o.dst v) w' := fun v w' ⟨hv, hS'⟩ => hK v w' ⟨⟨hS', hC'⟩, fun j hj => by
      by_cases hji : j = i
      · subst hji; rw [updR_same]; exact hv
      · rw [updR_ne _ _ hji] at hj ⊢; exact hR j hj⟩
    rw [wanted_alike same]
    by_cases hw : Region.wanted o (yielded ops F.tmps) = true
    · simp only [hw, if_true] at go ⊢
      exact wp_alike (Post := fun v w' => v = xs.getD i undef ∧ S (updR l i true) w') (exec_alike hsel' same) hsz hdf hQ next (go _ fun v w' hv hS' => ⟨v, rfl, hv, hS'⟩)
    · have hw' : Region.wanted o (yielded ops F.tmps) = false := by simpa using hw
      simp only [hw', Bool.false_eq_true, if_false] at go ⊢
      obtain ⟨v, e, hp⟩ := go (fun a' w' => ∃ v, a' = F.put o.dst v ∧ v = xs.getD i undef ∧ S (updR l i true) w') fun v w' hv hS' => ⟨v, rfl, hv, hS'⟩
      rw [put_alike hsz e]
      exact next v w hp
  · intro l vs w hl ⟨⟨hS, _⟩, hR⟩
    have : putAll vs 0 ops.toList a0 = F := by
      have hx : ∀ (os : List Oper) (k : Nat) (a : Act), (∀ j, j < os.length → vs (k + j) = xs.getD (k + j) undef) → putAll vs k os a = putAll (fun i => xs.getD i undef) k os a := by
        intro os
        induction os with
        | nil => intro k a _; rfl
        | cons o os ih =>
          intro k a h
          have h0 := h 0 (by simp)
          simp only [Nat.add_zero] at h0
          simp only [putAll, h0]
          exact ih (k + 1) _ fun j hj => by
            have := h (j + 1) (by simp; omega)
            rwa [show k + (j + 1) = k + 1 + j by omega] at this
      rw [hF]
      exact hx _ 0 a0 fun j hj => by rw [Nat.zero_add]; exact hR j (hl j (by simpa using hj))
    rw [this]
    exact hend l w hl hS

/-- What the kernel reckons: an operation of phase p waits for all turns ahead of p, and the turn p waits for it; a turn has its own phase. -/
def phaseAt (ops : Array Oper) (T : List Nat) (ph : List (Option Nat)) (i : Nat) : Bool :=
  match ph.getD i none with
  | none => (List.range T.length).all fun q => T[q]? != some i
  | some p => (match T[p]? with | some t => i == t || reach ops ops.size i t | none => true) &&
    ((List.range p).all fun q => match T[q]? with | some t => reach ops ops.size t i | none => false) &&
    ((List.range T.length).all fun q => T[q]? != some i || q == p)
def phases (ops : Array Oper) (T : List Nat) (ph : List (Option Nat)) : Bool :=
  ((List.range ops.size).all fun i => phaseAt ops T ph i) && T.all fun t => Nat.blt t ops.size

def preOf (W : Nat → World → Prop) : Option Nat → World → Prop
  | some p, w => W p w
  | none, _ => True
def postOf (W : Nat → World → Prop) (T : List Nat) (i : Nat) : Option Nat → World → World → Prop
  | some p, _, w' => W (if T[p]? = some i then p + 1 else p) w'
  | none, w, w' => w' = w

theorem region_phase {ops : Array Oper} {id : Nat} {a0 : Act} {w0 : World} (W : Nat → World → Prop) (T : List Nat) (ph : List (Option Nat)) (xs : List Value)
    (F : Act) (hF : F = putAll (fun i => xs.getD i undef) 0 ops.toList a0) (hm : P.follows .mixedOrders = true) (hf : fitsR ops = true) (hp : phases ops T ph = true)
    (hQ : ∀ c (x y : Act) w, x.defers = y.defers → Q (.panic c) x w → Q (.panic c) y w)
    (h0 : W 0 w0.drew)
    (hstep : AllOps (fun i o => ∀ w, preOf W (ph.getD i none) w → ∀ K : Act → World → Prop, (∀ v w', v = xs.getD i undef → postOf W T i (ph.getD i none) w w' → K (F.put o.dst v) w') →
        if Region.wanted o (yielded ops F.tmps) = true then Oper.wp P o F w K Q else K (F.put o.dst undef) w) 0 ops.toList)
    (hend : ∀ w, W T.length w → Q .normal F w) :
    (Code.region id ops true).wp P Q a0 w0 := by
  simp only [phases, Bool.and_eq_true, List.all_eq_true, List.mem_range] at hp
  obtain ⟨hp, hT⟩ := hp
  have hTs : ∀ q t, T[q]? = some t → t < ops.size := fun q t h => by
    have := hT t (List.mem_of_getElem? h)
    simpa using this
  refine region_valsL (fun l w => ∀ p, (∀ q, q < p → ∃ t, T[q]? = some t ∧ l t = true) → (∀ t, T[p]? = some t → l t = false) → W p w) xs F hF hm hf hQ ?_ ?_ ?_
  · intro p hp' _
    cases p with
    | zero => exact h0
    | succ p => obtain ⟨t, _, ht⟩ := hp' 0 (by omega); cases ht
  · intro i o ho l w hS hl hd hC K hK
    have ho' : ops.toList[i]? = some o := by rw [Array.getElem?_toList]; exact ho
    have go := hstep.get ho'
    rw [Nat.zero_add] at go
    have hi : i < ops.size := (Array.getElem?_eq_some_iff.1 ho).1
    have hpi := hp i hi
    cases hph : ph.getD i none with
    | none =>
      rw [hph] at go
      simp only [phaseAt, hph, List.all_eq_true, List.mem_range, bne_iff_ne, ne_eq] at hpi
      refine go w trivial K fun v w' hv hw => hK v w' hv ?_
      have hw' : w' = w := hw
      rw [hw']
      have ne : ∀ q t, T[q]? = some t → t ≠ i := fun q t hq e => by
        subst e
        exact hpi q (List.getElem?_eq_some_iff.1 hq).1 hq
      intro p h1 h2
      refine hS p (fun q hq => ?_) fun t ht => ?_
      · obtain ⟨t, ht, hlt⟩ := h1 q hq
        rw [updR_ne _ _ (ne q t ht)] at hlt
        exact ⟨t, ht, hlt⟩
      · have := h2 t ht
        rwa [updR_ne _ _ (ne p t ht)] at this
    | some p =>
      rw [hph] at go
      simp only [phaseAt, hph, Bool.and_eq_true, List.all_eq_true, List.mem_range] at hpi
      obtain ⟨⟨hp1, hp2⟩, hp3⟩ := hpi
      have up : ∀ {a b : Nat}, (∀ e ∈ depsAt ops b, l e = true) → reach ops ops.size a b = true → l a = true := fun h1 h2 => reach_up hC _ _ _ h1 h2
      have before : ∀ q, q < p → ∃ t, T[q]? = some t ∧ l t = true := fun q hq => by
        have := hp2 q hq
        split at this
        · rename_i t ht; exact ⟨t, ht, up hd this⟩
        · cases this
      have now : ∀ t, T[p]? = some t → l t = false := fun t ht => by
        rw [ht] at hp1
        cases hlt : l t with
        | false => rfl
        | true =>
          simp only [Bool.or_eq_true, beq_iff_eq] at hp1
          rcases hp1 with rfl | h
          · rw [hl] at hlt; cases hlt
          · have := up (hC t hlt) h
            rw [hl] at this; cases this
      refine go w (hS p before now) K fun v w' hv hw => hK v w' hv ?_
      have hw' : W (if T[p]? = some i then p + 1 else p) w' := hw
      intro p' h1 h2
      have at_i : ∀ q, T[q]? = some i → q = p := fun q hq => by
        have := hp3 q (List.getElem?_eq_some_iff.1 hq).1
        simpa [hq] using this
      by_cases hTp : T[p]? = some i
      · rw [if_pos hTp] at hw'
        have h3 : p' = p + 1 := by
          rcases Nat.lt_trichotomy p' (p + 1) with hlt | heq | hgt
          · exfalso
            by_cases hpp : p' = p
            · subst hpp
              have := h2 i hTp
              rw [updR_same] at this; cases this
            · obtain ⟨t, ht, hlt'⟩ := before p' (by omega)
              have := h2 t ht
              by_cases hti : t = i
              · subst hti; rw [updR_same] at this; cases this
              · rw [updR_ne _ _ hti, hlt'] at this; cases this
          · exact heq
          · exfalso
            obtain ⟨t, ht, hlt'⟩ := h1 (p + 1) hgt
            have hti : t ≠ i := fun e => by subst e; have := at_i _ ht; omega
            rw [updR_ne _ _ hti] at hlt'
            have hpt := hp t (hTs _ _ ht)
            cases hq : ph.getD t none with
            | none =>
              simp only [phaseAt, hq, List.all_eq_true, List.mem_range, bne_iff_ne, ne_eq] at hpt
              exact hpt _ (List.getElem?_eq_some_iff.1 ht).1 ht
            | some p2 =>
              simp only [phaseAt, hq, Bool.and_eq_true, List.all_eq_true, List.mem_range] at hpt
              have e2 : p + 1 = p2 := by
                have := hpt.2 (p + 1) (List.getElem?_eq_some_iff.1 ht).1
                simpa [ht] using this
              have := hpt.1.2 p (by omega)
              rw [hTp] at this
              have := up (hC t hlt') this
              rw [hl] at this; cases this
        rw [h3]; exact hw'
      · rw [if_neg hTp] at hw'
        have ne : ∀ q t, T[q]? = some t → t ≠ i := fun q t hq e => by
          subst e
          have := at_i _ hq
          subst this
          exact hTp hq
        have h3 : p' = p := by
          rcases Nat.lt_trichotomy p' p with hlt | heq | hgt
          · exfalso
            obtain ⟨t, ht, hlt'⟩ := before p' hlt
            have := h2 t ht
            rw [updR_ne _ _ (ne _ _ ht), hlt'] at this; cases this
          · exact heq
          · exfalso
            obtain ⟨t, ht, hlt'⟩ := h1 p hgt
            rw [updR_ne _ _ (ne _ _ ht), now t ht] at hlt'; cases hlt'
        rw [h3]; exact hw'
  · intro l w hall hS
    refine hend w (hS _ (fun q hq => ?_) fun t ht => ?_)
    · have ht : T[q]? = some T[q] := List.getElem?_eq_getElem hq
      exact ⟨_, ht, hall _ (hTs _ _ ht)⟩
    · rw [List.getElem?_eq_none (Nat.le_refl _)] at ht; cases ht
end

end Go.Proofs.Ytcgkbpjfbahleaa
namespace Go.Proofs.Ytcgkbpjfbahleaa
open Go.RowKit

def stepOr (b : Bool) (p q : Prop) : Prop := match b with | true => p | false => q
/-- What the kernel reckons: the operation n waits for all others. -/
def lastAll (ops : Array Oper) (n : Nat) : Bool := (ops.size == n + 1) && (List.range n).all fun i => reach ops ops.size i n
theorem region_VS {P : Program} {Q : Exit → Act → World → Prop} {ops : Array Oper} {id : Nat} {a0 : Act} {w0 : World} {ι : Type} (holds : ι → Value → World → Prop) (G E : World → Prop) (n : Nat) (xs : List ι) (d : ι)
    (mono : ∀ p v w w', holds p v w → Below w.heap.size w w' → holds p v w')
    (F : (Nat → Value) → Act) (hF : ∀ vs, F vs = putAll vs 0 ops.toList a0) (hm : P.follows .mixedOrders = true) (hf : fitsR ops = true) (hl : lastAll ops n = true)
    (hQ : ∀ c (x y : Act) w, x.defers = y.defers → Q (.panic c) x w → Q (.panic c) y w)
    (h0 : G w0.drew)
    (hstep : AllOps (fun i o => ∀ vs w, G w → AllD (fun j => holds (xs.getD j d) (vs j) w) (depsOf o) →
      ∀ K : Act → World → Prop, stepOr (Nat.beq i n) (∀ v w', E w' → K ((F vs).put o.dst v) w') (∀ v w', Below w.heap.size w w' → G w' → holds (xs.getD i d) v w' → K ((F vs).put o.dst v) w') →
        if Region.wanted o (yielded ops (F vs).tmps) = true then Oper.wp P o (F vs) w K Q else K ((F vs).put o.dst undef) w) 0 ops.toList)
    (hend : ∀ vs w, E w → Q .normal (F vs) w) :
    (Code.region id ops true).wp P Q a0 w0 := by
  simp only [lastAll, Bool.and_eq_true, beq_iff_eq, List.all_eq_true, List.mem_range] at hl
  obtain ⟨hsz, hlast⟩ := hl
  refine region_inv hm hf F hF hQ (fun l vs w => (∀ j, l j = true → ∀ e ∈ depsAt ops j, l e = true) ∧ (l n = true → E w) ∧ (l n = false → G w ∧ ∀ i, l i = true → holds (xs.getD i d) (vs i) w))
    ⟨(fun _ h => by cases h), (fun h => by cases h), fun _ => ⟨h0, (fun _ h => by cases h)⟩⟩ ?_ (fun l vs w hl hJ => hend vs w (hJ.2.1 (hl n (by omega))))
  intro i o ho l vs w ⟨hC, hE, hG⟩ hli hall K hK
  have hi : i < ops.size := (Array.getElem?_eq_some_iff.1 ho).1
  have hd := mem_deps ho hall
  have hC' : ∀ j, updR l i true j = true → ∀ e ∈ depsAt ops j, updR l i true e = true := fun j hj e he => by
    by_cases hei : e = i
    · subst hei; rw [updR_same]
    · rw [updR_ne _ _ hei]
      by_cases hji : j = i
      · subst hji; exact hd e he
      · rw [updR_ne _ _ hji] at hj; exact hC j hj e he
  have hn : l n = false := by
    cases hln : l n with
    | false => rfl
    | true =>
      by_cases e : i = n
      · subst e; rw [hli] at hln; cases hln
      · have := reach_up hC ops.size i n (hC n hln) (hlast i (by omega))
        rw [hli] at this
        cases this
  obtain ⟨hg, hh⟩ := hG hn
  have ho' : ops.toList[i]? = some o := by rw [Array.getElem?_toList]; exact ho
  have go := hstep.get ho'
  rw [Nat.zero_add] at go
  have hdep : AllD (fun j => holds (xs.getD j d) (vs j) w) (depsOf o) := by
    have hdo : depsAt ops i = depsOf o := by simp [depsAt, ho]
    rw [hdo] at hd
    exact AllD.of (fun j hj => hh j hj) (AllL.mk hd)
  refine go vs w hg hdep K ?_
  by_cases e : i = n
  · subst e
    have hb : Nat.beq i i = true := Nat.beq_refl i
    rw [hb]
    exact fun v w' hw => hK v w' ⟨hC', fun _ => hw, fun h => by rw [updR_same] at h; cases h⟩
  · have hb : Nat.beq i n = false := by
      cases h : Nat.beq i n with
      | false => rfl
      | true => exact absurd (Nat.eq_of_beq_eq_true h) e
    rw [hb]
    refine fun v w' hbl hG' hv => hK v w' ⟨hC', fun h => ?_, fun _ => ⟨hG', fun j hj => ?_⟩⟩
    · rw [updR_ne _ _ (Ne.symm e), hn] at h; cases h
    · by_cases ej : j = i
      · subst ej; rw [updR_same]; exact hv
      · rw [updR_ne _ _ ej] at hj ⊢
        exact mono _ _ _ _ (hh j hj) hbl
end Go.Proofs.Ytcgkbpjfbahleaa
namespace Go.Proofs.Ytcgkbpjfbahleaa
open Go.RowKit

def lastBut (ops : Array Oper) (n : Nat) : Bool := (ops.size == n + 2) && ((List.range n).all fun i => reach ops ops.size i n) && (depsAt ops (n + 1)).contains n
theorem region_VT {P : Program} {Q : Exit → Act → World → Prop} {ops : Array Oper} {id : Nat} {a0 : Act} {w0 : World} {ι : Type} (holds : ι → Value → World → Prop) (G : World → Prop) (E : Value → World → Prop) (n : Nat) (xs : List ι) (d : ι)
    (mono : ∀ p v w w', holds p v w → Below w.heap.size w w' → holds p v w')
    (F : (Nat → Value) → Act) (hF : ∀ vs, F vs = putAll vs 0 ops.toList a0) (hm : P.follows .mixedOrders = true) (hf : fitsR ops = true) (hl : lastBut ops n = true)
    (hQ : ∀ c (x y : Act) w, x.defers = y.defers → Q (.panic c) x w → Q (.panic c) y w)
    (h0 : G w0.drew)
    (hstep : AllOps (fun i o => stepOr (Nat.beq i (n + 1))
      (∀ vs w, E (vs n) w → ∀ K : Act → World → Prop, K ((F vs).put o.dst (vs n)) w → if Region.wanted o (yielded ops (F vs).tmps) = true then Oper.wp P o (F vs) w K Q else K ((F vs).put o.dst undef) w)
      (∀ vs w, G w → AllD (fun j => holds (xs.getD j d) (vs j) w) (depsOf o) →
      ∀ K : Act → World → Prop, stepOr (Nat.beq i n) (∀ v w', E v w' → K ((F vs).put o.dst v) w') (∀ v w', Below w.heap.size w w' → G w' → holds (xs.getD i d) v w' → K ((F vs).put o.dst v) w') →
        if Region.wanted o (yielded ops (F vs).tmps) = true then Oper.wp P o (F vs) w K Q else K ((F vs).put o.dst undef) w)) 0 ops.toList)
    (hend : ∀ vs w, E (vs n) w → vs (n + 1) = vs n → Q .normal (F vs) w) :
    (Code.region id ops true).wp P Q a0 w0 := by
  simp only [lastBut, Bool.and_eq_true, beq_iff_eq, List.all_eq_true, List.mem_range, List.contains_iff_mem] at hl
  obtain ⟨⟨hsz, hlast⟩, hdn⟩ := hl
  refine region_inv hm hf F hF hQ (fun l vs w => (∀ j, l j = true → ∀ e ∈ depsAt ops j, l e = true) ∧ (l n = true → E (vs n) w ∧ (l (n + 1) = true → vs (n + 1) = vs n)) ∧ (l n = false → G w ∧ ∀ i, l i = true → holds (xs.getD i d) (vs i) w))
    ⟨(fun _ h => by cases h), (fun h => by cases h), fun _ => ⟨h0, (fun _ h => by cases h)⟩⟩ ?_ (fun l vs w hl hJ => by
      have h1 := hJ.2.1 (hl n (by omega))
      exact hend vs w h1.1 (h1.2 (hl (n + 1) (by omega))))
  intro i o ho l vs w ⟨hC, hE, hG⟩ hli hall K hK
  have hi : i < ops.size := (Array.getElem?_eq_some_iff.1 ho).1
  have hd := mem_deps ho hall
  have hC' : ∀ j, updR l i true j = true → ∀ e ∈ depsAt ops j, updR l i true e = true := fun j hj e he => by
    by_cases hei : e = i
    · subst hei; rw [updR_same]
    · rw [updR_ne _ _ hei]
      by_cases hji : j = i
      · subst hji; exact hd e he
      · rw [updR_ne _ _ hji] at hj; exact hC j hj e he
  have ho' : ops.toList[i]? = some o := by rw [Array.getElem?_toList]; exact ho
  have go := hstep.get ho'
  rw [Nat.zero_add] at go
  by_cases e1 : i = n + 1
  · subst e1
    have hb : Nat.beq (n + 1) (n + 1) = true := Nat.beq_refl _
    rw [hb] at go
    have hln := hd n hdn
    obtain ⟨hEn, _⟩ := hE hln
    refine go vs w hEn K (hK _ _ ⟨hC', fun _ => ?_, fun h => ?_⟩)
    · rw [updR_ne _ _ (by omega : n ≠ n + 1), updR_same]
      exact ⟨hEn, fun _ => updR_same _ _ _⟩
    · rw [updR_ne _ _ (by omega : n ≠ n + 1), hln] at h
      cases h
  · have hb1 : Nat.beq i (n + 1) = false := by
      cases h : Nat.beq i (n + 1) with
      | false => rfl
      | true => exact absurd (Nat.eq_of_beq_eq_true h) e1
    rw [hb1] at go
    have hn : l n = false := by
      cases hln : l n with
      | false => rfl
      | true =>
        by_cases e : i = n
        · subst e; rw [hli] at hln; cases hln
        · have := reach_up hC ops.size i n (hC n hln) (hlast i (by omega))
          rw [hli] at this
          cases this
    have hn1 : l (n + 1) = false := by
      cases h : l (n + 1) with
      | false => rfl
      | true => have := hC (n + 1) h n hdn; rw [hn] at this; cases this
    obtain ⟨hg, hh⟩ := hG hn
    have hdep : AllD (fun j => holds (xs.getD j d) (vs j) w) (depsOf o) := by
      have hdo : depsAt ops i = depsOf o := by simp [depsAt, ho]
      rw [hdo] at hd
      exact AllD.of (fun j hj => hh j hj) (AllL.mk hd)
    refine go vs w hg hdep K ?_
    by_cases e : i = n
    · subst e
      have hb : Nat.beq i i = true := Nat.beq_refl i
      rw [hb]
      exact fun v w' hw => hK v w' ⟨hC', fun _ => ⟨by rw [updR_same]; exact hw, fun h => by rw [updR_ne _ _ (by omega : i + 1 ≠ i), hn1] at h; cases h⟩, fun h => by rw [updR_same] at h; cases h⟩
    · have hb : Nat.beq i n = false := by
        cases h : Nat.beq i n with
        | false => rfl
        | true => exact absurd (Nat.eq_of_beq_eq_true h) e
      rw [hb]
      refine fun v w' hbl hG' hv => hK v w' ⟨hC', fun h => ?_, fun _ => ⟨hG', fun j hj => ?_⟩⟩
      · rw [updR_ne _ _ (Ne.symm e), hn] at h; cases h
      · by_cases ej : j = i
        · subst ej; rw [updR_same]; exact hv
        · rw [updR_ne _ _ ej] at hj ⊢
          exact mono _ _ _ _ (hh j hj) hbl
end Go.Proofs.Ytcgkbpjfbahleaa
namespace Go.Proofs.Ytcgkbpjfbahleaa
open Go.RowKit

theorem Sr.tn {α : Type} {enc : α → List Value} {k K cap : Nat} {A : Option Addr} {l : List α} {P : Nat → Prop} {w w' : World} (hb : Sr enc k w K A cap l) (h : Tn P w w') (hn : 0 < l.length → ∀ ad : Addr, A = some ad → ¬ P ad.block) : Sr enc k w' K A cap l :=
  ⟨hb.le, hb.max, hb.nil, fun hl => by
    obtain ⟨ad, e, hk, hc⟩ := hb.at_ hl
    refine ⟨ad, e, hk, fun i x hi j u hu => ?_⟩
    have := hc i x hi j u hu
    have hbl : (ad.add (i * k + j)).block = ad.block := el_block_of_add ad _
    generalize ad.add (i * k + j) = q at *
    exact h.cell this (by rw [hbl]; exact hn hl ad e)⟩
theorem So.tn {α : Type} {enc : α → List Value} {k : Nat} {P : Nat → Prop} {w w' : World} {K : Nat} {T : TypeId} {v : Value} {l : List α} (h : So enc k w K T v l) (t : Tn P w w') (hn : ∀ g, v.ownBlock = some g → ¬ P g) : So enc k w' K T v l := by
  have hlt := h.lt
  rcases h.2 with ⟨he, h0⟩ | ⟨g, cap', cur, he, hb, hg, hrest⟩
  · exact ⟨h.1, .inl ⟨he, h0⟩⟩
  · subst he
    exact ⟨h.1, .inr ⟨g, cap', cur, rfl, hb, (t.block g (hlt g rfl).2 (hn g rfl)).trans hg, hrest⟩⟩
theorem flat_set1 {α : Type} {enc : α → List Value} {k : Nat} (henc : ∀ x, (enc x).length = k) {j : Nat} (hj : j < k) {u : Value} : ∀ (l : List α) (i : Nat) (x y : α), l[i]? = some x → enc y = (enc x).set j u → (l.flatMap enc).set (i * k + j) u = (l.set i y).flatMap enc
  | [], i, x, y, h, _ => by simp at h
  | z :: l, 0, x, y, h, he => by
    simp at h
    subst h
    rw [List.flatMap_cons, Nat.zero_mul, Nat.zero_add, List.set_append_left _ _ (by rw [henc]; exact hj), List.set_cons_zero, List.flatMap_cons, he]
  | z :: l, i + 1, x, y, h, he => by
    have ih := flat_set1 henc hj l i x y (by simpa using h) he
    have e : (i + 1) * k + j - (enc z).length = i * k + j := by rw [henc, Nat.add_mul]; omega
    rw [List.flatMap_cons, List.set_append_right _ _ (by rw [henc, Nat.add_mul]; omega), e, ih, List.set_cons_succ, List.flatMap_cons]
theorem So.set1 {α : Type} {enc : α → List Value} {k : Nat} (henc : ∀ x, (enc x).length = k) {w : World} {K : Nat} {T : TypeId} {g n cap : Nat} {l : List α} (h : So enc k w K T (.slice (some ⟨g, 0, none⟩) n cap) l) {i j : Nat} (hj : j < k) {u : Value} {x y : α} (hx : l[i]? = some x) (he : enc y = (enc x).set j u) :
    So enc k (w.setCell ⟨g, i * k + j, none⟩ u) K T (.slice (some ⟨g, 0, none⟩) n cap) (l.set i y) := by
  obtain ⟨A', c', e⟩ := h.form
  injection e with _ e _
  subst e
  have h1 := (World.ownsRow.stored h (i * k + j) u).1
  unfold So
  rw [List.length_set, ← flat_set1 henc hj l i x y hx he]
  exact h1
end Go.Proofs.Ytcgkbpjfbahleaa
