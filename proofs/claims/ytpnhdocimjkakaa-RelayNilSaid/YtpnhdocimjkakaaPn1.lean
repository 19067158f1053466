/- The contracts of the stamp functions that this seat has. -/
import Derived.Test.YtpnhdocimjkakaaPn0
import Derived.Test.YtpnhdocimjkakaaProg
import Derived.Maps.AppendAt
import Derived.OwnWalk
import Derived.Laws.OwnMore
import Derived.Laws.Rows
import Derived.Deep.AppendLies
import Derived.Lib.BitFns
import Derived.Test.YtpnhdocimjkakaaRows
namespace Go.Proofs.Ytpnhdocimjkakaa
open Go.RowKit

theorem el_block_of_add (a : Addr) (n : Nat) : (a.add n).block = a.block := by unfold Addr.add; split <;> rfl
theorem el_add_of_add (a : Addr) (i j : Nat) : (a.add i).add j = a.add (i + j) := by
  unfold Addr.add
  by_cases hi : i = 0 <;> by_cases hj : j = 0 <;> simp [hi, hj, Nat.add_assoc]
theorem el_add_pos (q : Addr) (j : Nat) (hj : 0 < j) : q.add j = ⟨q.block, q.off + j, none⟩ := by unfold Addr.add; rw [if_neg (by omega)]
theorem el_add_zero (q : Addr) : q.add 0 = q := by unfold Addr.add; rw [if_pos rfl]

section
variable {α : Type} {enc : α → List Value} {k : Nat}

/-- The slice at A with capacity cap reads as the list l, each element k cells, in memory below block K. -/
structure Sr (enc : α → List Value) (k : Nat) (w : World) (K : Nat) (A : Option Addr) (cap : Nat) (l : List α) : Prop where
  le : l.length ≤ cap
  max : cap ≤ maxLen
  nil : A = none → cap = 0
  at_ : 0 < l.length → ∃ ad : Addr, A = some ad ∧ ad.block < K ∧ ∀ i x, l[i]? = some x → ∀ j u, (enc x)[j]? = some u → w.cell? (ad.add (i * k + j)) = some u
/-- v is a slice of the call's own (blocks from K on, elements of type T) that holds the list l. -/
def So (enc : α → List Value) (k : Nat) (w : World) (K : Nat) (T : TypeId) (v : Value) (l : List α) : Prop := w.ownsRow K T k v l.length (l.flatMap enc)

variable {w w' : World} {K K' cap : Nat} {A : Option Addr} {l : List α}
theorem Sr.none_ (w : World) (K : Nat) : Sr enc k w K none 0 ([] : List α) := ⟨Nat.le_refl _, by unfold maxLen; omega, fun _ => rfl, fun h => absurd h (by simp)⟩
theorem Sr.keep (h : Sr enc k w K A cap l) (hk : ∀ p : Addr, p.block < K → w'.cell? p = w.cell? p) : Sr enc k w' K A cap l :=
  ⟨h.le, h.max, h.nil, fun hn => by
    obtain ⟨ad, e, hb, hc⟩ := h.at_ hn
    exact ⟨ad, e, hb, fun i x hi j u hu => (hk _ (by rw [el_block_of_add]; exact hb)).trans (hc i x hi j u hu)⟩⟩
theorem Sr.below (h : Sr enc k w K A cap l) (hb : Below K w w') : Sr enc k w' K A cap l := h.keep fun _ hp => hb.cell hp
theorem Sr.more (h : Sr enc k w K A cap l) (hK : K ≤ K') : Sr enc k w K' A cap l :=
  ⟨h.le, h.max, h.nil, fun hn => by
    obtain ⟨ad, e, hb, hc⟩ := h.at_ hn
    exact ⟨ad, e, by omega, hc⟩⟩
theorem Sr.drewN (h : Sr enc k w K A cap l) (n : Nat) : Sr enc k (w.drewN n) K A cap l := h.keep fun _ _ => rfl
theorem Sr.drew (h : Sr enc k w K A cap l) : Sr enc k w.drew K A cap l := h.keep fun _ _ => rfl
theorem Sr.alloc (h : Sr enc k w K A cap l) (hK : K ≤ w.heap.size) (o : Obj) : Sr enc k (w.alloc o) K A cap l := h.keep fun _ hp => World.cell?_alloc_lt _ _ _ (by omega)
theorem Sr.get (h : Sr enc k w K A cap l) {i : Nat} (hi : i < l.length) : ∃ ad : Addr, A = some ad ∧ ad.block < K ∧ ∀ j u, (enc l[i])[j]? = some u → w.cell? (ad.add (i * k + j)) = some u := by
  obtain ⟨ad, e, hb, hc⟩ := h.at_ (by omega)
  exact ⟨ad, e, hb, fun j u hu => hc i l[i] (List.getElem?_eq_getElem hi) j u hu⟩
/-- The element's cells as the walk spells them. -/
theorem Sr.get2 (h : Sr enc k w K A cap l) {i : Nat} (hi : i < l.length) : ∃ ad : Addr, A = some ad ∧ ad.block < K ∧ (∀ u, (enc l[i])[0]? = some u → w.cell? (ad.add (i * k)) = some u) ∧
    ∀ j u, 0 < j → (enc l[i])[j]? = some u → w.cell? ⟨(ad.add (i * k)).block, (ad.add (i * k)).off + j, none⟩ = some u := by
  obtain ⟨ad, e, hb, hc⟩ := h.get hi
  refine ⟨ad, e, hb, fun u hu => hc 0 u hu, fun j u hj hu => ?_⟩
  rw [← el_add_pos _ _ hj, el_add_of_add]
  exact hc j u hu
theorem Sr.to (h : Sr enc k w K A cap l) {j : Nat} (hj : j ≤ l.length) : Sr enc k w K A cap (l.take j) := by
  have hle := h.le
  have hlen : (l.take j).length = j := by simp; omega
  refine ⟨by omega, h.max, h.nil, fun hn => ?_⟩
  obtain ⟨ad, e, hb, hc⟩ := h.at_ (by omega)
  refine ⟨ad, e, hb, fun i x hi => hc i x ?_⟩
  rw [List.getElem?_take] at hi
  split at hi
  · exact hi
  · cases hi

variable {T : TypeId} {v : Value}
theorem So.empty (enc : α → List Value) (k : Nat) (w : World) (K : Nat) (T : TypeId) : So enc k w K T (.slice none 0 0) [] := World.ownsRow_nil w K _ _
theorem So.keep (h : So enc k w K T v l) {row : Option Nat} (hg : w.grownBy w' row) (hne : v.ownBlock = none ∨ v.ownBlock ≠ row) : So enc k w' K T v l := World.ownsRow.kept h hg hne
theorem So.below (h : So enc k w K T v l) (hb : Below w.heap.size w w') : So enc k w' K T v l :=
  World.ownsRow.kept (row := none) h ⟨hb.os, hb.tape, hb.output, hb.size, fun k hk _ => hb.block k hk⟩ (by cases h' : v.ownBlock <;> simp)
theorem So.alloc (h : So enc k w K T v l) (o : Obj) : So enc k (w.alloc o) K T v l := World.ownsRow.alloc h o
theorem So.drew (h : So enc k w K T v l) : So enc k w.drew K T v l := h
theorem So.drewN (h : So enc k w K T v l) (n : Nat) : So enc k (w.drewN n) K T v l := h
theorem So.lt (h : So enc k w K T v l) : ∀ g, v.ownBlock = some g → K ≤ g ∧ g < w.heap.size := World.ownsRow.lt h
theorem So.more (h : So enc k w K T v l) (hK : K' ≤ K) : So enc k w K' T v l := by
  rcases h.2 with ⟨he, h0⟩ | ⟨g, cap', cur, he, hb, hg⟩
  · exact ⟨h.1, .inl ⟨he, h0⟩⟩
  · exact ⟨h.1, .inr ⟨g, cap', cur, he, by omega, hg⟩⟩
theorem flatMap_get (henc : ∀ x, (enc x).length = k) : ∀ (l : List α) (i : Nat) (x : α), l[i]? = some x → ∀ j u, (enc x)[j]? = some u → (l.flatMap enc)[i * k + j]? = some u
  | [], i, x, h, _, _, _ => by simp at h
  | y :: l, 0, x, h, j, u, hu => by
    simp at h
    subst h
    rw [List.flatMap_cons, Nat.zero_mul, Nat.zero_add, List.getElem?_append_left]
    · exact hu
    · exact (List.getElem?_eq_some_iff.1 hu).1
  | y :: l, i + 1, x, h, j, u, hu => by
    rw [List.flatMap_cons, List.getElem?_append_right (by rw [henc, Nat.add_mul]; omega), henc]
    have : (i + 1) * k + j - k = i * k + j := by rw [Nat.add_mul]; omega
    rw [this]
    exact flatMap_get henc l i x (by simpa using h) j u hu
theorem So.sr (henc : ∀ x, (enc x).length = k) {n : Nat} (h : So enc k w K T (.slice A n cap) l) : Sr enc k w w.heap.size A cap l ∧ l.length = n := by
  rcases h.2 with ⟨he, h0⟩ | ⟨g, cap', cur, he, hb, hg, hn, hc, hs, ht⟩
  · injection he with h1 h2 h3
    subst h1 h2 h3
    exact ⟨⟨by omega, Nat.zero_le _, fun _ => rfl, fun h => absurd h (by omega)⟩, h0⟩
  · injection he with h1 h2 h3
    subst h1 h3
    refine ⟨⟨hn, hc, (fun h => by cases h), fun hl => ⟨_, rfl, ?_, fun i x hi j u hu => ?_⟩⟩, h2.symm⟩
    · rcases Nat.lt_or_ge g w.heap.size with hlt | hge
      · exact hlt
      · rw [Array.getElem?_eq_none hge] at hg; cases hg
    · exact h.cells (g := g) rfl _ _ (flatMap_get henc l i x hi j u hu)
theorem So.form (h : So enc k w K T v l) : ∃ A' cap', v = .slice A' l.length cap' := by
  rcases h.2 with ⟨he, h0⟩ | ⟨g, cap', cur, he, _⟩
  · exact ⟨none, 0, by rw [he, h0]⟩
  · exact ⟨_, _, he⟩

variable {P : Program}
/-- append of one element. -/
theorem wpList_pushE {T ST : TypeId} (hund : P.underlying ST = some (.slice T)) {z : Value} {bytes : Nat} (hinfo : (P.info? T).map (fun i => (i.zero, i.size, i.bytes)) = some (some z, k, bytes)) (hz : z.cells.size = k) (hk : 0 < k)
    {ops : Array Oper} {rest : List Oper} {o : Oper} {a : Act} {Q : Exit → Act → World → Prop} (w : World) (hgd : o.guard = none) (s x : Operand)
    (ho : o.op = .call { callee := .builtin .append, args := #[s, x], argTypes := #[ST, ST] }) (K : Nat) (v : Value) (l : List α) (hs : a.eval s = v) (hown : So enc k w K T v l)
    (e : α) (cs : Array Value) (hcs : cs.toList = enc e) (he : (enc e).length = k) (h1 : ∀ u ∈ enc e, u.oneCell' = true) (TB : TypeId) (H : Nat) (hH : w.heap.size = H) (hxx : a.eval x = .slice (some ⟨H, 0, none⟩) 1 1)
    (N : Nat) (hN : l.length + 1 = N) (hm : N ≤ maxLen) (hsz : N * bytes ≤ 140737488355328) (hK : K ≤ H)
    (h : ∀ A' cap' w', So enc k w' K T (.slice A' N cap') (l ++ [e]) → w.grownBy w' v.ownBlock → ((Value.slice A' N cap').ownBlock = v.ownBlock ∨ ∃ g, (Value.slice A' N cap').ownBlock = some g ∧ w.heap.size ≤ g) → wpList P ops Q rest (a.put o.dst (.slice A' N cap')) w') :
    wpList P ops Q (o :: rest) a (w.alloc (.cells cs TB)) := by
  subst hH hN
  obtain ⟨i0, hi, hz0, hz1, hz2⟩ := info_parts hinfo
  refine wpList_append_lies _ hgd s x ST ho K T i0 z k bytes hund hi hz0 hz1 hz2 hz hk v l.length _ hs (World.ownsRow.alloc hown _) ⟨w.heap.size, 0, none⟩ 1 1 (enc e) hxx (by rw [he]; omega)
    (by have := World.news_of_block (heap_alloc_new w (.cells cs TB)); rwa [hcs] at this) h1 (by omega) hm hsz (by simp; omega) _ rfl ?_
  intro g cap w1 hown1 hgrow1 hat1 hlt1
  have hg : w.grownBy w1 v.ownBlock := ⟨hgrow1.os, hgrow1.tape, hgrow1.output, Nat.le_trans (by simp) hgrow1.size, fun i hi hne => (hgrow1.block i (by simp; omega) hne).trans (Below.heap_alloc w _ i hi)⟩
  refine h _ _ w1 (by unfold So; rw [List.length_append, List.flatMap_append]; simpa using hown1) hg ?_
  rcases hat1 with h1 | h1
  · exact .inl (by simpa [Value.ownBlock] using h1.symm)
  · exact .inr ⟨g, rfl, by rw [h1]; simp⟩
end
end Go.Proofs.Ytpnhdocimjkakaa
namespace Go.Proofs.Ytpnhdocimjkakaa

/-- Each number stands behind the one ahead of it, and is below 8. -/
def riseB : Int → List Int → Bool
  | _, [] => true
  | p, n :: l => decide (p < n) && decide (n < 8) && riseB n l
def memsB (l : List Int) : Bool := riseB (-1) l && decide (0 < l.length)
def hasB (l : List Int) (n : Int) : Bool := decide (n ∈ l)
def rightV (e p : Int) (l : List Int) : Bool := decide (1 ≤ e) && decide (e ≤ 4611686018427387904) && memsB l && hasB l p
/-- A control: the epoch, the primary, the members, the safe nodes. -/
structure Vc where
  e : Int
  p : Int
  ms : List Int
  sf : List Int
def chV (c : Vc) (p : Int) (ms : List Int) : Int × Vc :=
  if rightV 1 p ms = false then (1, c) else if hasB c.sf p = false then (111, c) else if 4611686018427387904 ≤ c.e then (20, c)
  else (0, ⟨c.e + 1, p, ms, c.sf.filter fun n => hasB ms n⟩)
def acV (c : Vc) (n : Int) : Int × Vc :=
  if n < 1 ∨ c.e < n then (1, c) else if n = c.e then (0, ⟨c.e, c.p, c.ms, c.ms⟩) else (0, c)
/-- What holds of each control that was made. -/
structure VcOk (c : Vc) : Prop where
  e1 : 1 ≤ c.e
  e2 : c.e ≤ 4611686018427387904
  ms : memsB c.ms = true
  pm : c.p ∈ c.ms
  ps : c.p ∈ c.sf
  sub : ∀ n ∈ c.sf, n ∈ c.ms
  len : c.sf.length ≤ 8

theorem riseB_snoc (x : Int) : ∀ (p : Int) (l : List Int), riseB p (l ++ [x]) = (riseB p l && (decide (l.getLastD p < x) && decide (x < 8)))
  | p, [] => by simp [riseB]
  | p, n :: l => by
    rw [List.cons_append, riseB, riseB_snoc x n l, riseB, List.getLastD_cons]
    cases decide (p < n) <;> cases decide (n < 8) <;> simp
theorem riseB_take {p : Int} {l : List Int} (h : riseB p l = true) (i : Nat) : riseB p (l.take i) = true := by
  induction l generalizing p i with
  | nil => simp [riseB]
  | cons n l ih =>
    cases i with
    | zero => rfl
    | succ i =>
      rw [riseB, Bool.and_eq_true] at h
      rw [List.take_succ_cons, riseB, h.1, ih h.2 i]; rfl
theorem riseB_all : ∀ {p : Int} {l : List Int}, riseB p l = true → ∀ n ∈ l, p < n ∧ n < 8
  | p, [], _, n, hn => by cases hn
  | p, m :: l, h, n, hn => by
    simp only [riseB, Bool.and_eq_true, decide_eq_true_eq] at h
    rcases List.mem_cons.1 hn with rfl | hn
    · exact h.1
    · have := riseB_all h.2 n hn; omega
theorem riseB_len : ∀ {p : Int} {l : List Int}, -1 ≤ p → riseB p l = true → (l.length : Int) + p ≤ 7 ∨ l = []
  | _, [], _, _ => .inr rfl
  | p, m :: l, hp, h => by
    simp only [riseB, Bool.and_eq_true, decide_eq_true_eq] at h
    left
    rcases riseB_len (l := l) (p := m) (by omega) h.2 with h2 | h2
    · simp only [List.length_cons]; omega
    · subst h2; simp; omega
theorem mems_len {l : List Int} (h : memsB l = true) : 1 ≤ l.length ∧ l.length ≤ 8 := by
  unfold memsB at h
  rw [Bool.and_eq_true, decide_eq_true_eq] at h
  rcases riseB_len (by omega) h.1 with h2 | h2
  · omega
  · rw [h2] at h; simp at h
theorem mems_all {l : List Int} (h : memsB l = true) : ∀ n ∈ l, 0 ≤ n ∧ n < 8 := fun n hn => by
  unfold memsB at h
  rw [Bool.and_eq_true] at h
  have := riseB_all h.1 n hn
  omega
theorem rightV_iff {e p : Int} {l : List Int} : rightV e p l = true ↔ 1 ≤ e ∧ e ≤ 4611686018427387904 ∧ memsB l = true ∧ p ∈ l := by
  simp [rightV, hasB, and_assoc]
theorem ch_ok {c : Vc} (h : VcOk c) (p : Int) (ms : List Int) : VcOk (chV c p ms).2 := by
  unfold chV
  by_cases h1 : rightV 1 p ms = false
  · rw [if_pos h1]; exact h
  rw [if_neg h1]
  by_cases h2 : hasB c.sf p = false
  · rw [if_pos h2]; exact h
  rw [if_neg h2]
  by_cases h3 : 4611686018427387904 ≤ c.e
  · rw [if_pos h3]; exact h
  rw [if_neg h3]
  have r := rightV_iff.1 (by simpa using h1)
  have hp : p ∈ c.sf := by simpa [hasB] using h2
  refine ⟨by have := h.e1; simp only; omega, by simp only; omega, r.2.2.1, r.2.2.2, ?_, fun n hn => ?_, ?_⟩
  · simp only [List.mem_filter]; exact ⟨hp, by simpa [hasB] using r.2.2.2⟩
  · simp only [List.mem_filter] at hn; simpa [hasB] using hn.2
  · exact Nat.le_trans (List.length_filter_le _ _) h.len
theorem ac_ok {c : Vc} (h : VcOk c) (n : Int) : VcOk (acV c n).2 := by
  unfold acV
  split
  · exact h
  · split
    · exact ⟨h.e1, h.e2, h.ms, h.pm, h.pm, fun _ h => h, (mems_len h.ms).2⟩
    · exact h
theorem new_ok {m : Int} {l : List Int} (h : memsB (m :: l) = true) : VcOk ⟨1, m, m :: l, m :: l⟩ :=
  ⟨by simp, by simp, h, List.mem_cons_self, List.mem_cons_self, fun _ h => h, (mems_len h).2⟩
/-- Whoever is safe behind a change was safe. -/
theorem ch_sub {c : Vc} {p : Int} {ms : List Int} : ∀ n ∈ (chV c p ms).2.sf, n ∈ c.sf := by
  unfold chV
  intro n hn
  split at hn
  · exact hn
  split at hn
  · exact hn
  split at hn
  · exact hn
  simp only [List.mem_filter] at hn
  exact hn.1
end Go.Proofs.Ytpnhdocimjkakaa
namespace Go.Proofs.Ytpnhdocimjkakaa

theorem bitLenAux_le : ∀ (f x : Nat), Lib.bitLenAux f x ≤ f
  | 0, _ => Nat.le_refl _
  | f + 1, x => by
    unfold Lib.bitLenAux
    split
    · omega
    · have := bitLenAux_le f (x / 2); omega
theorem bitLen_le (x : Nat) : Lib.bitLen x ≤ 64 := bitLenAux_le 64 x
/-- How many bytes stand behind a number's first one. -/
def kN (n : Nat) : Nat := if n ≤ 247 then 0 else (Lib.bitLen n + 7) / 8
theorem kN_le (n : Nat) : kN n ≤ 8 := by
  have := bitLen_le n
  unfold kN; split <;> omega
theorem kN_low {n : Nat} (h : n ≤ 247) : kN n = 0 := if_pos h
theorem kN_high {n : Nat} (h : 247 < n) : kN n = (Lib.bitLen n + 7) / 8 := if_neg (by omega)
theorem kN_pos {n : Nat} (h : 247 < n) (h2 : n < 18446744073709551616) : 1 ≤ kN n := by
  rw [kN_high h]
  have := Lib.bitLen_half n (by omega) h2
  omega
def numB (n : Nat) : List UInt8 := if n ≤ 247 then [UInt8.ofNat n] else UInt8.ofNat (247 + kN n) :: beN n (kN n)
theorem numB_low {n : Nat} (h : n ≤ 247) : numB n = [UInt8.ofNat n] := if_pos h
theorem numB_high {n : Nat} (h : 247 < n) : numB n = [UInt8.ofNat (247 + kN n)] ++ beN n (kN n) := if_neg (by omega)
theorem numB_length (n : Nat) : (numB n).length = 1 + kN n := by
  unfold numB
  by_cases h : n ≤ 247
  · rw [if_pos h, kN_low h]; rfl
  · rw [if_neg h]; simp [beN_length]; omega
end Go.Proofs.Ytpnhdocimjkakaa
namespace Go.Proofs.Ytpnhdocimjkakaa
open Go.RowKit

abbrev stv (a b c : Int) : Value := .agg #[.int .i64 a, .int .u32 b, .int .u32 c]

def rightB (a : Int) : Bool := decide (0 ≤ a ∧ a ≤ 4611686018427387904)

def cmpS (a b c x y z : Int) : Int := if a < x then -1 else if x < a then 1 else if b < y then -1 else if y < b then 1 else if c < z then -1 else if z < c then 1 else 0

end Go.Proofs.Ytpnhdocimjkakaa
