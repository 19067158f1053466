/- The contracts of the stamp functions that a chain calls. -/
import Derived.Test.YtcfbcidakddhfaaGreatDoorPr1
import Derived.Test.YtcfbcidakddhfaaGreatDoorProg
import Derived.Maps.AppendAt
import Derived.OwnWalk
import Derived.Laws.OwnMore
import Derived.Laws.Rows
import Derived.Deep.AppendLies
import Derived.Test.YtcfbcidakddhfaaGreatDoorRows
import Derived.LoopTactic
namespace Go.Proofs.YtcfbcidakddhfaaGreatDoor
open Go.RowKit

theorem el_block_of_add (a : Addr) (n : Nat) : (a.add n).block = a.block := by unfold Addr.add; split <;> rfl
theorem el_add_of_add (a : Addr) (i j : Nat) : (a.add i).add j = a.add (i + j) := by
  unfold Addr.add
  by_cases hi : i = 0 <;> by_cases hj : j = 0 <;> simp [hi, hj, Nat.add_assoc]
theorem el_add_pos (q : Addr) (j : Nat) (hj : 0 < j) : q.add j = ⟨q.block, q.off + j, none⟩ := by unfold Addr.add; rw [if_neg (by omega)]
theorem el_add_zero (q : Addr) : q.add 0 = q := by unfold Addr.add; rw [if_pos rfl]

section
variable {α : Type} {enc : α → List Value} {k : Nat}

/-- The slice at A with capacity cap reads as the list l, each element k cells, in memory below block K. -/
structure Sr (enc : α → List Value) (k : Nat) (w : World) (K : Nat) (A : Option Addr) (cap : Nat) (l : List α) : Prop where
  le : l.length ≤ cap
  max : cap ≤ maxLen
  nil : A = none → cap = 0
  at_ : 0 < l.length → ∃ ad : Addr, A = some ad ∧ ad.block < K ∧ ∀ i x, l[i]? = some x → ∀ j u, (enc x)[j]? = some u → w.cell? (ad.add (i * k + j)) = some u
/-- v is a slice of the call's own (blocks from K on, elements of type T) that holds the list l. -/
def So (enc : α → List Value) (k : Nat) (w : World) (K : Nat) (T : TypeId) (v : Value) (l : List α) : Prop := w.ownsRow K T k v l.length (l.flatMap enc)

variable {w w' : World} {K K' cap : Nat} {A : Option Addr} {l : List α}
theorem Sr.none_ (w : World) (K : Nat) : Sr enc k w K none 0 ([] : List α) := ⟨Nat.le_refl _, by unfold maxLen; omega, fun _ => rfl, fun h => absurd h (by simp)⟩
theorem Sr.keep (h : Sr enc k w K A cap l) (hk : ∀ p : Addr, p.block < K → w'.cell? p = w.cell? p) : Sr enc k w' K A cap l :=
  ⟨h.le, h.max, h.nil, fun hn => by
    obtain ⟨ad, e, hb, hc⟩ := h.at_ hn
    exact ⟨ad, e, hb, fun i x hi j u hu => (hk _ (by rw [el_block_of_add]; exact hb)).trans (hc i x hi j u hu)⟩⟩
theorem Sr.below (h : Sr enc k w K A cap l) (hb : Below K w w') : Sr enc k w' K A cap l := h.keep fun _ hp => hb.cell hp
theorem Sr.more (h : Sr enc k w K A cap l) (hK : K ≤ K') : Sr enc k w K' A cap l :=
  ⟨h.le, h.max, h.nil, fun hn => by
    obtain ⟨ad, e, hb, hc⟩ := h.at_ hn
    exact ⟨ad, e, by omega, hc⟩⟩
theorem Sr.drewN (h : Sr enc k w K A cap l) (n : Nat) : Sr enc k (w.drewN n) K A cap l := h.keep fun _ _ => rfl
theorem Sr.drew (h : Sr enc k w K A cap l) : Sr enc k w.drew K A cap l := h.keep fun _ _ => rfl
theorem Sr.alloc (h : Sr enc k w K A cap l) (hK : K ≤ w.heap.size) (o : Obj) : Sr enc k (w.alloc o) K A cap l := h.keep fun _ hp => World.cell?_alloc_lt _ _ _ (by omega)
theorem Sr.get (h : Sr enc k w K A cap l) {i : Nat} (hi : i < l.length) : ∃ ad : Addr, A = some ad ∧ ad.block < K ∧ ∀ j u, (enc l[i])[j]? = some u → w.cell? (ad.add (i * k + j)) = some u := by
  obtain ⟨ad, e, hb, hc⟩ := h.at_ (by omega)
  exact ⟨ad, e, hb, fun j u hu => hc i l[i] (List.getElem?_eq_getElem hi) j u hu⟩
/-- The element's cells as the walk spells them. -/
theorem Sr.get2 (h : Sr enc k w K A cap l) {i : Nat} (hi : i < l.length) : ∃ ad : Addr, A = some ad ∧ ad.block < K ∧ (∀ u, (enc l[i])[0]? = some u → w.cell? (ad.add (i * k)) = some u) ∧
    ∀ j u, 0 < j → (enc l[i])[j]? = some u → w.cell? ⟨(ad.add (i * k)).block, (ad.add (i * k)).off + j, none⟩ = some u := by
  obtain ⟨ad, e, hb, hc⟩ := h.get hi
  refine ⟨ad, e, hb, fun u hu => hc 0 u hu, fun j u hj hu => ?_⟩
  rw [← el_add_pos _ _ hj, el_add_of_add]
  exact hc j u hu
theorem Sr.to (h : Sr enc k w K A cap l) {j : Nat} (hj : j ≤ l.length) : Sr enc k w K A cap (l.take j) := by
  have hle := h.le
  have hlen : (l.take j).length = j := by simp; omega
  refine ⟨by omega, h.max, h.nil, fun hn => ?_⟩
  obtain ⟨ad, e, hb, hc⟩ := h.at_ (by omega)
  refine ⟨ad, e, hb, fun i x hi => hc i x ?_⟩
  rw [List.getElem?_take] at hi
  split at hi
  · exact hi
  · cases hi

variable {T : TypeId} {v : Value}
theorem So.empty (enc : α → List Value) (k : Nat) (w : World) (K : Nat) (T : TypeId) : So enc k w K T (.slice none 0 0) [] := World.ownsRow_nil w K _ _
theorem So.keep (h : So enc k w K T v l) {row : Option Nat} (hg : w.grownBy w' row) (hne : v.ownBlock = none ∨ v.ownBlock ≠ row) : So enc k w' K T v l := World.ownsRow.kept h hg hne
theorem So.below (h : So enc k w K T v l) (hb : Below w.heap.size w w') : So enc k w' K T v l :=
  World.ownsRow.kept (row := none) h ⟨hb.os, hb.tape, hb.output, hb.size, fun k hk _ => hb.block k hk⟩ (by cases h' : v.ownBlock <;> simp)
theorem So.alloc (h : So enc k w K T v l) (o : Obj) : So enc k (w.alloc o) K T v l := World.ownsRow.alloc h o
theorem So.drew (h : So enc k w K T v l) : So enc k w.drew K T v l := h
theorem So.drewN (h : So enc k w K T v l) (n : Nat) : So enc k (w.drewN n) K T v l := h
theorem So.lt (h : So enc k w K T v l) : ∀ g, v.ownBlock = some g → K ≤ g ∧ g < w.heap.size := World.ownsRow.lt h
theorem So.more (h : So enc k w K T v l) (hK : K' ≤ K) : So enc k w K' T v l := by
  rcases h.2 with ⟨he, h0⟩ | ⟨g, cap', cur, he, hb, hg⟩
  · exact ⟨h.1, .inl ⟨he, h0⟩⟩
  · exact ⟨h.1, .inr ⟨g, cap', cur, he, by omega, hg⟩⟩
theorem flatMap_get (henc : ∀ x, (enc x).length = k) : ∀ (l : List α) (i : Nat) (x : α), l[i]? = some x → ∀ j u, (enc x)[j]? = some u → (l.flatMap enc)[i * k + j]? = some u
  | [], i, x, h, _, _, _ => by simp at h
  | y :: l, 0, x, h, j, u, hu => by
    simp at h
    subst h
    rw [List.flatMap_cons, Nat.zero_mul, Nat.zero_add, List.getElem?_append_left]
    · exact hu
    · exact (List.getElem?_eq_some_iff.1 hu).1
  | y :: l, i + 1, x, h, j, u, hu => by
    rw [List.flatMap_cons, List.getElem?_append_right (by rw [henc, Nat.add_mul]; omega), henc]
    have : (i + 1) * k + j - k = i * k + j := by rw [Nat.add_mul]; omega
    rw [this]
    exact flatMap_get henc l i x (by simpa using h) j u hu
theorem So.sr (henc : ∀ x, (enc x).length = k) {n : Nat} (h : So enc k w K T (.slice A n cap) l) : Sr enc k w w.heap.size A cap l ∧ l.length = n := by
  rcases h.2 with ⟨he, h0⟩ | ⟨g, cap', cur, he, hb, hg, hn, hc, hs, ht⟩
  · injection he with h1 h2 h3
    subst h1 h2 h3
    exact ⟨⟨by omega, Nat.zero_le _, fun _ => rfl, fun h => absurd h (by omega)⟩, h0⟩
  · injection he with h1 h2 h3
    subst h1 h3
    refine ⟨⟨hn, hc, (fun h => by cases h), fun hl => ⟨_, rfl, ?_, fun i x hi j u hu => ?_⟩⟩, h2.symm⟩
    · rcases Nat.lt_or_ge g w.heap.size with hlt | hge
      · exact hlt
      · rw [Array.getElem?_eq_none hge] at hg; cases hg
    · exact h.cells (g := g) rfl _ _ (flatMap_get henc l i x hi j u hu)
theorem So.form (h : So enc k w K T v l) : ∃ A' cap', v = .slice A' l.length cap' := by
  rcases h.2 with ⟨he, h0⟩ | ⟨g, cap', cur, he, _⟩
  · exact ⟨none, 0, by rw [he, h0]⟩
  · exact ⟨_, _, he⟩

variable {P : Program}
/-- append of one element. -/
theorem wpList_pushE {T ST : TypeId} (hund : P.underlying ST = some (.slice T)) {z : Value} {bytes : Nat} (hinfo : (P.info? T).map (fun i => (i.zero, i.size, i.bytes)) = some (some z, k, bytes)) (hz : z.cells.size = k) (hk : 0 < k)
    {ops : Array Oper} {rest : List Oper} {o : Oper} {a : Act} {Q : Exit → Act → World → Prop} (w : World) (hgd : o.guard = none) (s x : Operand)
    (ho : o.op = .call { callee := .builtin .append, args := #[s, x], argTypes := #[ST, ST] }) (K : Nat) (v : Value) (l : List α) (hs : a.eval s = v) (hown : So enc k w K T v l)
    (e : α) (cs : Array Value) (hcs : cs.toList = enc e) (he : (enc e).length = k) (h1 : ∀ u ∈ enc e, u.oneCell' = true) (TB : TypeId) (H : Nat) (hH : w.heap.size = H) (hxx : a.eval x = .slice (some ⟨H, 0, none⟩) 1 1)
    (N : Nat) (hN : l.length + 1 = N) (hm : N ≤ maxLen) (hsz : N * bytes ≤ 140737488355328) (hK : K ≤ H)
    (h : ∀ A' cap' w', So enc k w' K T (.slice A' N cap') (l ++ [e]) → w.grownBy w' v.ownBlock → ((Value.slice A' N cap').ownBlock = v.ownBlock ∨ ∃ g, (Value.slice A' N cap').ownBlock = some g ∧ w.heap.size ≤ g) → wpList P ops Q rest (a.put o.dst (.slice A' N cap')) w') :
    wpList P ops Q (o :: rest) a (w.alloc (.cells cs TB)) := by
  subst hH hN
  obtain ⟨i0, hi, hz0, hz1, hz2⟩ := info_parts hinfo
  refine wpList_append_lies _ hgd s x ST ho K T i0 z k bytes hund hi hz0 hz1 hz2 hz hk v l.length _ hs (World.ownsRow.alloc hown _) ⟨w.heap.size, 0, none⟩ 1 1 (enc e) hxx (by rw [he]; omega)
    (by have := World.news_of_block (heap_alloc_new w (.cells cs TB)); rwa [hcs] at this) h1 (by omega) hm hsz (by simp; omega) _ rfl ?_
  intro g cap w1 hown1 hgrow1 hat1 hlt1
  have hg : w.grownBy w1 v.ownBlock := ⟨hgrow1.os, hgrow1.tape, hgrow1.output, Nat.le_trans (by simp) hgrow1.size, fun i hi hne => (hgrow1.block i (by simp; omega) hne).trans (Below.heap_alloc w _ i hi)⟩
  refine h _ _ w1 (by unfold So; rw [List.length_append, List.flatMap_append]; simpa using hown1) hg ?_
  rcases hat1 with h1 | h1
  · exact .inl (by simpa [Value.ownBlock] using h1.symm)
  · exact .inr ⟨g, rfl, by rw [h1]; simp⟩
end
end Go.Proofs.YtcfbcidakddhfaaGreatDoor
namespace Go.Proofs.YtcfbcidakddhfaaGreatDoor
open Go.RowKit

theorem isLetter_any (n : Int) (w : World) : Calls Tryz.prog 85 #[.int .u8 n] w fun e w' => e = .returned (.bool (letN n)) ∧ w = w' := by
  go_enter Tryz.func85, Tryz.ntmps85
  go_wp2
  all_goals go_ret
  all_goals exact ⟨ret_bool (by rw [Bool.eq_iff_iff]; simp [letN] at *; omega), rfl⟩
theorem isDigit_any (n : Int) (w : World) : Calls Tryz.prog 86 #[.int .u8 n] w fun e w' => e = .returned (.bool (digN n)) ∧ w = w' := by
  go_enter Tryz.func86, Tryz.ntmps86
  go_wp2
  all_goals go_ret
  all_goals exact ⟨ret_bool (by rw [Bool.eq_iff_iff]; simp [digN] at *; omega), rfl⟩

theorem nameB_of {s : ByteArray} (h1 : 1 ≤ s.size) (h2 : s.size ≤ 32) : nameB s = nameTo s s.size := by simp [nameB, h1, h2]
theorem nameB_no {s : ByteArray} (h : s.size < 1 ∨ 32 < s.size) : nameB s = false := by
  unfold nameB
  rcases h with h | h
  · have : ¬ 1 ≤ s.size := by omega
    simp [this]
  · have : ¬ s.size ≤ 32 := by omega
    simp [this]
theorem valB_of {s : ByteArray} (h1 : 1 ≤ s.size) (h2 : s.size ≤ 64) : valB s = valTo s s.size := by simp [valB, h1, h2]
theorem valB_no {s : ByteArray} (h : s.size < 1 ∨ 64 < s.size) : valB s = false := by
  unfold valB
  rcases h with h | h
  · have : ¬ 1 ≤ s.size := by omega
    simp [this]
  · have : ¬ s.size ≤ 64 := by omega
    simp [this]

set_option maxHeartbeats 800000 in
theorem isName_any (s : ByteArray) (w : World) (hs : s.size ≤ maxLen) : Calls Tryz.prog 66 #[.string s] w fun e w' => e = .returned (.bool (nameB s)) ∧ w = w' := by
  unfold maxLen at hs
  by_cases h1 : s.size < 1
  · rw [nameB_no (.inl h1)]
    go_enter Tryz.func66, Tryz.ntmps66
    go_wp2
    go_ret
    exact ⟨rfl, rfl⟩
  by_cases h2 : 32 < s.size
  · rw [nameB_no (.inr h2)]
    go_enter Tryz.func66, Tryz.ntmps66
    go_wp2
    go_ret
    exact ⟨rfl, rfl⟩
  · rw [nameB_of (by omega) (by omega)]
    go_enter Tryz.func66, Tryz.ntmps66
    go_wp2
    go_loop [14] (fun i => ∃ k : Nat, k ≤ s.size ∧ i = .int .i64 k ∧ Hid (nameTo s k = true)) (fun i => s.size - (intOf i).toNat)
    case atStart => exact ⟨0, Nat.zero_le _, rfl, Lib.hid (nameTo_zero s)⟩
    case round =>
      obtain ⟨k, hk, rfl, HT⟩ := hrel
      by_cases hlt : k < s.size
      · have hb := byteAt_get s k hlt
        by_cases hl : letN ((s[k]).toNat : Int) = true
        · have HN : Hid (nameTo s (k + 1) = true) := Lib.hid (by rw [nameTo_succ, HT.out, ← hb]; simp [nameC, hl])
          clear hb
          go_wp2_with (go_at_call 85; refine (isLetter_any _ _).mono ?_; rintro e w' ⟨rfl, rfl⟩)
          go_round
          case rel => exact ⟨k + 1, by omega, by go_num, HN⟩
          case measure => simp [intOf]; omega
        · have hl : letN ((s[k]).toNat : Int) = false := by simpa using hl
          by_cases h0 : k = 0
          · have HF : Hid (nameTo s s.size = false) := Lib.hid (nameTo_false (k := k) (by rw [← hb]; unfold nameC; rw [hl]; simp [h0]) hlt)
            clear hb
            subst h0
            go_wp2_with (go_at_call 85; refine (isLetter_any _ _).mono ?_; rintro e w' ⟨rfl, rfl⟩)
            go_ret
            exact ⟨ret_bool HF.out.symm, rfl⟩
          · by_cases hd : digN ((s[k]).toNat : Int) = true
            · have HN : Hid (nameTo s (k + 1) = true) := Lib.hid (by rw [nameTo_succ, HT.out, ← hb]; simp [nameC, hd]; omega)
              clear hb
              go_wp2_with (first
                | (go_at_call 85; refine (isLetter_any _ _).mono ?_; rintro e w' ⟨rfl, rfl⟩)
                | (go_at_call 86; refine (isDigit_any _ _).mono ?_; rintro e w' ⟨rfl, rfl⟩))
              go_round
              case rel => exact ⟨k + 1, by omega, by go_num, HN⟩
              case measure => simp [intOf]; omega
            · have hd : digN ((s[k]).toNat : Int) = false := by simpa using hd
              have HF : Hid (nameTo s s.size = false) := Lib.hid (nameTo_false (k := k) (by rw [← hb]; simp [nameC, hl, hd]) hlt)
              clear hb
              go_wp2_with (first
                | (go_at_call 85; refine (isLetter_any _ _).mono ?_; rintro e w' ⟨rfl, rfl⟩)
                | (go_at_call 86; refine (isDigit_any _ _).mono ?_; rintro e w' ⟨rfl, rfl⟩))
              go_ret
              exact ⟨ret_bool HF.out.symm, rfl⟩
      · have hks : k = s.size := by omega
        have HF : Hid (nameTo s s.size = true) := Lib.hid (hks ▸ HT.out)
        clear hks
        go_wp2_with fail
        go_ret
        exact ⟨ret_bool HF.out.symm, rfl⟩
end Go.Proofs.YtcfbcidakddhfaaGreatDoor
namespace Go.Proofs.YtcfbcidakddhfaaGreatDoor
open Go.RowKit

theorem block_of_add (a : Addr) (n : Nat) : (a.add n).block = a.block := by unfold Addr.add; split <;> rfl
theorem add_of_add (a : Addr) (i j : Nat) : (a.add i).add j = a.add (i + j) := by
  unfold Addr.add
  by_cases hi : i = 0 <;> by_cases hj : j = 0 <;> simp [hi, hj, Nat.add_assoc]

/-- The slice with address A, length n and capacity cap reads as the bytes l, in memory below block K. -/
structure Bs (w : World) (K : Nat) (A : Option Addr) (cap : Nat) (l : List UInt8) : Prop where
  le : l.length ≤ cap
  max : cap ≤ maxLen
  nil : A = none → cap = 0
  at_ : 0 < l.length → ∃ ad : Addr, A = some ad ∧ ad.block < K ∧ ∀ k c, l[k]? = some c → w.cell? (ad.add k) = some (.int .u8 (c.toNat : Int))

section
variable {w w' : World} {K K' cap : Nat} {A : Option Addr} {l : List UInt8}
theorem Bs.get (h : Bs w K A cap l) {k : Nat} (hk : k < l.length) : ∃ ad : Addr, A = some ad ∧ ad.block < K ∧ w.cell? (ad.add k) = some (.int .u8 (l[k].toNat : Int)) := by
  obtain ⟨ad, e, hb, hc⟩ := h.at_ (by omega)
  exact ⟨ad, e, hb, hc k _ (List.getElem?_eq_getElem hk)⟩
theorem Bs.keep (h : Bs w K A cap l) (hk : ∀ p : Addr, p.block < K → w'.cell? p = w.cell? p) : Bs w' K A cap l :=
  ⟨h.le, h.max, h.nil, fun hn => by
    obtain ⟨ad, e, hb, hc⟩ := h.at_ hn
    exact ⟨ad, e, hb, fun j u hu => (hk _ (by rw [block_of_add]; exact hb)).trans (hc j u hu)⟩⟩
theorem Bs.cut (h : Bs w K A cap l) {i j : Nat} (hij : i ≤ j) (hj : j ≤ l.length) : Bs w K (if cap = i then A else A.map (·.add i)) (cap - i) ((l.drop i).take (j - i)) := by
  have hle := h.le
  have hmax := h.max
  have hlen : ((l.drop i).take (j - i)).length = j - i := by simp; omega
  refine ⟨by rw [hlen]; omega, by omega, fun hn => ?_, fun hn => ?_⟩
  · by_cases e : cap = i
    · omega
    · rw [if_neg e] at hn
      have : A = none := by cases A <;> simp_all
      have := h.nil this
      omega
  · rw [hlen] at hn
    obtain ⟨ad, rfl, hb, hc⟩ := h.at_ (by omega)
    rw [if_neg (by omega)]
    refine ⟨_, rfl, by rw [block_of_add]; exact hb, fun k c hk => ?_⟩
    rw [add_of_add]
    refine hc _ c ?_
    rw [List.getElem?_take] at hk
    split at hk
    · rwa [List.getElem?_drop] at hk
    · cases hk
theorem Bs.some_ (h : Bs w K A cap l) (hl : 0 < l.length) : ∃ ad : Addr, A = some ad ∧ ad.block < K := by
  obtain ⟨ad, e, hb, _⟩ := h.at_ hl
  exact ⟨ad, e, hb⟩
theorem Bs.cutS {ad : Addr} (h : Bs w K (some ad) cap l) {i j : Nat} (hi : 0 < i) (hij : i ≤ j) (hj : j ≤ l.length) (hc : i < cap) : Bs w K (some ⟨ad.block, ad.off + i, none⟩) (cap - i) ((l.drop i).take (j - i)) := by
  have := h.cut hij hj
  rw [if_neg (by omega)] at this
  have e : ad.add i = ⟨ad.block, ad.off + i, none⟩ := by unfold Addr.add; rw [if_neg (by omega)]
  rwa [Option.map_some, e] at this
theorem Bs.c {ad : Addr} (h : Bs w K (some ad) cap l) (i : Nat) (hi : 0 < i) (hil : i < l.length) : w.cell? ⟨ad.block, ad.off + i, none⟩ = some (.int .u8 ((l.getD i 0).toNat : Int)) := by
  obtain ⟨ad', e, _, hc⟩ := h.get hil
  cases e
  have e : ad.add i = ⟨ad.block, ad.off + i, none⟩ := by unfold Addr.add; rw [if_neg (by omega)]
  rw [e] at hc
  rw [hc]; simp [hil]
theorem Bs.c0 {ad : Addr} (h : Bs w K (some ad) cap l) (hil : 0 < l.length) : w.cell? ad = some (.int .u8 ((l.getD 0 0).toNat : Int)) := by
  obtain ⟨ad', e, _, hc⟩ := h.get hil
  cases e
  have e : ad.add 0 = ad := by unfold Addr.add; rw [if_pos rfl]
  rw [e] at hc
  rw [hc]; simp [hil]
theorem Bs.drew (h : Bs w K A cap l) : Bs w.drew K A cap l := ⟨h.le, h.max, h.nil, h.at_⟩
theorem Bs.drewN (h : Bs w K A cap l) (n : Nat) : Bs (w.drewN n) K A cap l := ⟨h.le, h.max, h.nil, h.at_⟩
theorem Bs.more (h : Bs w K A cap l) (hB : K ≤ K') : Bs w K' A cap l :=
  ⟨h.le, h.max, h.nil, fun hn => by
    obtain ⟨ad, e, hb, hc⟩ := h.at_ hn
    exact ⟨ad, e, by omega, hc⟩⟩
theorem Bs.alloc (h : Bs w K A cap l) (hK : K ≤ w.heap.size) (o : Obj) : Bs (w.alloc o) K A cap l := h.keep fun _ hp => World.cell?_alloc_lt _ _ _ (by omega)
theorem Bs.below (h : Bs w K A cap l) (hb : Below K w w') : Bs w' K A cap l := h.keep fun _ hp => hb.cell hp
end

end Go.Proofs.YtcfbcidakddhfaaGreatDoor
namespace Go.Proofs.YtcfbcidakddhfaaGreatDoor
open Go.RowKit

abbrev stv (a b c : Int) : Value := .agg #[.int .i64 a, .int .u32 b, .int .u32 c]

set_option maxHeartbeats 400000 in
theorem stto_any (a b c : Int) (w : World) :
    Calls Tryz.prog 20 #[.agg #[.int .i64 a, .int .u32 b, .int .u32 c]] w fun e w' => e = .returned (.agg #[.int .i64 a, .int .u32 b, .int .u32 c]) ∧ Below w.heap.size w w' := by
  go_enter Tryz.func20, Tryz.ntmps20
  go_wp2
  exact bodyPost_ret (v := .agg #[.int .i64 a, .int .u32 b, .int .u32 c]) (by simp [results, Tryz.results20, go_sem]) rfl ⟨rfl, by go_grown⟩

set_option maxHeartbeats 400000 in
theorem stfrom_any (a b c : Int) (w : World) :
    Calls Tryz.prog 29 #[.agg #[.int .i64 a, .int .u32 b, .int .u32 c]] w fun e w' => e = .returned (.agg #[.int .i64 a, .int .u32 b, .int .u32 c]) ∧ Below w.heap.size w w' := by
  go_enter Tryz.func29, Tryz.ntmps29
  go_wp2
  exact bodyPost_ret (v := .agg #[.int .i64 a, .int .u32 b, .int .u32 c]) (by simp [results, Tryz.results29, go_sem]) rfl ⟨rfl, by go_grown⟩

/-- Is a Wall right? -/
def rightB (a : Int) : Bool := decide (0 ≤ a ∧ a ≤ 4611686018427387904)

/-- How two stamps stand: -1, 0, 1. -/
def cmpS (a b c x y z : Int) : Int := if a < x then -1 else if x < a then 1 else if b < y then -1 else if y < b then 1 else if c < z then -1 else if z < c then 1 else 0
end Go.Proofs.YtcfbcidakddhfaaGreatDoor
