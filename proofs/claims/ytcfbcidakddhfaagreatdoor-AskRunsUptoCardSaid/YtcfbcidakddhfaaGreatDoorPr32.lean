/- The program's Text of a query. -/
import Derived.Test.YtcfbcidakddhfaaGreatDoorPr31
import Derived.Test.YtcfbcidakddhfaaGreatDoorPr19
import Derived.Test.YtcfbcidakddhfaaGreatDoorPr15
namespace Go.Proofs.YtcfbcidakddhfaaGreatDoor
open Go.RowKit

theorem numsQ_len (q : Qr) : (numsQ q).length ≤ 3 := by unfold numsQ; split <;> simp
theorem ptrsQ_size (b : Nat) (q : Qr) : (ptrsQ b q.op).size = (numsQ q).length := by unfold ptrsQ numsQ; split <;> rfl
theorem ptrs_get {b : Nat} {q : Qr} (A : Option Addr) (c : Nat) {k : Nat} (h : k < (numsQ q).length) : (ptrsQ b q.op)[k]? = some (.pointer (some ⟨b, k + 2, none⟩)) ∧ (qc q A c)[k + 2]? = some (.int .i64 ((numsQ q).getD k 0)) := by
  have h3 := numsQ_len q
  by_cases h0 : q.op = 0
  · have e1 : numsQ q = [q.fr, q.to_] := if_pos h0
    have e2 : ptrsQ b q.op = #[.pointer (some ⟨b, 2, none⟩), .pointer (some ⟨b, 3, none⟩)] := if_pos h0
    rw [e1] at h ⊢
    rw [e2]
    match k, h with
    | 0, _ => exact ⟨rfl, rfl⟩
    | 1, _ => exact ⟨rfl, rfl⟩
    | k + 2, h => exact absurd h (by simp)
  · have e1 : numsQ q = [q.fr, q.to_, q.st] := if_neg h0
    have e2 : ptrsQ b q.op = #[.pointer (some ⟨b, 2, none⟩), .pointer (some ⟨b, 3, none⟩), .pointer (some ⟨b, 4, none⟩)] := if_neg h0
    rw [e1] at h ⊢
    rw [e2]
    match k, h with
    | 0, _ => exact ⟨rfl, rfl⟩
    | 1, _ => exact ⟨rfl, rfl⟩
    | 2, _ => exact ⟨rfl, rfl⟩
    | k + 3, h => exact absurd h (by simp)
theorem nums_fit {q : Qr} (h : Qok q) (k : Nat) : -9223372036854775808 ≤ (numsQ q).getD k 0 ∧ (numsQ q).getD k 0 ≤ 9223372036854775807 := by
  obtain ⟨_, _, f1, f2, t1, t2, s1, s2⟩ := h
  unfold numsQ
  split
  · match k with
    | 0 => exact ⟨f1, f2⟩
    | 1 => exact ⟨t1, t2⟩
    | k + 2 => simp
  · match k with
    | 0 => exact ⟨f1, f2⟩
    | 1 => exact ⟨t1, t2⟩
    | 2 => exact ⟨s1, s2⟩
    | k + 3 => simp
theorem numsL_snoc (l : List Int) {k : Nat} (h : k < l.length) : numsL (l.take (k + 1)) = numsL (l.take k) ++ 32 :: Lib.itoa (l.getD k 0) := by
  unfold numsL
  have e : l.getD k 0 = l[k] := by rw [List.getD_eq_getElem?_getD, List.getElem?_eq_getElem h]; rfl
  rw [List.take_succ_eq_append_getElem h, List.flatMap_append, e]
  simp
theorem numsL_len {q : Qr} (h : Qok q) : ∀ k, k ≤ (numsQ q).length → (numsL ((numsQ q).take k)).length ≤ k * 22
  | 0, _ => by simp [numsL]
  | k + 1, hk => by
    have h1 := numsL_len h k (by omega)
    have h2 := nums_fit h k
    have h3 := itoa_len h2.1 h2.2
    rw [numsL_snoc _ (by omega), List.length_append, List.length_cons]
    omega
theorem textR_len {l : List Rp} (h : SmR l) : (textR l).length ≤ l.length * 4000001 + 2 := by
  have := partsR_len (l := l) h
  unfold textR
  simp
  omega
theorem wordQ_len (op : Int) : (wordQ op).length ≤ 6 := by
  unfold wordQ
  repeat' (first | (split; next => decide) | decide)
theorem sz_strB (l : List UInt8) : (strB l).size = l.length := by simp [strB, ByteArray.size]
theorem ls_strB (l : List UInt8) : (strB l).data.toList = l := by simp [strB]
theorem mk_strB (l : List UInt8) : (⟨l.toArray⟩ : ByteArray) = strB l := rfl
/-- The text so far: the box of the query in block b0, the builder in block b. -/
structure Tx (w wr : World) (q : Qr) (A : Option Addr) (c b0 b : Nat) (L : List UInt8) : Prop where
  bf : Bf wr b b L
  bx : Rwo wr b0 (qc q A c) 36
  bl : Below w.heap.size w wr
  lb : b < wr.heap.size
  hb : b0 < b ∧ w.heap.size ≤ b0
section
variable {w wr w' : World} {q : Qr} {A : Option Addr} {c b0 b g : Nat} {L L' : List UInt8}
theorem Tx.below (h : Tx w wr q A c b0 b L) (hb : Below wr.heap.size wr w') : Tx w w' q A c b0 b L :=
  ⟨h.bf.below hb, h.bx.below hb, h.bl.trans (hb.mono h.bl.size), Nat.lt_of_lt_of_le h.lb hb.size, h.hb⟩
theorem Tx.wrote (h : Tx w wr q A c b0 b L) (hf : Bf w' b b L') (hb : Below b wr w') (hk : Okb b wr w') : Tx w w' q A c b0 b L' :=
  ⟨hf, h.bx.okb hk (by have := h.hb; omega) (by decide), h.bl.trans (hb.mono (by have := h.hb; omega)), Nat.lt_of_lt_of_le h.lb hb.size, h.hb⟩
end
end Go.Proofs.YtcfbcidakddhfaaGreatDoor
