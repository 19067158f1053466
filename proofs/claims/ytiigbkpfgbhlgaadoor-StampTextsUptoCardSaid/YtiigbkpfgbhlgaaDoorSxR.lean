/- stamp.Parse. -/
import Derived.Test.YtiigbkpfgbhlgaaDoorSxI
namespace Go.Proofs.YtiigbkpfgbhlgaaDoor
open Go.RowKit

theorem keptF {W w1 : World} {p : Addr} (hb : Below W.heap.size W w1) (hp : p.block < W.heap.size) (h : W.frozen? p = false) : w1.frozen? p = false := (hb.frozen hp).trans h
theorem three {X : World} {b : Nat} {r0 r1 r2 : Value} (h0 : X.cell? ⟨b, 0, none⟩ = some r0) (h1 : X.cell? ⟨b, 1, none⟩ = some r1) (h2 : X.cell? ⟨b, 2, none⟩ = some r2) :
    (∀ u, (X.setCell ⟨b, 0, none⟩ u).cell? ⟨b, 0, none⟩ = some u) ∧ (∀ u v, ((X.setCell ⟨b, 0, none⟩ u).setCell ⟨b, 1, none⟩ v).cell? ⟨b, 1, none⟩ = some v) ∧
    (∀ u v y, (((X.setCell ⟨b, 0, none⟩ u).setCell ⟨b, 1, none⟩ v).setCell ⟨b, 2, none⟩ y).cell? ⟨b, 2, none⟩ = some y) := by
  have g1 : ∀ u, (X.setCell ⟨b, 0, none⟩ u).cell? ⟨b, 1, none⟩ = some r1 := fun u => by
    rw [World.cell?_setCell_other]
    · exact h1
    · simp
  have g2 : ∀ u v, ((X.setCell ⟨b, 0, none⟩ u).setCell ⟨b, 1, none⟩ v).cell? ⟨b, 2, none⟩ = some r2 := fun u v => by
    rw [World.cell?_setCell_other]
    · rw [World.cell?_setCell_other]
      · exact h2
      · simp
    · simp
  exact ⟨fun u => World.cell?_setCell_same (w := X) (a := ⟨b, 0, none⟩) (v := u) h0, fun u v => World.cell?_setCell_same (w := X.setCell ⟨b, 0, none⟩ u) (a := ⟨b, 1, none⟩) (v := v) (g1 u), fun u v y => World.cell?_setCell_same (w := (X.setCell ⟨b, 0, none⟩ u).setCell ⟨b, 1, none⟩ v) (a := ⟨b, 2, none⟩) (v := y) (g2 u v)⟩

abbrev MxS (w : World) : Prop := ∃ m : Int, w.cell? ⟨3, 0, none⟩ = some (.int .i64 m)
/-- The words of a text. -/
def wordsB (t : ByteArray) : List ByteArray := Lib.splitB ⟨#[46]⟩ 0 (min 4 (t.size + 1) - 1) t
theorem wordsB_len (t : ByteArray) : (wordsB t).length ≤ 4 := by
  have := Lib.splitB_length_le ⟨#[46]⟩ 0 (min 4 (t.size + 1) - 1) t
  unfold wordsB; omega
theorem wordsB_reads {t : ByteArray} {a b c : Nat} (h : Reads t.data.toList a b c) : (wordsB t).map (·.data.toList) = [dec a, dec b, dec c] := by
  unfold wordsB
  rw [Lib.splitB_data]
  have := h.size
  rw [show min 4 (t.size + 1) - 1 = 3 by simp at this; omega]
  exact h.split
theorem words_size (t : ByteArray) (k : Nat) : ∀ (n : Nat) (s : ByteArray), s.size ≤ k → ∀ x ∈ Lib.splitB ⟨#[46]⟩ 0 n s, x.size ≤ k
  | 0, s, h, x, hx => by rw [Lib.splitB_zero, List.mem_singleton] at hx; subst hx; exact h
  | n + 1, s, h, x, hx => by
    unfold Lib.splitB at hx
    split at hx
    · rw [List.mem_singleton] at hx; subst hx; exact h
    · rcases List.mem_cons.1 hx with rfl | hx
      · simp only [ByteArray.size_extract]; omega
      · exact words_size t k n _ (by simp only [ByteArray.size_extract]; omega) x hx

theorem none_len {t : ByteArray} (h : (wordsB t).length ≠ 3) : ∀ a b c, ¬ Reads t.data.toList a b c := fun a b c hr => by
  have := congrArg List.length (wordsB_reads hr)
  simp at this
  exact h this
theorem none_word {t : ByteArray} {s : Nat → ByteArray} (h : wordsB t = [s 0, s 1, s 2]) {i : Nat} (hi : i < 3) (hn : ∀ v, Lib.parseIntB 64 (s i).data.toList ≠ .ok v) : ∀ a b c, ¬ Reads t.data.toList a b c := fun a b c hr => by
  have e := wordsB_reads hr
  rw [h] at e
  simp only [List.map_cons, List.map_nil, List.cons.injEq, and_true] at e
  obtain ⟨e1, e2, e3⟩ := e
  obtain ⟨⟨h1, h2, h3⟩, _⟩ := hr
  rcases (show i = 0 ∨ i = 1 ∨ i = 2 by omega) with rfl | rfl | rfl
  · exact hn _ (by rw [e1]; exact parse_dec a h1)
  · exact hn _ (by rw [e2]; exact parse_dec b (by omega))
  · exact hn _ (by rw [e3]; exact parse_dec c (by omega))
/-- What the three words spell is what the text reads as. -/
theorem reads_parts {t : ByteArray} {s : Nat → ByteArray} (h : wordsB t = [s 0, s 1, s 2]) {x0 x1 x2 : Int} (h0 : Lib.parseIntB 64 (s 0).data.toList = .ok x0) (h1 : Lib.parseIntB 64 (s 1).data.toList = .ok x1) (h2 : Lib.parseIntB 64 (s 2).data.toList = .ok x2)
    {a b c : Nat} (hr : Reads t.data.toList a b c) : x0 = a ∧ x1 = b ∧ x2 = c := by
  have e := wordsB_reads hr
  rw [h] at e
  simp only [List.map_cons, List.map_nil, List.cons.injEq, and_true] at e
  obtain ⟨e1, e2, e3⟩ := e
  obtain ⟨⟨k1, k2, k3⟩, _⟩ := hr
  rw [e1, parse_dec a k1] at h0
  rw [e2, parse_dec b (by omega)] at h1
  rw [e3, parse_dec c (by omega)] at h2
  injection h0 with h0
  injection h1 with h1
  injection h2 with h2
  exact ⟨h0.symm, h1.symm, h2.symm⟩
theorem reads_of {t : ByteArray} {x0 y z : Int} (h0 : 0 ≤ x0 ∧ x0 ≤ 4611686018427387904) (h1 : 0 ≤ y ∧ y ≤ 4294967295) (h2 : 0 ≤ z ∧ z ≤ 4294967295) (h : strB (sttextB x0 y z) = t) : Reads t.data.toList x0.toNat y.toNat z.toNat := by
  refine ⟨⟨by omega, by omega, by omega⟩, ?_⟩
  rw [← h, strB_toList, ← textB_dec]
  rw [show ((x0.toNat : Nat) : Int) = x0 by omega, show ((y.toNat : Nat) : Int) = y by omega, show ((z.toNat : Nat) : Int) = z by omega]
end Go.Proofs.YtiigbkpfgbhlgaaDoor
