/- stamp.Text. -/
import Derived.Test.YtiigbkpfgbhlgaaDoorSxW
import Derived.Test.YtiigbkpfgbhlgaaDoorShelf
import Derived.LoopTactic
import Derived.Lib.AppendIntMem
namespace Go.Proofs.YtiigbkpfgbhlgaaDoor
open Go.RowKit

/-- The table of powers of ten lies in its variable. -/
abbrev Pow (w : World) : Prop := Lib.TabIs Tryd.prog w "internal/strconv.uint64pow10" .u64 Lib.pow10Tab
theorem gPow : Tryd.prog.globalNamed "internal/strconv.uint64pow10" = some 0 := by kernel_rfl
theorem Pow.block {w w' : World} (h : Pow w) (hb : w'.heap[0]? = w.heap[0]?) : Pow w' := by
  unfold Pow Lib.TabIs World.var? at *
  rw [gPow] at *
  simp only [Option.bind_some] at *
  rw [hb]
  exact h
theorem Pow.lt {w : World} (h : Pow w) : 0 < w.heap.size := by
  have := World.var?_cell gPow h 0
  exact World.block_lt_of_cell? w ⟨0, 0, none⟩ (u := .int .u64 1) (this.trans (by first | rfl | kernel_rfl | simp [Lib.pow10Tab]))
theorem Pow.below {w w' : World} (h : Pow w) (hb : Below w.heap.size w w') : Pow w' := h.block (hb.block _ h.lt)

/-- Three strings in a block. -/
structure B3 (w : World) (b : Nat) (u : Nat → ByteArray) : Prop where
  at_ : ∀ i, i < 3 → w.cell? ⟨b, i, none⟩ = some (.string (u i))
  fr : ∀ o, w.frozen? ⟨b, o, none⟩ = false
  lt : b < w.heap.size
theorem B3.below {w w' : World} {b : Nat} {u : Nat → ByteArray} (h : B3 w b u) (hb : Below w.heap.size w w') : B3 w' b u :=
  ⟨fun i hi => kept hb (h.at_ i hi), fun o => (hb.frozen (p := ⟨b, o, none⟩) h.lt).trans (h.fr o), Nat.lt_of_lt_of_le h.lt hb.size⟩
theorem B3.set {w : World} {b : Nat} {u : Nat → ByteArray} (h : B3 w b u) {i : Nat} (hi : i < 3) (x : ByteArray) : B3 (w.setCell ⟨b, i, none⟩ (.string x)) b (fun j => if j = i then x else u j) := by
  refine ⟨fun j hj => ?_, fun o => ?_, ?_⟩
  · by_cases e : j = i
    · subst e
      show _ = some (Value.string (if j = j then x else u j))
      rw [if_pos rfl]
      exact World.cell?_setCell_same' _ _ _ (by rw [h.at_ j hi]; rfl)
    · simp only [if_neg e]
      rw [World.cell?_setCell_other _ _ _ _ (by simp)]
      exact h.at_ j hj
  · rw [World.frozen?_setCell]; exact h.fr o
  · have := h.lt; simpa [World.setCell] using this
theorem B3.mk3 {w : World} {b : Nat} {u : Nat → ByteArray} (h0 : w.cell? ⟨b, 0, none⟩ = some (.string (u 0))) (h1 : w.cell? ⟨b, 1, none⟩ = some (.string (u 1))) (h2 : w.cell? ⟨b, 2, none⟩ = some (.string (u 2)))
    (hf : ∀ o, w.frozen? ⟨b, o, none⟩ = false) : B3 w b u :=
  ⟨fun i hi => by
    rcases (show i = 0 ∨ i = 1 ∨ i = 2 by omega) with rfl | rfl | rfl
    · exact h0
    · exact h1
    · exact h2, hf, World.block_lt_of_cell? w ⟨b, 0, none⟩ h0⟩

theorem parts_any (a b c : Int) (w : World) (hb : 0 ≤ b ∧ b ≤ 4294967295) (hc : 0 ≤ c ∧ c ≤ 4294967295) :
    Calls Tryd.prog 11 #[.agg #[.int .i64 a, .int .u32 b, .int .u32 c]] w fun e w' => e = .returned (.agg #[.int .i64 a, .int .i64 b, .int .i64 c]) ∧ Below w.heap.size w w' := by
  obtain ⟨b0, b1⟩ := hb
  obtain ⟨c0, c1⟩ := hc
  go_enter Tryd.func11, Tryd.ntmps11
  go_wp2
  exact bodyPost_ret (v := .agg #[.int .i64 a, .int .i64 b, .int .i64 c]) (by simp [results, Tryd.results11, go_sem]) rfl ⟨rfl, by go_grown⟩

theorem format_any (n : Int) (w : World) (h0 : -9223372036854775808 ≤ n) (h1 : n ≤ 9223372036854775807) (hw : Pow w) :
    Calls Tryd.prog 12 #[.int .i64 n, .int .i64 10] w (Str1 w (Lib.itoa n)) :=
  (Tryd.strconv_FormatInt_10 n h0 h1 w hw).mono fun e w' h => by
    obtain ⟨rfl, k, os, rfl⟩ := h
    exact ⟨rfl, Lib.below_grow _ w (Nat.le_refl _) k os⟩
end Go.Proofs.YtiigbkpfgbhlgaaDoor
