/- stamp.Text: the walk. -/
import Derived.Test.YtiigbkpfgbhlgaaDoorSxT
import Derived.Lib.Join
namespace Go.Proofs.YtiigbkpfgbhlgaaDoor
open Go.RowKit

def sttextB (a b c : Int) : List UInt8 := Lib.itoa a ++ (46 :: (Lib.itoa b ++ (46 :: Lib.itoa c)))
theorem textB_join (a b c : Int) : Lib.join [Lib.itoa a, Lib.itoa b, Lib.itoa c] [46] = sttextB a b c := by simp [Lib.join, List.intercalate, sttextB]
def pieceB (a b c : Int) (k j : Nat) : ByteArray := if j < k then strB (Lib.itoa (if j = 0 then a else if j = 1 then b else c)) else ⟨#[]⟩
theorem pieceB_set (a b c : Int) (k : Nat) : (fun j => if j = k then strB (Lib.itoa (if k = 0 then a else if k = 1 then b else c)) else pieceB a b c k j) = pieceB a b c (k + 1) := by
  funext j
  unfold pieceB
  by_cases e : j = k
  · subst e; simp
  · by_cases h : j < k
    · simp [e, h, show j < k + 1 by omega]
    · simp [e, h, show ¬ j < k + 1 by omega]
theorem setBelow {B : Nat} {w w' : World} {p : Addr} {v : Value} (h : Below B w w') (hp : B ≤ p.block) : Below B w (w'.setCell p v) := by
  refine ⟨h.os, h.tape, h.output, by simpa [World.setCell] using h.size, fun j hj => ?_⟩
  rw [← h.block j hj]
  simp only [World.setCell]
  rw [Array.getElem?_modify, if_neg (by omega)]

set_option maxRecDepth 100000 in
set_option maxHeartbeats 1600000 in
theorem text_any (a b c : Int) (w : World) (ha : -9223372036854775808 ≤ a ∧ a ≤ 9223372036854775807) (hb : 0 ≤ b ∧ b ≤ 4294967295) (hc : 0 ≤ c ∧ c ≤ 4294967295) (hw : Pow w) :
    Calls Tryd.prog 4 #[.agg #[.int .i64 a, .int .u32 b, .int .u32 c]] w (Str1 w (sttextB a b c)) := by
  have HA := Lib.hid ha
  have HB := Lib.hid hb
  have HC := Lib.hid hc
  clear ha hb hc
  go_enter Tryd.func4, Tryd.ntmps4
  go_wp2_with (go_at_call 11; refine (parts_any a b c _ HB.out HC.out).mono ?_; rintro e w2 ⟨rfl, hb2⟩; have z2 := hb2.size)
  have b0 : B3 w2 (w.heap.size + 1) (pieceB a b c 0) := by
    refine B3.below (B3.mk3 ?_ ?_ ?_ ?_) hb2
    · simp [go_sem]; rfl
    · simp [go_sem]; rfl
    · simp [go_sem]; rfl
    · intro o; simp [go_sem]
  have B2 : Below w.heap.size w w2 := by
    refine Below.trans ?_ (hb2.mono ?_)
    · go_grown
    · simp; omega
  clear hb2 z2
  go_loopw [8] (fun i wr => ∃ k : Nat, k ≤ 3 ∧ i = .int .i64 k ∧ B3 wr (w.heap.size + 1) (pieceB a b c k) ∧ Below w.heap.size w wr) (fun i _ => 3 - (intOf i).toNat)
  case atStart => exact ⟨0, by omega, rfl, b0, B2⟩
  case round =>
    obtain ⟨k, hk, rfl, hB, hbl⟩ := hrel
    have z := hbl.size
    clear b0 B2
    rcases (show k = 0 ∨ k = 1 ∨ k = 2 ∨ k = 3 by omega) with rfl | rfl | rfl | rfl
    · have ix : ∀ W, (Instr.index 39 (.agg #[.int .i64 a, .int .i64 b, .int .i64 c]) (.int .i64 0)).run Tryd.prog W = .ok (.int .i64 a) W := fun W => by kernel_rfl
      go_wp2_with (refine (format_any a _ HA.out.1 HA.out.2 (hw.below hbl)).mono ?_; rintro e w3 ⟨rfl, hb3⟩; have h3 := hB.below hb3; have c0 := h3.at_ 0 (by omega); have f0 := h3.fr 0; have l3 := h3.lt; have B3' := hbl.trans (hb3.mono z); have S3 := h3.set (i := 0) (by omega) (strB (Lib.itoa a)))
      go_roundw
      case rel => exact ⟨1, by omega, rfl, (pieceB_set a b c 0) ▸ S3, setBelow B3' (by simp)⟩
      case measure => simp [intOf]
    · have ix : ∀ W, (Instr.index 39 (.agg #[.int .i64 a, .int .i64 b, .int .i64 c]) (.int .i64 1)).run Tryd.prog W = .ok (.int .i64 b) W := fun W => by kernel_rfl
      go_wp2_with (refine (format_any b _ (by have := HB.out; omega) (by have := HB.out; omega) (hw.below hbl)).mono ?_; rintro e w3 ⟨rfl, hb3⟩; have h3 := hB.below hb3; have c0 := h3.at_ 1 (by omega); have f0 := h3.fr 1; have l3 := h3.lt; have B3' := hbl.trans (hb3.mono z); have S3 := h3.set (i := 1) (by omega) (strB (Lib.itoa b)))
      go_roundw
      case rel => exact ⟨2, by omega, rfl, (pieceB_set a b c 1) ▸ S3, setBelow B3' (by simp)⟩
      case measure => simp [intOf]
    · have ix : ∀ W, (Instr.index 39 (.agg #[.int .i64 a, .int .i64 b, .int .i64 c]) (.int .i64 2)).run Tryd.prog W = .ok (.int .i64 c) W := fun W => by kernel_rfl
      go_wp2_with (refine (format_any c _ (by have := HC.out; omega) (by have := HC.out; omega) (hw.below hbl)).mono ?_; rintro e w3 ⟨rfl, hb3⟩; have h3 := hB.below hb3; have c0 := h3.at_ 2 (by omega); have f0 := h3.fr 2; have l3 := h3.lt; have B3' := hbl.trans (hb3.mono z); have S3 := h3.set (i := 2) (by omega) (strB (Lib.itoa c)))
      go_roundw
      case rel => exact ⟨3, by omega, rfl, (pieceB_set a b c 2) ▸ S3, setBelow B3' (by simp)⟩
      case measure => simp [intOf]
    · have HJ : Hid (Calls Tryd.prog 13 #[.slice (some ⟨w.heap.size + 1, 0, none⟩) 3 3, .string ⟨#[46]⟩] wr (Str1 wr (sttextB a b c))) := Lib.hid (by
        have l1 := itoa_len HA.out.1 HA.out.2
        have l2 := itoa_len (n := b) (by have := HB.out; omega) (by have := HB.out; omega)
        have l3 := itoa_len (n := c) (by have := HC.out; omega) (by have := HC.out; omega)
        have := Tryd.strings_Join (w.heap.size + 1) 0 3 [strB (Lib.itoa a), strB (Lib.itoa b), strB (Lib.itoa c)] ⟨#[46]⟩ wr (fun j x hj => by
          rcases (show j = 0 ∨ j = 1 ∨ j = 2 ∨ 3 ≤ j by omega) with rfl | rfl | rfl | h3
          · have := hB.at_ 0 (by omega); simp at hj; subst hj; simpa [pieceB] using this
          · have := hB.at_ 1 (by omega); simp at hj; subst hj; simpa [pieceB] using this
          · have := hB.at_ 2 (by omega); simp at hj; subst hj; simpa [pieceB] using this
          · rw [List.getElem?_eq_none (by simp; omega)] at hj; cases hj) hB.lt (by simp) (by simp) (by
          show (Lib.join [Lib.itoa a, Lib.itoa b, Lib.itoa c] [46]).length ≤ _
          rw [textB_join]; simp [sttextB]; omega)
        refine this.mono fun e w' h => ⟨h.1.trans ?_, h.2⟩
        show _ = Ending.returned (.string (strB (sttextB a b c)))
        rw [← textB_join]
        rfl)
      go_wp2_with (refine (HJ.out).mono ?_; rintro e w3 ⟨rfl, hb3⟩; have B3' := hbl.trans (hb3.mono z))
      go_ret
      exact ⟨rfl, B3'⟩
end Go.Proofs.YtiigbkpfgbhlgaaDoor
