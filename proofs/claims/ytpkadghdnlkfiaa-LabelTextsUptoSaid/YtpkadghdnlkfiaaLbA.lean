/- The law's awake: the document's first example of layer 5. -/
import Derived.Test.YtpkadghdnlkfiaaLbMk
import Derived.Test.YtpkadghdnlkfiaaLbX
namespace Go.Proofs.Ytpkadghdnlkfiaa
open Go.RowKit

def exB : List Pp := [(⟨#[98]⟩, ⟨#[49]⟩), (⟨#[97]⟩, ⟨#[50]⟩)]
def exA : List Pp := [(⟨#[97]⟩, ⟨#[50]⟩), (⟨#[98]⟩, ⟨#[49]⟩)]
theorem ex_make : makeE exB = 0 ∧ makeL exB = exA := by decide +kernel
theorem ex_text : textB exA = [123, 97, 61, 34, 50, 34, 44, 98, 61, 34, 49, 34, 125] := by decide +kernel
theorem ex_sm : Sm exB := by
  intro x hx
  simp [exB] at hx
  rcases hx with rfl | rfl <;> exact ⟨by decide, by decide⟩
theorem ex_smA : Sm exA := by
  intro x hx
  simp [exA] at hx
  rcases hx with rfl | rfl <;> exact ⟨by decide, by decide⟩

theorem awake_any (w : World) : Calls Try.prog 8 #[] w fun e w' => e = .returned (.bool true) ∧ Below w.heap.size w w' := by
  have hs0 : La (w.alloc (.cells #[.string ⟨#[98]⟩, .string ⟨#[49]⟩, .string ⟨#[97]⟩, .string ⟨#[50]⟩] 49)) w.heap.size (.slice (some ⟨w.heap.size, 0, none⟩) 2 2) exB :=
    lit_so w w.heap.size _ w.heap.size rfl (Nat.le_refl _) _ 2 _ encP_len rfl rfl (by unfold maxLen; omega)
  have hr0 := (So.sr encP_len hs0).1
  have hm := make_any _ _ 2 2 exB _ rfl hr0 (Nat.le_refl _) ex_sm (by decide)
  have B0 : Below w.heap.size w (w.alloc (.cells #[.string ⟨#[98]⟩, .string ⟨#[49]⟩, .string ⟨#[97]⟩, .string ⟨#[50]⟩] 49)) := (Below.refl _ _).alloc (Nat.le_refl _) _
  have HM := Lib.hid hm
  clear hm hr0 hs0
  go_enter Try.func8, Try.ntmps8
  go_wp2_with fail
  refine HM.out.mono ?_
  rintro e w1 ⟨A1, c1, rfl, ha1, hb1⟩
  rw [ex_make.1, ex_make.2] at *
  have z1 := hb1.size
  have B1 : Below w.heap.size w w1 := B0.trans (hb1.mono B0.size)
  have z0 := B1.size
  have hr1 := (So.sr encP_len ha1).1
  have ht := text_any _ A1 2 c1 exA w1 rfl hr1 (Nat.le_refl _) ex_smA (by decide)
  rw [ex_text] at ht
  have HT := Lib.hid ht
  clear ht hb1 ha1 hr1 HM B0
  go_wp2_with (go_at_call 28; refine HT.out.mono ?_; rintro e w2 ⟨rfl, hb2⟩)
  go_ret
  exact ⟨rfl, B1.trans (hb2.mono z0)⟩
end Go.Proofs.Ytpkadghdnlkfiaa
