/- The law's awake: the document's example of rules. -/
import Derived.Test.YtfmgphjnajgldaaDoorMtP
namespace Go.Proofs.YtfmgphjnajgldaaDoor
open Go.RowKit

theorem idx_ascii (t : ByteArray) (hs : t.size ≤ 4000000000) (ha : ∀ b ∈ t.data.toList, b.toNat < 128) : IdxOk t := by
  intro W
  refine (Tryd.strings_IndexAny_laid t ⟨#[61, 33, 94, 42]⟩ W (by omega) (by decide) (fun j b hb => ha b (List.mem_of_getElem? hb)) (fun j b hb => ?_)).mono ?_
  · have h : b ∈ ([61, 33, 94, 42] : List UInt8) := List.mem_of_getElem? hb
    simp at h
    rcases h with rfl | rfl | rfl | rfl <;> decide
  · rintro e w' ⟨rfl, hb⟩
    exact ⟨rfl, hb⟩
theorem idx_awake (k : Nat) : IdxOk ((⟨#[123, 97, 61, 34, 120, 34, 125, 46, 46]⟩ : ByteArray).extract k (⟨#[123, 97, 61, 34, 120, 34, 125, 46, 46]⟩ : ByteArray).size) := by
  have hsz : (⟨#[123, 97, 61, 34, 120, 34, 125, 46, 46]⟩ : ByteArray).size = 9 := rfl
  refine idx_ascii _ (by rw [ex_size, hsz]; omega) fun b hb => ?_
  rw [ex_list] at hb
  have h := List.mem_of_mem_drop hb
  have h2 : b ∈ ([123, 97, 61, 34, 120, 34, 125, 46, 46] : List UInt8) := h
  simp at h2
  rcases h2 with rfl | rfl | rfl | rfl | rfl | rfl | rfl | rfl <;> decide

set_option maxHeartbeats 1600000 in
theorem mawake_any (w : World) (hg : Sg w) (hm : Mx w) : Calls Tryd.prog 8 #[] w fun e w' => e = .returned (.bool true) ∧ Below w.heap.size w w' := by
  have HP := Lib.hid (parseR_any ⟨#[123, 97, 61, 34, 120, 34, 125, 46, 46]⟩ w (by decide) idx_awake hg)
  have e0 : (⟨#[123, 97, 61, 34, 120, 34, 125, 46, 46]⟩ : ByteArray).data.toList = [123, 97, 61, 34, 120, 34, 125, 46, 46] := rfl
  rw [e0, parse_awake] at HP
  have HA := Lib.hid all_awake
  have HM := Lib.hid hm
  clear e0 hg hm
  generalize hl : ([((⟨#[97]⟩ : ByteArray), (1 : Int), (⟨#[120]⟩ : ByteArray))] : List Rp) = l at *
  have HL : Hid (l.length = 1) := Lib.hid (by rw [← hl]; rfl)
  generalize hs : ([((⟨#[97]⟩ : ByteArray), (⟨#[120]⟩ : ByteArray))] : List Pp) = s at *
  have HS : Hid (s.length = 1) := Lib.hid (by rw [← hs]; rfl)
  have hSm : Sm s := by intro x hx; rw [← hs] at hx; simp at hx; subst hx; exact ⟨by decide, by decide⟩
  have HF : Hid (s.flatMap encP = [.string ⟨#[97]⟩, .string ⟨#[120]⟩]) := Lib.hid (by rw [← hs]; rfl)
  clear hl hs
  go_enter Tryd.func8, Tryd.ntmps8
  go_wp2_with fail
  refine HP.out.mono ?_
  rintro e w1 ⟨A, c, rfl, hra, hb1⟩
  have hlen := HL.out
  simp only [hlen] at hra ⊢
  clear hlen
  have hr := (So.sr encR_len hra).1
  have HR1 := Lib.hid (hr.alloc (Nat.le_refl _) (.cells #[.string ⟨#[97]⟩, .string ⟨#[120]⟩] 48))
  have hq := lit_so (enc := encP) (k := 2) w1 w1.heap.size 48 w1.heap.size rfl (Nat.le_refl _) #[.string ⟨#[97]⟩, .string ⟨#[120]⟩] 1 s encP_len HF.out.symm HS.out (by unfold maxLen; omega)
  have HQ := Lib.hid (So.sr encP_len hq).1
  have BA : Below w1.heap.size w1 (w1.alloc (.cells #[.string ⟨#[97]⟩, .string ⟨#[120]⟩] 48)) := (Below.refl _ _).alloc (Nat.le_refl _) _
  have HM2 := Lib.hid ((HM.out.below hb1).below BA)
  have BA2 : Below w.heap.size w (w1.alloc (.cells #[.string ⟨#[97]⟩, .string ⟨#[120]⟩] 48)) := hb1.alloc hb1.size _
  have zA : w1.heap.size ≤ (w1.alloc (.cells #[.string ⟨#[97]⟩, .string ⟨#[120]⟩] 48)).heap.size := BA.size
  clear hr hq hra hb1
  have HC1 := Lib.hid (allR_any (w1.alloc (.cells #[.string ⟨#[97]⟩, .string ⟨#[120]⟩] 48)).heap.size A (some ⟨w1.heap.size, 0, none⟩) 1 c 1 1 l s (w1.alloc (.cells #[.string ⟨#[97]⟩, .string ⟨#[120]⟩] 48)) HL.out HS.out (HR1.out.more zA) HQ.out (Nat.le_refl _) hSm HM2.out)
  rw [HA.out.1] at HC1
  go_wp2_with fail
  refine HC1.out.mono ?_
  rintro e w2 ⟨rfl, hb2⟩
  have B2 := BA2.trans (hb2.mono BA2.size)
  have HC2 := Lib.hid (allR_any w2.heap.size A none 1 c 0 0 l [] w2 HL.out rfl ((HR1.out.below (hb2.mono zA)).more (by have := hb2.size; omega)) (Sr.none_ _ _) (Nat.le_refl _) (fun x hx => by simp at hx) (HM2.out.below hb2))
  rw [HA.out.2] at HC2
  clear hb2
  go_wp2_with fail
  refine HC2.out.mono ?_
  rintro e w3 ⟨rfl, hb3⟩
  go_wp2_with fail
  go_ret
  exact ⟨rfl, B2.trans (hb3.mono B2.size)⟩
end Go.Proofs.YtfmgphjnajgldaaDoor
