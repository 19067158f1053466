/- The law WireOrder: its walk. -/
import Derived.Test.YtojkbndaleiaaaaDoorWAwake
namespace Go.Proofs.YtojkbndaleiaaaaDoor
open Go.RowKit

set_option maxRecDepth 100000 in
set_option maxHeartbeats 1600000 in
theorem word_any (a b : Nat) (ha : a ≤ 18446744073709551615) (hb : b ≤ 18446744073709551615) (w : World) :
    Calls Tryd.prog 5 #[.int .u64 (a : Int), .int .u64 (b : Int)] w fun e w' => e = .returned (.bool true) ∧ Below w.heap.size w w' := by
  have hless := numB_less ha hb
  have hinj := numB_inj ha hb
  have HA := Lib.hid (fun g c w (h : It1 w g a) => laid1 a ha g c w h)
  have HB := Lib.hid (fun g c w (h : It1 w g b) => laid1 b hb g c w h)
  generalize numB a = la at *
  generalize numB b = lb at *
  obtain ⟨sa, hsa⟩ : ∃ s, s = strB la := ⟨_, rfl⟩
  obtain ⟨sb, hsb⟩ : ∃ s, s = strB lb := ⟨_, rfl⟩
  have tla : sa.toList = la := by rw [ByteArray.toList_eq, hsa]; rfl
  have tlb : sb.toList = lb := by rw [ByteArray.toList_eq, hsb]; rfl
  have hF1 : Op.bytesLess sa.toList sb.toList = decide (a < b) := by rw [tla, tlb, hless]
  have hF2 : (sa.toList == sb.toList) = ((a : Int) == (b : Int)) := by
    rw [tla, tlb, Bool.eq_iff_iff, beq_iff_eq, beq_iff_eq, hinj]; omega
  clear tla tlb hless hinj
  have HSA := Lib.hid hsa
  have HSB := Lib.hid hsb
  clear hsa hsb
  go_enter Tryd.func5, Tryd.ntmps5
  go_wp2_with (first
    | (go_at_call 8; (refine (HB.out w1.heap.size 1 (w1.alloc _) ⟨by simp, by simp, by simp, by simp, by simp, by simp, by simp, by simp, by simp⟩).mono ?_; rintro e w2 ⟨A2, c2, A2', c2', rfl, ho2, ho2', hb2⟩; have b2 := below_over hb2; have o2 := ho2.more (K' := w1.heap.size) (by simp); clear hb2 ho2 ho2'; have o1' := o1.below b2; clear o1))
    | (go_at_call 8; (refine (HA.out w.heap.size 1 (w.alloc _) ⟨by simp, by simp, by simp, by simp, by simp, by simp, by simp, by simp, by simp⟩).mono ?_; rintro e w1 ⟨A, c, A', c', rfl, ho1, ho1', hb1⟩; have b1 := below_over hb1; have o1 := ho1.more (K' := w.heap.size) (by simp); clear hb1 ho1 ho1'))
    | (go_at_call 12; refine (wawake_any _).mono ?_; rintro e w3 ⟨rfl, hb3⟩; have o1'' := o1'.below hb3; have o2' := o2.below hb3; have s1 := bs_str o1''.bs.1 rfl; have s2 := bs_str o2'.bs.1 rfl; rw [← HSA.out] at s1; rw [← HSB.out] at s2)
    | fail)
  go_ret
  exact ⟨rfl, b1.trans ((b2.trans (hb3.mono b2.size)).mono b1.size)⟩
end Go.Proofs.YtojkbndaleiaaaaDoor
