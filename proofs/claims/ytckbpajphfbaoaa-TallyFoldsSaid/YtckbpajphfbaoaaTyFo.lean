/- TallyFolds: its walk. -/
import Derived.Test.YtckbpajphfbaoaaTyRf
namespace Go.Proofs.Ytckbpajphfbaoaa
open Go.RowKit

set_option maxRecDepth 100000 in
set_option maxHeartbeats 1600000 in
theorem tyfolds_any (op : Int) (A0 : Option Addr) (cap0 : Nat) (l : List Smp) (w : World) (h0 : Sr encS 2 w w.heap.size A0 cap0 l) (ho : ∀ u ∈ l, Sok u) (hl : l.length * 16 ≤ 140737488355328) (_ho : -9223372036854775808 ≤ op ∧ op ≤ 9223372036854775807) :
    Calls Try.prog 3 #[.int .i64 op, .slice A0 l.length cap0] w (Ok0 w) := by
  have HTo := Lib.hid (to_any w.heap.size A0 l.length cap0 l w rfl h0 (Nat.le_refl _) hl)
  have HF := Lib.hid (fun (A : Option Addr) (cap : Nat) W (h : Sr encS 2 W W.heap.size A cap l) => fold_any op W.heap.size A l.length cap l W rfl h (Nat.le_refl _) ho)
  have HR := Lib.hid (fun W (h : Below w.heap.size w W) => rfold_any op w.heap.size A0 l.length cap0 l W rfl (h0.below h) h.size ho)
  generalize foldB op l = p at *
  obtain ⟨p1, p2, p3⟩ := p
  clear h0 ho hl _ho
  go_enter Try.func3, Try.ntmps3
  go_wp2_with fail
  refine HTo.out.mono ?_
  rintro e w1 ⟨A, cap, rfl, so1, b1⟩
  have HS1 := Lib.hid (so1.sr encS_len).1
  have HB1 := Lib.hid b1
  clear so1 b1 HTo
  go_wp2_with fail
  refine (HF.out _ _ _ HS1.out).mono ?_
  rintro e w2 ⟨rfl, b2⟩
  have HB2 := Lib.hid (HB1.out.trans (b2.mono HB1.out.size))
  clear b2 HF HS1 HB1
  go_wp2_with fail
  refine (HR.out _ HB2.out).mono ?_
  rintro e w3 ⟨rfl, b3⟩
  have HB3 := Lib.hid (HB2.out.trans (b3.mono HB2.out.size))
  clear b3 HR HB2
  go_wp2_with fail
  refine (awake_any _).mono ?_
  rintro e w4 ⟨rfl, b4⟩
  have HB4 := HB3.out.trans (b4.mono HB3.out.size)
  go_wp2_with fail
  go_ret
  exact ⟨by simp, HB4⟩
end Go.Proofs.Ytckbpajphfbaoaa
