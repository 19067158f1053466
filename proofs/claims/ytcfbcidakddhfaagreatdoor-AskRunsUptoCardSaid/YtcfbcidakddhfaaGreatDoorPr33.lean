/- The document's Right and Text of a query; the law's To and From; SameQuery. -/
import Derived.Test.YtcfbcidakddhfaaGreatDoorPr32
import Derived.Test.YtcfbcidakddhfaaGreatDoorPr21
import Derived.Test.YtcfbcidakddhfaaGreatDoorPr14
import Derived.Test.YtcfbcidakddhfaaGreatDoorPr12
import Derived.Test.YtcfbcidakddhfaaGreatDoorPr6
import Derived.BigQuiet
namespace Go.Proofs.YtcfbcidakddhfaaGreatDoor
open Go.RowKit Go.BigFrame

theorem srt_nil : Srt ([] : List Smp) := by simp [Srt]
theorem rwin_nil {op fr to_ st : Int} (h1 : 1 ≤ op) (h2 : op ≤ 5) (hs : spanB fr to_ = true) : (rwinB 2 [] fr to_ st).1 = (windowsB op [] fr to_ st).1 := by
  rw [← windows_same srt_nil, win_nil (by decide) (by decide) hs, win_nil h1 h2 hs]
section
variable {q : Qr} {A : Option Addr} {c K : Nat} {w : World}
set_option maxHeartbeats 3200000 in
theorem rRightQ_any (hr : Rr w K A c q.rs) (hK : K ≤ w.heap.size) (hS : SmR q.rs) (h2 : q.st ≤ 9223372036854775807) :
    Calls Tryz.prog 22 #[qv q A c] w fun e w' => e = .returned (.bool (rightQ q)) ∧ Below w.heap.size w w' := by
  have hcl := hr.le
  have B0 : Below w.heap.size w (w.alloc (.cells (qc q A c) 24)) := (Below.refl _ _).alloc (Nat.le_refl _) _
  have HR := Lib.hid (rRightR_any K A q.rs.length c q.rs (w.alloc (.cells (qc q A c) 24)) rfl (hr.alloc hK _) (by simp; omega) hS)
  have HB0 := Lib.hid B0
  clear hr hS
  by_cases h1 : q.op < 0
  · have HF : Hid (rightQ q = false) := Lib.hid (by unfold rightQ opQ spanB; rw [decide_eq_false (show ¬ 0 ≤ q.op by omega)]; rfl)
    have e1 : decide (q.op < 0) = true := decide_eq_true h1
    clear h1
    go_enter Tryz.func22, Tryz.ntmps22
    go_wp2
    go_ret
    exact ⟨by rw [HF.out]; rfl, B0⟩
  have e1 : decide (q.op < 0) = false := decide_eq_false h1
  by_cases h5 : 5 < q.op
  · have HF : Hid (rightQ q = false) := Lib.hid (by unfold rightQ opQ spanB; rw [decide_eq_false (show ¬ q.op < 6 by omega)]; simp)
    have e5 : decide (5 < q.op) = true := decide_eq_true h5
    clear h1 h5
    go_enter Tryz.func22, Tryz.ntmps22
    go_wp2
    go_ret
    exact ⟨by rw [HF.out]; rfl, B0⟩
  have e5 : decide (5 < q.op) = false := decide_eq_false h5
  have ho : opQ q.op = true := by unfold opQ; rw [decide_eq_true (show 0 ≤ q.op by omega), decide_eq_true (show q.op < 6 by omega)]; rfl
  cases hrl : rulesL q.rs with
  | false =>
    rw [hrl] at HR
    have HF : Hid (rightQ q = false) := Lib.hid (by unfold rightQ; rw [ho, hrl]; rfl)
    clear h1 h5 ho hrl B0
    go_enter Tryz.func22, Tryz.ntmps22
    go_wp2_with fail
    refine HR.out.mono ?_
    rintro e w1 ⟨rfl, b1⟩
    have x0 : w1.cell? ⟨w.heap.size, 0, none⟩ = some (.int .i64 q.op) := kept b1 (by simp [go_sem])
    have x2 : w1.cell? ⟨w.heap.size, 2, none⟩ = some (.int .i64 q.fr) := kept b1 (by simp [go_sem])
    have x3 : w1.cell? ⟨w.heap.size, 3, none⟩ = some (.int .i64 q.to_) := kept b1 (by simp [go_sem])
    have x4 : w1.cell? ⟨w.heap.size, 4, none⟩ = some (.int .i64 q.st) := kept b1 (by simp [go_sem])
    have hz := b1.size
    have hz2 : w.heap.size < w1.heap.size := by simp at hz; omega
    have HB1 : Hid (Below w.heap.size w w1) := Lib.hid (HB0.out.trans (b1.mono (by simp)))
    clear b1 hz
    go_wp2
    go_ret
    exact ⟨by rw [HF.out]; rfl, HB1.out⟩

  | true =>
    rw [hrl] at HR
    have HF0 : rightQ q = (spanB q.fr q.to_ && stepQ q.op q.fr q.to_ q.st) := by unfold rightQ; rw [ho, hrl]; rfl
    clear hrl B0
    by_cases h6 : q.fr < 0
    · have HF : Hid (rightQ q = false) := Lib.hid (by rw [HF0]; unfold spanB; rw [decide_eq_false (show ¬ 0 ≤ q.fr by omega)]; rfl)
      have e6 : decide (q.fr < 0) = true := decide_eq_true h6
      clear h1 h5 ho h6 HF0
      go_enter Tryz.func22, Tryz.ntmps22
      go_wp2_with fail
      refine HR.out.mono ?_
      rintro e w1 ⟨rfl, b1⟩
      have x0 : w1.cell? ⟨w.heap.size, 0, none⟩ = some (.int .i64 q.op) := kept b1 (by simp [go_sem])
      have x2 : w1.cell? ⟨w.heap.size, 2, none⟩ = some (.int .i64 q.fr) := kept b1 (by simp [go_sem])
      have x3 : w1.cell? ⟨w.heap.size, 3, none⟩ = some (.int .i64 q.to_) := kept b1 (by simp [go_sem])
      have x4 : w1.cell? ⟨w.heap.size, 4, none⟩ = some (.int .i64 q.st) := kept b1 (by simp [go_sem])
      have hz := b1.size
      have hz2 : w.heap.size < w1.heap.size := by simp at hz; omega
      have HB1 : Hid (Below w.heap.size w w1) := Lib.hid (HB0.out.trans (b1.mono (by simp)))
      clear b1 hz
      go_wp2
      go_ret
      exact ⟨by rw [HF.out]; rfl, HB1.out⟩

    have e6 : decide (q.fr < 0) = false := decide_eq_false h6
    by_cases h7 : q.to_ < q.fr
    · have HF : Hid (rightQ q = false) := Lib.hid (by rw [HF0]; unfold spanB; rw [decide_eq_false (show ¬ q.fr ≤ q.to_ by omega)]; simp)
      have e7 : decide (q.to_ < q.fr) = true := decide_eq_true h7
      clear h1 h5 ho h6 h7 HF0
      go_enter Tryz.func22, Tryz.ntmps22
      go_wp2_with fail
      refine HR.out.mono ?_
      rintro e w1 ⟨rfl, b1⟩
      have x0 : w1.cell? ⟨w.heap.size, 0, none⟩ = some (.int .i64 q.op) := kept b1 (by simp [go_sem])
      have x2 : w1.cell? ⟨w.heap.size, 2, none⟩ = some (.int .i64 q.fr) := kept b1 (by simp [go_sem])
      have x3 : w1.cell? ⟨w.heap.size, 3, none⟩ = some (.int .i64 q.to_) := kept b1 (by simp [go_sem])
      have x4 : w1.cell? ⟨w.heap.size, 4, none⟩ = some (.int .i64 q.st) := kept b1 (by simp [go_sem])
      have hz := b1.size
      have hz2 : w.heap.size < w1.heap.size := by simp at hz; omega
      have HB1 : Hid (Below w.heap.size w w1) := Lib.hid (HB0.out.trans (b1.mono (by simp)))
      clear b1 hz
      go_wp2
      go_ret
      exact ⟨by rw [HF.out]; rfl, HB1.out⟩

    have e7 : decide (q.to_ < q.fr) = false := decide_eq_false h7
    by_cases h8 : 4611686018427387904 < q.to_
    · have HF : Hid (rightQ q = false) := Lib.hid (by rw [HF0]; unfold spanB; rw [decide_eq_false (show ¬ q.to_ ≤ 4611686018427387904 by omega)]; simp)
      have e8 : decide (4611686018427387904 < q.to_) = true := decide_eq_true h8
      clear h1 h5 ho h6 h7 h8 HF0
      go_enter Tryz.func22, Tryz.ntmps22
      go_wp2_with fail
      refine HR.out.mono ?_
      rintro e w1 ⟨rfl, b1⟩
      have x0 : w1.cell? ⟨w.heap.size, 0, none⟩ = some (.int .i64 q.op) := kept b1 (by simp [go_sem])
      have x2 : w1.cell? ⟨w.heap.size, 2, none⟩ = some (.int .i64 q.fr) := kept b1 (by simp [go_sem])
      have x3 : w1.cell? ⟨w.heap.size, 3, none⟩ = some (.int .i64 q.to_) := kept b1 (by simp [go_sem])
      have x4 : w1.cell? ⟨w.heap.size, 4, none⟩ = some (.int .i64 q.st) := kept b1 (by simp [go_sem])
      have hz := b1.size
      have hz2 : w.heap.size < w1.heap.size := by simp at hz; omega
      have HB1 : Hid (Below w.heap.size w w1) := Lib.hid (HB0.out.trans (b1.mono (by simp)))
      clear b1 hz
      go_wp2
      go_ret
      exact ⟨by rw [HF.out]; rfl, HB1.out⟩

    have e8 : decide (4611686018427387904 < q.to_) = false := decide_eq_false h8
    have hsp : spanB q.fr q.to_ = true := by unfold spanB; rw [decide_eq_true (show 0 ≤ q.fr by omega), decide_eq_true (show q.fr ≤ q.to_ by omega), decide_eq_true (show q.to_ ≤ 4611686018427387904 by omega)]; rfl
    have HF1 : rightQ q = stepQ q.op q.fr q.to_ q.st := by rw [HF0, hsp]; rfl
    clear h6 h7 h8 HF0
    by_cases h0 : q.op = 0
    · have e0 : (q.op == (0 : Int)) = true := by simpa using h0
      have HF : Hid (rightQ q = (q.st == 0)) := Lib.hid (by rw [HF1]; unfold stepQ; rw [if_pos h0])
      clear h1 h5 ho h0 HF1 hsp
      go_enter Tryz.func22, Tryz.ntmps22
      go_wp2_with fail
      refine HR.out.mono ?_
      rintro e w1 ⟨rfl, b1⟩
      have x0 : w1.cell? ⟨w.heap.size, 0, none⟩ = some (.int .i64 q.op) := kept b1 (by simp [go_sem])
      have x2 : w1.cell? ⟨w.heap.size, 2, none⟩ = some (.int .i64 q.fr) := kept b1 (by simp [go_sem])
      have x3 : w1.cell? ⟨w.heap.size, 3, none⟩ = some (.int .i64 q.to_) := kept b1 (by simp [go_sem])
      have x4 : w1.cell? ⟨w.heap.size, 4, none⟩ = some (.int .i64 q.st) := kept b1 (by simp [go_sem])
      have hz := b1.size
      have hz2 : w.heap.size < w1.heap.size := by simp at hz; omega
      have HB1 : Hid (Below w.heap.size w w1) := Lib.hid (HB0.out.trans (b1.mono (by simp)))
      clear b1 hz
      go_wp2
      go_ret
      exact ⟨by rw [HF.out]; rfl, HB1.out⟩

    have e0 : (q.op == (0 : Int)) = false := by simpa using h0
    have HF2 : rightQ q = (((windowsB q.op [] q.fr q.to_ q.st).1 == 0) && decide (q.st ≤ 4611686018427387904)) := by rw [HF1]; unfold stepQ; rw [if_neg h0]
    by_cases h9 : q.st < 1
    · have HF : Hid (rightQ q = false) := Lib.hid (by rw [HF2, win_nil (by omega) (by omega) hsp, if_pos h9]; rfl)
      have e9 : decide (q.st < 1) = true := decide_eq_true h9
      clear h1 h5 ho h0 HF1 HF2 h9 hsp
      go_enter Tryz.func22, Tryz.ntmps22
      go_wp2_with fail
      refine HR.out.mono ?_
      rintro e w1 ⟨rfl, b1⟩
      have x0 : w1.cell? ⟨w.heap.size, 0, none⟩ = some (.int .i64 q.op) := kept b1 (by simp [go_sem])
      have x2 : w1.cell? ⟨w.heap.size, 2, none⟩ = some (.int .i64 q.fr) := kept b1 (by simp [go_sem])
      have x3 : w1.cell? ⟨w.heap.size, 3, none⟩ = some (.int .i64 q.to_) := kept b1 (by simp [go_sem])
      have x4 : w1.cell? ⟨w.heap.size, 4, none⟩ = some (.int .i64 q.st) := kept b1 (by simp [go_sem])
      have hz := b1.size
      have hz2 : w.heap.size < w1.heap.size := by simp at hz; omega
      have HB1 : Hid (Below w.heap.size w w1) := Lib.hid (HB0.out.trans (b1.mono (by simp)))
      clear b1 hz
      go_wp2
      go_ret
      exact ⟨by rw [HF.out]; rfl, HB1.out⟩

    have e9 : decide (q.st < 1) = false := decide_eq_false h9
    by_cases ha : 4611686018427387904 < q.st
    · have HF : Hid (rightQ q = false) := Lib.hid (by rw [HF2, decide_eq_false (show ¬ q.st ≤ 4611686018427387904 by omega)]; simp)
      have ea : decide (4611686018427387904 < q.st) = true := decide_eq_true ha
      clear h1 h5 ho h0 HF1 HF2 h9 ha hsp
      go_enter Tryz.func22, Tryz.ntmps22
      go_wp2_with fail
      refine HR.out.mono ?_
      rintro e w1 ⟨rfl, b1⟩
      have x0 : w1.cell? ⟨w.heap.size, 0, none⟩ = some (.int .i64 q.op) := kept b1 (by simp [go_sem])
      have x2 : w1.cell? ⟨w.heap.size, 2, none⟩ = some (.int .i64 q.fr) := kept b1 (by simp [go_sem])
      have x3 : w1.cell? ⟨w.heap.size, 3, none⟩ = some (.int .i64 q.to_) := kept b1 (by simp [go_sem])
      have x4 : w1.cell? ⟨w.heap.size, 4, none⟩ = some (.int .i64 q.st) := kept b1 (by simp [go_sem])
      have hz := b1.size
      have hz2 : w.heap.size < w1.heap.size := by simp at hz; omega
      have HB1 : Hid (Below w.heap.size w w1) := Lib.hid (HB0.out.trans (b1.mono (by simp)))
      clear b1 hz
      go_wp2
      go_ret
      exact ⟨by rw [HF.out]; rfl, HB1.out⟩

    have ea : decide (4611686018427387904 < q.st) = false := decide_eq_false ha
    have hrw := rwin_nil (op := q.op) (fr := q.fr) (to_ := q.to_) (st := q.st) (by omega) (by omega) hsp
    have HF : Hid (rightQ q = ((rwinB 2 [] q.fr q.to_ q.st).1 == 0)) := Lib.hid (by rw [HF2, hrw, decide_eq_true (show q.st ≤ 4611686018427387904 by omega), Bool.and_true])
    have HW := Lib.hid (fun W => rwindows_any 2 0 none 0 0 [] q.fr q.to_ q.st W rfl (Sr.none_ _ _) (Nat.zero_le _) (fun x hx => by cases hx) h2)
    generalize rwinB 2 [] q.fr q.to_ q.st = P at HF HW
    obtain ⟨r, cs⟩ := P
    clear h1 h5 ho h0 HF1 HF2 h9 ha hsp hrw
    go_enter Tryz.func22, Tryz.ntmps22
    go_wp2_with fail
    refine HR.out.mono ?_
    rintro e w1 ⟨rfl, b1⟩
    have x0 : w1.cell? ⟨w.heap.size, 0, none⟩ = some (.int .i64 q.op) := kept b1 (by simp [go_sem])
    have x2 : w1.cell? ⟨w.heap.size, 2, none⟩ = some (.int .i64 q.fr) := kept b1 (by simp [go_sem])
    have x3 : w1.cell? ⟨w.heap.size, 3, none⟩ = some (.int .i64 q.to_) := kept b1 (by simp [go_sem])
    have x4 : w1.cell? ⟨w.heap.size, 4, none⟩ = some (.int .i64 q.st) := kept b1 (by simp [go_sem])
    have hz := b1.size
    have hz2 : w.heap.size < w1.heap.size := by simp at hz; omega
    have HB1 : Hid (Below w.heap.size w w1) := Lib.hid (HB0.out.trans (b1.mono (by simp)))
    clear b1 hz

    go_wp2_with fail
    refine (HW.out _).mono ?_
    rintro e w2 ⟨A9, c9, rfl, _, b2⟩
    have HB2 : Hid (Below w.heap.size w w2) := Lib.hid (HB1.out.trans (b2.mono HB1.out.size))
    clear b2
    go_wp2
    go_ret
    exact ⟨by rw [HF.out]; rfl, HB2.out⟩
end

theorem str_add9 (a b : ByteArray) (h : a.size + b.size ≤ 9223372036854775807) : Op.stringOp .add a b = pure (.string (a ++ b)) := str_add a b h
/-- The box of a query of the document's, and its rules, seen from the world w. -/
structure Tq (w wx : World) (q : Qr) (A : Option Addr) (c K : Nat) : Prop where
  bx : Rwo wx w.heap.size (qc q A c) 24
  bl : Below w.heap.size w wx
  rr : Rr wx K A c q.rs
  hk : K ≤ w.heap.size
theorem Tq.below {w wx wy : World} {q : Qr} {A : Option Addr} {c K : Nat} (h : Tq w wx q A c K) (hb : Below wx.heap.size wx wy) : Tq w wy q A c K :=
  ⟨h.bx.below hb, h.bl.trans (hb.mono h.bl.size), h.rr.below (hb.mono (Nat.le_trans h.hk h.bl.size)), h.hk⟩
theorem Tq.hk2 {w wx : World} {q : Qr} {A : Option Addr} {c K : Nat} (h : Tq w wx q A c K) : K ≤ wx.heap.size := Nat.le_trans h.hk h.bl.size
end Go.Proofs.YtcfbcidakddhfaaGreatDoor
