/- The document's Right and Text of a query; the law's To and From; SameQuery. -/
import Derived.Test.YtcmpenmaphmifaaGreatDoorPk12
import Derived.Test.YtcmpenmaphmifaaGreatDoorPk6
import Derived.Test.YtcmpenmaphmifaaGreatDoorPk11
import Derived.Test.YtcmpenmaphmifaaGreatDoorPk13
import Derived.BigQuiet
namespace Go.Proofs.YtcmpenmaphmifaaGreatDoor
open Go.RowKit Go.BigFrame

theorem srt_nil : Srt ([] : List Smp) := by simp [Srt]
theorem rwin_nil {op fr to_ st : Int} (h1 : 1 ≤ op) (h2 : op ≤ 5) (hs : spanB fr to_ = true) : (rwinB 2 [] fr to_ st).1 = (windowsB op [] fr to_ st).1 := by
  rw [← windows_same srt_nil, win_nil (by decide) (by decide) hs, win_nil h1 h2 hs]
section
variable {q : Qr} {A : Option Addr} {c K : Nat} {w : World}
set_option maxHeartbeats 3200000 in
theorem rRightQ_any (hr : Rr w K A c q.rs) (hK : K ≤ w.heap.size) (hS : SmR q.rs) (h2 : q.st ≤ 9223372036854775807) :
    Calls Tryz.prog 12 #[qv q A c] w fun e w' => e = .returned (.bool (rightQ q)) ∧ Below w.heap.size w w' := by
  have hcl := hr.le
  have B0 : Below w.heap.size w (w.alloc (.cells (qc q A c) 24)) := (Below.refl _ _).alloc (Nat.le_refl _) _
  have HR := Lib.hid (rRightR_any K A q.rs.length c q.rs (w.alloc (.cells (qc q A c) 24)) rfl (hr.alloc hK _) (by simp; omega) hS)
  have HB0 := Lib.hid B0
  clear hr hS
  by_cases h1 : q.op < 0
  · have HF : Hid (rightQ q = false) := Lib.hid (by unfold rightQ opQ spanB; rw [decide_eq_false (show ¬ 0 ≤ q.op by omega)]; rfl)
    have e1 : decide (q.op < 0) = true := decide_eq_true h1
    clear h1
    go_enter Tryz.func12, Tryz.ntmps12
    go_wp2
    go_ret
    exact ⟨by rw [HF.out]; rfl, B0⟩
  have e1 : decide (q.op < 0) = false := decide_eq_false h1
  by_cases h5 : 5 < q.op
  · have HF : Hid (rightQ q = false) := Lib.hid (by unfold rightQ opQ spanB; rw [decide_eq_false (show ¬ q.op < 6 by omega)]; simp)
    have e5 : decide (5 < q.op) = true := decide_eq_true h5
    clear h1 h5
    go_enter Tryz.func12, Tryz.ntmps12
    go_wp2
    go_ret
    exact ⟨by rw [HF.out]; rfl, B0⟩
  have e5 : decide (5 < q.op) = false := decide_eq_false h5
  have ho : opQ q.op = true := by unfold opQ; rw [decide_eq_true (show 0 ≤ q.op by omega), decide_eq_true (show q.op < 6 by omega)]; rfl
  cases hrl : rulesL q.rs with
  | false =>
    rw [hrl] at HR
    have HF : Hid (rightQ q = false) := Lib.hid (by unfold rightQ; rw [ho, hrl]; rfl)
    clear h1 h5 ho hrl B0
    go_enter Tryz.func12, Tryz.ntmps12
    go_wp2_with fail
    refine HR.out.mono ?_
    rintro e w1 ⟨rfl, b1⟩
    have x0 : w1.cell? ⟨w.heap.size, 0, none⟩ = some (.int .i64 q.op) := kept b1 (by simp [go_sem])
    have x2 : w1.cell? ⟨w.heap.size, 2, none⟩ = some (.int .i64 q.fr) := kept b1 (by simp [go_sem])
    have x3 : w1.cell? ⟨w.heap.size, 3, none⟩ = some (.int .i64 q.to_) := kept b1 (by simp [go_sem])
    have x4 : w1.cell? ⟨w.heap.size, 4, none⟩ = some (.int .i64 q.st) := kept b1 (by simp [go_sem])
    have hz := b1.size
    have hz2 : w.heap.size < w1.heap.size := by simp at hz; omega
    have HB1 : Hid (Below w.heap.size w w1) := Lib.hid (HB0.out.trans (b1.mono (by simp)))
    clear b1 hz
    go_wp2
    go_ret
    exact ⟨by rw [HF.out]; rfl, HB1.out⟩

  | true =>
    rw [hrl] at HR
    have HF0 : rightQ q = (spanB q.fr q.to_ && stepQ q.op q.fr q.to_ q.st) := by unfold rightQ; rw [ho, hrl]; rfl
    clear hrl B0
    by_cases h6 : q.fr < 0
    · have HF : Hid (rightQ q = false) := Lib.hid (by rw [HF0]; unfold spanB; rw [decide_eq_false (show ¬ 0 ≤ q.fr by omega)]; rfl)
      have e6 : decide (q.fr < 0) = true := decide_eq_true h6
      clear h1 h5 ho h6 HF0
      go_enter Tryz.func12, Tryz.ntmps12
      go_wp2_with fail
      refine HR.out.mono ?_
      rintro e w1 ⟨rfl, b1⟩
      have x0 : w1.cell? ⟨w.heap.size, 0, none⟩ = some (.int .i64 q.op) := kept b1 (by simp [go_sem])
      have x2 : w1.cell? ⟨w.heap.size, 2, none⟩ = some (.int .i64 q.fr) := kept b1 (by simp [go_sem])
      have x3 : w1.cell? ⟨w.heap.size, 3, none⟩ = some (.int .i64 q.to_) := kept b1 (by simp [go_sem])
      have x4 : w1.cell? ⟨w.heap.size, 4, none⟩ = some (.int .i64 q.st) := kept b1 (by simp [go_sem])
      have hz := b1.size
      have hz2 : w.heap.size < w1.heap.size := by simp at hz; omega
      have HB1 : Hid (Below w.heap.size w w1) := Lib.hid (HB0.out.trans (b1.mono (by simp)))
      clear b1 hz
      go_wp2
      go_ret
      exact ⟨by rw [HF.out]; rfl, HB1.out⟩

    have e6 : decide (q.fr < 0) = false := decide_eq_false h6
    by_cases h7 : q.to_ < q.fr
    · have HF : Hid (rightQ q = false) := Lib.hid (by rw [HF0]; unfold spanB; rw [decide_eq_false (show ¬ q.fr ≤ q.to_ by omega)]; simp)
      have e7 : decide (q.to_ < q.fr) = true := decide_eq_true h7
      clear h1 h5 ho h6 h7 HF0
      go_enter Tryz.func12, Tryz.ntmps12
      go_wp2_with fail
      refine HR.out.mono ?_
      rintro e w1 ⟨rfl, b1⟩
      have x0 : w1.cell? ⟨w.heap.size, 0, none⟩ = some (.int .i64 q.op) := kept b1 (by simp [go_sem])
      have x2 : w1.cell? ⟨w.heap.size, 2, none⟩ = some (.int .i64 q.fr) := kept b1 (by simp [go_sem])
      have x3 : w1.cell? ⟨w.heap.size, 3, none⟩ = some (.int .i64 q.to_) := kept b1 (by simp [go_sem])
      have x4 : w1.cell? ⟨w.heap.size, 4, none⟩ = some (.int .i64 q.st) := kept b1 (by simp [go_sem])
      have hz := b1.size
      have hz2 : w.heap.size < w1.heap.size := by simp at hz; omega
      have HB1 : Hid (Below w.heap.size w w1) := Lib.hid (HB0.out.trans (b1.mono (by simp)))
      clear b1 hz
      go_wp2
      go_ret
      exact ⟨by rw [HF.out]; rfl, HB1.out⟩

    have e7 : decide (q.to_ < q.fr) = false := decide_eq_false h7
    by_cases h8 : 4611686018427387904 < q.to_
    · have HF : Hid (rightQ q = false) := Lib.hid (by rw [HF0]; unfold spanB; rw [decide_eq_false (show ¬ q.to_ ≤ 4611686018427387904 by omega)]; simp)
      have e8 : decide (4611686018427387904 < q.to_) = true := decide_eq_true h8
      clear h1 h5 ho h6 h7 h8 HF0
      go_enter Tryz.func12, Tryz.ntmps12
      go_wp2_with fail
      refine HR.out.mono ?_
      rintro e w1 ⟨rfl, b1⟩
      have x0 : w1.cell? ⟨w.heap.size, 0, none⟩ = some (.int .i64 q.op) := kept b1 (by simp [go_sem])
      have x2 : w1.cell? ⟨w.heap.size, 2, none⟩ = some (.int .i64 q.fr) := kept b1 (by simp [go_sem])
      have x3 : w1.cell? ⟨w.heap.size, 3, none⟩ = some (.int .i64 q.to_) := kept b1 (by simp [go_sem])
      have x4 : w1.cell? ⟨w.heap.size, 4, none⟩ = some (.int .i64 q.st) := kept b1 (by simp [go_sem])
      have hz := b1.size
      have hz2 : w.heap.size < w1.heap.size := by simp at hz; omega
      have HB1 : Hid (Below w.heap.size w w1) := Lib.hid (HB0.out.trans (b1.mono (by simp)))
      clear b1 hz
      go_wp2
      go_ret
      exact ⟨by rw [HF.out]; rfl, HB1.out⟩

    have e8 : decide (4611686018427387904 < q.to_) = false := decide_eq_false h8
    have hsp : spanB q.fr q.to_ = true := by unfold spanB; rw [decide_eq_true (show 0 ≤ q.fr by omega), decide_eq_true (show q.fr ≤ q.to_ by omega), decide_eq_true (show q.to_ ≤ 4611686018427387904 by omega)]; rfl
    have HF1 : rightQ q = stepQ q.op q.fr q.to_ q.st := by rw [HF0, hsp]; rfl
    clear h6 h7 h8 HF0
    by_cases h0 : q.op = 0
    · have e0 : (q.op == (0 : Int)) = true := by simpa using h0
      have HF : Hid (rightQ q = (q.st == 0)) := Lib.hid (by rw [HF1]; unfold stepQ; rw [if_pos h0])
      clear h1 h5 ho h0 HF1 hsp
      go_enter Tryz.func12, Tryz.ntmps12
      go_wp2_with fail
      refine HR.out.mono ?_
      rintro e w1 ⟨rfl, b1⟩
      have x0 : w1.cell? ⟨w.heap.size, 0, none⟩ = some (.int .i64 q.op) := kept b1 (by simp [go_sem])
      have x2 : w1.cell? ⟨w.heap.size, 2, none⟩ = some (.int .i64 q.fr) := kept b1 (by simp [go_sem])
      have x3 : w1.cell? ⟨w.heap.size, 3, none⟩ = some (.int .i64 q.to_) := kept b1 (by simp [go_sem])
      have x4 : w1.cell? ⟨w.heap.size, 4, none⟩ = some (.int .i64 q.st) := kept b1 (by simp [go_sem])
      have hz := b1.size
      have hz2 : w.heap.size < w1.heap.size := by simp at hz; omega
      have HB1 : Hid (Below w.heap.size w w1) := Lib.hid (HB0.out.trans (b1.mono (by simp)))
      clear b1 hz
      go_wp2
      go_ret
      exact ⟨by rw [HF.out]; rfl, HB1.out⟩

    have e0 : (q.op == (0 : Int)) = false := by simpa using h0
    have HF2 : rightQ q = (((windowsB q.op [] q.fr q.to_ q.st).1 == 0) && decide (q.st ≤ 4611686018427387904)) := by rw [HF1]; unfold stepQ; rw [if_neg h0]
    by_cases h9 : q.st < 1
    · have HF : Hid (rightQ q = false) := Lib.hid (by rw [HF2, win_nil (by omega) (by omega) hsp, if_pos h9]; rfl)
      have e9 : decide (q.st < 1) = true := decide_eq_true h9
      clear h1 h5 ho h0 HF1 HF2 h9 hsp
      go_enter Tryz.func12, Tryz.ntmps12
      go_wp2_with fail
      refine HR.out.mono ?_
      rintro e w1 ⟨rfl, b1⟩
      have x0 : w1.cell? ⟨w.heap.size, 0, none⟩ = some (.int .i64 q.op) := kept b1 (by simp [go_sem])
      have x2 : w1.cell? ⟨w.heap.size, 2, none⟩ = some (.int .i64 q.fr) := kept b1 (by simp [go_sem])
      have x3 : w1.cell? ⟨w.heap.size, 3, none⟩ = some (.int .i64 q.to_) := kept b1 (by simp [go_sem])
      have x4 : w1.cell? ⟨w.heap.size, 4, none⟩ = some (.int .i64 q.st) := kept b1 (by simp [go_sem])
      have hz := b1.size
      have hz2 : w.heap.size < w1.heap.size := by simp at hz; omega
      have HB1 : Hid (Below w.heap.size w w1) := Lib.hid (HB0.out.trans (b1.mono (by simp)))
      clear b1 hz
      go_wp2
      go_ret
      exact ⟨by rw [HF.out]; rfl, HB1.out⟩

    have e9 : decide (q.st < 1) = false := decide_eq_false h9
    by_cases ha : 4611686018427387904 < q.st
    · have HF : Hid (rightQ q = false) := Lib.hid (by rw [HF2, decide_eq_false (show ¬ q.st ≤ 4611686018427387904 by omega)]; simp)
      have ea : decide (4611686018427387904 < q.st) = true := decide_eq_true ha
      clear h1 h5 ho h0 HF1 HF2 h9 ha hsp
      go_enter Tryz.func12, Tryz.ntmps12
      go_wp2_with fail
      refine HR.out.mono ?_
      rintro e w1 ⟨rfl, b1⟩
      have x0 : w1.cell? ⟨w.heap.size, 0, none⟩ = some (.int .i64 q.op) := kept b1 (by simp [go_sem])
      have x2 : w1.cell? ⟨w.heap.size, 2, none⟩ = some (.int .i64 q.fr) := kept b1 (by simp [go_sem])
      have x3 : w1.cell? ⟨w.heap.size, 3, none⟩ = some (.int .i64 q.to_) := kept b1 (by simp [go_sem])
      have x4 : w1.cell? ⟨w.heap.size, 4, none⟩ = some (.int .i64 q.st) := kept b1 (by simp [go_sem])
      have hz := b1.size
      have hz2 : w.heap.size < w1.heap.size := by simp at hz; omega
      have HB1 : Hid (Below w.heap.size w w1) := Lib.hid (HB0.out.trans (b1.mono (by simp)))
      clear b1 hz
      go_wp2
      go_ret
      exact ⟨by rw [HF.out]; rfl, HB1.out⟩

    have ea : decide (4611686018427387904 < q.st) = false := decide_eq_false ha
    have hrw := rwin_nil (op := q.op) (fr := q.fr) (to_ := q.to_) (st := q.st) (by omega) (by omega) hsp
    have HF : Hid (rightQ q = ((rwinB 2 [] q.fr q.to_ q.st).1 == 0)) := Lib.hid (by rw [HF2, hrw, decide_eq_true (show q.st ≤ 4611686018427387904 by omega), Bool.and_true])
    have HW := Lib.hid (fun W => rwindows_any 2 0 none 0 0 [] q.fr q.to_ q.st W rfl (Sr.none_ _ _) (Nat.zero_le _) (fun x hx => by cases hx) h2)
    generalize rwinB 2 [] q.fr q.to_ q.st = P at HF HW
    obtain ⟨r, cs⟩ := P
    clear h1 h5 ho h0 HF1 HF2 h9 ha hsp hrw
    go_enter Tryz.func12, Tryz.ntmps12
    go_wp2_with fail
    refine HR.out.mono ?_
    rintro e w1 ⟨rfl, b1⟩
    have x0 : w1.cell? ⟨w.heap.size, 0, none⟩ = some (.int .i64 q.op) := kept b1 (by simp [go_sem])
    have x2 : w1.cell? ⟨w.heap.size, 2, none⟩ = some (.int .i64 q.fr) := kept b1 (by simp [go_sem])
    have x3 : w1.cell? ⟨w.heap.size, 3, none⟩ = some (.int .i64 q.to_) := kept b1 (by simp [go_sem])
    have x4 : w1.cell? ⟨w.heap.size, 4, none⟩ = some (.int .i64 q.st) := kept b1 (by simp [go_sem])
    have hz := b1.size
    have hz2 : w.heap.size < w1.heap.size := by simp at hz; omega
    have HB1 : Hid (Below w.heap.size w w1) := Lib.hid (HB0.out.trans (b1.mono (by simp)))
    clear b1 hz

    go_wp2_with fail
    refine (HW.out _).mono ?_
    rintro e w2 ⟨A9, c9, rfl, _, b2⟩
    have HB2 : Hid (Below w.heap.size w w2) := Lib.hid (HB1.out.trans (b2.mono HB1.out.size))
    clear b2
    go_wp2
    go_ret
    exact ⟨by rw [HF.out]; rfl, HB2.out⟩
end

theorem str_add9 (a b : ByteArray) (h : a.size + b.size ≤ 9223372036854775807) : Op.stringOp .add a b = pure (.string (a ++ b)) := str_add a b h
/-- The box of a query of the document's, and its rules, seen from the world w. -/
structure Tq (w wx : World) (q : Qr) (A : Option Addr) (c K : Nat) : Prop where
  bx : Rwo wx w.heap.size (qc q A c) 24
  bl : Below w.heap.size w wx
  rr : Rr wx K A c q.rs
  hk : K ≤ w.heap.size
theorem Tq.below {w wx wy : World} {q : Qr} {A : Option Addr} {c K : Nat} (h : Tq w wx q A c K) (hb : Below wx.heap.size wx wy) : Tq w wy q A c K :=
  ⟨h.bx.below hb, h.bl.trans (hb.mono h.bl.size), h.rr.below (hb.mono (Nat.le_trans h.hk h.bl.size)), h.hk⟩
theorem Tq.hk2 {w wx : World} {q : Qr} {A : Option Addr} {c K : Nat} (h : Tq w wx q A c K) : K ≤ wx.heap.size := Nat.le_trans h.hk h.bl.size
set_option maxRecDepth 100000 in
set_option maxHeartbeats 6400000 in
theorem rTextQ_any {q : Qr} {A : Option Addr} {c K0 : Nat} (w : World) (hr : Rr w K0 A c q.rs) (hK : K0 ≤ w.heap.size) (hS : SmR q.rs) (hl : q.rs.length ≤ 1048576) (hq : Qok q) :
    Calls Tryz.prog 14 #[qv q A c] w (NewStr w ⟨(textQ q).toArray⟩) := by
  have HSR : Hid (SmR2 q.rs) := Lib.hid hS
  have HLl := Lib.hid hl
  have HQ := Lib.hid hq
  obtain ⟨W, hW⟩ : ∃ W, W = wordQ q.op := ⟨_, rfl⟩
  obtain ⟨T, hT⟩ : ∃ T, T = textR q.rs := ⟨_, rfl⟩
  obtain ⟨M1, hM1⟩ : ∃ M, M = Lib.itoa q.fr := ⟨_, rfl⟩
  obtain ⟨M2, hM2⟩ : ∃ M, M = Lib.itoa q.to_ := ⟨_, rfl⟩
  obtain ⟨M3, hM3⟩ : ∃ M, M = Lib.itoa q.st := ⟨_, rfl⟩
  have l1 : W.length ≤ 6 := by rw [hW]; exact wordQ_len _
  have l2 : T.length ≤ 4194305048578 := by rw [hT]; have := textR_len hS; omega
  have l3 : M1.length ≤ 21 := by rw [hM1]; exact itoa_len hq.f1 hq.f2
  have l4 : M2.length ≤ 21 := by rw [hM2]; exact itoa_len hq.t1 hq.t2
  have l5 : M3.length ≤ 21 := by rw [hM3]; exact itoa_len hq.s1 hq.s2
  obtain ⟨s1, h1⟩ : ∃ s1, s1 = W ++ T := ⟨_, rfl⟩
  obtain ⟨s2, h2⟩ : ∃ s2, s2 = s1 ++ [32] := ⟨_, rfl⟩
  obtain ⟨s3, h3⟩ : ∃ s3, s3 = s2 ++ M1 := ⟨_, rfl⟩
  obtain ⟨s4, h4⟩ : ∃ s4, s4 = s3 ++ [32] := ⟨_, rfl⟩
  obtain ⟨s5, h5⟩ : ∃ s5, s5 = s4 ++ M2 := ⟨_, rfl⟩
  obtain ⟨s6, h6⟩ : ∃ s6, s6 = s5 ++ [32] := ⟨_, rfl⟩
  obtain ⟨s7, h7⟩ : ∃ s7, s7 = s6 ++ M3 := ⟨_, rfl⟩
  have HLS : Hid (W.length ≤ 6 ∧ T.length ≤ 4194305048578 ∧ M1.length ≤ 21 ∧ M2.length ≤ 21 ∧ M3.length ≤ 21 ∧ s1.length ≤ 5000000000000 ∧ s2.length ≤ 5000000000000 ∧ s3.length ≤ 5000000000000 ∧ s4.length ≤ 5000000000000 ∧ s5.length ≤ 5000000000000 ∧ s6.length ≤ 5000000000000 ∧ s7.length ≤ 5000000000000) := Lib.hid (by
    have e1 := congrArg List.length h1
    have e2 := congrArg List.length h2
    have e3 := congrArg List.length h3
    have e4 := congrArg List.length h4
    have e5 := congrArg List.length h5
    have e6 := congrArg List.length h6
    have e7 := congrArg List.length h7
    simp only [List.length_append, List.length_cons, List.length_nil] at e1 e2 e3 e4 e5 e6 e7
    omega)
  have HTT : textQ q = s1 ++ numsL (numsQ q) ++ (if q.nt = true then notesL else []) := by unfold textQ; rw [← hW, ← hT, ← h1]
  have HT0 : Hid (q.op = 0 → textQ q = s5 ++ (if q.nt = true then notesL else [])) := Lib.hid fun h0 => by
    rw [HTT, h5, h4, h3, h2, hM1, hM2]
    unfold numsQ
    rw [if_pos h0]
    simp [numsL]
  have HT1 : Hid (¬ q.op = 0 → textQ q = s7 ++ (if q.nt = true then notesL else [])) := Lib.hid fun h0 => by
    rw [HTT, h7, h6, h5, h4, h3, h2, hM1, hM2, hM3]
    unfold numsQ
    rw [if_neg h0]
    simp [numsL]
  have HCW : Hid (∀ wx, Calls Tryz.prog 30 #[.int .i64 q.op] wx fun e w' => e = .returned (.string (strB W)) ∧ Below wx.heap.size wx w') := Lib.hid fun wx => by
    rw [hW]
    exact (rWord_any q.op wx).mono fun e w' h => ⟨h.1, by rw [← h.2]; exact Below.refl _ _⟩
  have HCT : Hid (∀ wx, Tq w wx q A c K0 → Calls Tryz.prog 47 #[.slice A q.rs.length c] wx fun e w' => e = .returned (.string (strB T)) ∧ Below wx.heap.size wx w') := Lib.hid fun wx h => by
    rw [hT]
    exact rTextR_any K0 A q.rs.length c q.rs wx rfl h.rr h.hk2 HSR.out HLl.out
  have HC1 : Hid (∀ wx, Calls Tryz.prog 48 #[.int .i64 q.fr] wx fun e w' => e = .returned (.string (strB M1)) ∧ Below wx.heap.size wx w') := Lib.hid fun wx => by
    rw [hM1]
    exact whole_any q.fr wx HQ.out.f1 HQ.out.f2
  have HC2 : Hid (∀ wx, Calls Tryz.prog 48 #[.int .i64 q.to_] wx fun e w' => e = .returned (.string (strB M2)) ∧ Below wx.heap.size wx w') := Lib.hid fun wx => by
    rw [hM2]
    exact whole_any q.to_ wx HQ.out.t1 HQ.out.t2
  have HC3 : Hid (∀ wx, Calls Tryz.prog 48 #[.int .i64 q.st] wx fun e w' => e = .returned (.string (strB M3)) ∧ Below wx.heap.size wx w') := Lib.hid fun wx => by
    rw [hM3]
    exact whole_any q.st wx HQ.out.s1 HQ.out.s2
  have H1 := Lib.hid h1
  have H2 := Lib.hid h2
  have H3 := Lib.hid h3
  have H4 := Lib.hid h4
  have H5 := Lib.hid h5
  have H6 := Lib.hid h6
  have H7 := Lib.hid h7
  clear h1 h2 h3 h4 h5 h6 h7 hW hT hM1 hM2 hM3 l1 l2 l3 l4 l5 HTT
  have HTB : Hid (Tq w (w.alloc (.cells (qc q A c) 24)) q A c K0) := Lib.hid ⟨⟨heap_alloc_new w _⟩, (Below.refl _ _).alloc (Nat.le_refl _) _, hr.alloc hK _, hK⟩
  clear hr hK hS hl hq
  go_enter Tryz.func14, Tryz.ntmps14
  go_upto_region 1 with fail
  generalize w.alloc (.cells (qc q A c) 24) = w1 at HTB ⊢
  apply region_V (fun (x : Value) (u : Value) (_ : World) => u = x) (fun wx => Tq w wx q A c K0) [(.pointer (some ⟨w.heap.size, 0, none⟩)), (.int .i64 q.op), (.string (strB (W))), (.pointer (some ⟨w.heap.size, 1, none⟩)), (.slice A q.rs.length c), (.string (strB (T))), (.string (strB (s1))), (.string (strB (s2))), (.pointer (some ⟨w.heap.size, 2, none⟩)), (.int .i64 q.fr), (.string (strB (M1))), (.string (strB (s3))), (.string (strB (s4))), (.pointer (some ⟨w.heap.size, 3, none⟩)), (.int .i64 q.to_), (.string (strB (M2))), (.string (strB (s5))), (.string (strB (s5)))] (undef)
  case mono => exact fun p v w0 w1 h hb => h
  case hm => kernel_rfl
  case hf => kernel_rfl
  case hQ => exact (by intro c x y w e h; exact And.intro (e.symm.trans (And.left h)) (And.right h))
  case hF => intro vs; simp only [putAll, Act.put, List.setIfInBounds_toArray, List.set_cons_zero, List.set_cons_succ, Nat.reduceAdd]; rfl
  case h0 => exact HTB.out.below ⟨rfl, rfl, rfl, Nat.le_refl _, fun _ _ => rfl⟩
  case hstep =>
    repeat' (first | exact AllOps.nil | apply AllOps.cons)
    · intro vs wx hG hd K hK
      replace hK : ∀ (uu : Value) (w' : World), Below wx.heap.size wx w' → ((fun wx => Tq w wx q A c K0)) w' → (fun (x : Value) (u : Value) (_ : World) => u = x) ((.pointer (some ⟨w.heap.size, 0, none⟩))) uu w' → K _ w' := hK
      simp only [Act.put, List.setIfInBounds_toArray, List.set_cons_zero, List.set_cons_succ] at hK ⊢
      have HK := Lib.hid hK
      have HG := Lib.hid hG
      clear hK hd
      clear hG
      go_simp
      exact HK.out _ _ (Below.refl _ _) HG.out rfl
    · intro vs wx hG hd K hK
      have e0 : vs 0 = .pointer (some ⟨w.heap.size, 0, none⟩) := hd.get (j := 0) (by simp [depsOf, Region.binds])
      replace hK : ∀ (uu : Value) (w' : World), Below wx.heap.size wx w' → ((fun wx => Tq w wx q A c K0)) w' → (fun (x : Value) (u : Value) (_ : World) => u = x) ((.int .i64 q.op)) uu w' → K _ w' := hK
      simp only [Act.put, List.setIfInBounds_toArray, List.set_cons_zero, List.set_cons_succ, e0] at hK ⊢
      have HK := Lib.hid hK
      have HG := Lib.hid hG
      clear hK hd e0
      have X := HG.out.bx
      have x0 : wx.cell? ⟨w.heap.size, 0, none⟩ = some (.int .i64 q.op) := X.cell rfl
      have x1 : wx.cell? ⟨w.heap.size, 1, none⟩ = some (.slice A q.rs.length c) := X.cell rfl
      have x2 : wx.cell? ⟨w.heap.size, 2, none⟩ = some (.int .i64 q.fr) := X.cell rfl
      have x3 : wx.cell? ⟨w.heap.size, 3, none⟩ = some (.int .i64 q.to_) := X.cell rfl
      have xl := X.lt
      clear X hG
      go_simp
      exact HK.out _ _ (Below.refl _ _) HG.out rfl
    · intro vs wx hG hd K hK
      have e1 : vs 1 = .int .i64 q.op := hd.get (j := 1) (by simp [depsOf, Region.binds])
      replace hK : ∀ (uu : Value) (w' : World), Below wx.heap.size wx w' → ((fun wx => Tq w wx q A c K0)) w' → (fun (x : Value) (u : Value) (_ : World) => u = x) ((.string (strB (W)))) uu w' → K _ w' := hK
      simp only [Act.put, List.setIfInBounds_toArray, List.set_cons_zero, List.set_cons_succ, e1] at hK ⊢
      have HK := Lib.hid hK
      have HG := Lib.hid hG
      clear hK hd e1
      clear hG
      go_simp
      go_at_call 30
      refine (HCW.out wx).mono ?_
      rintro e w1 ⟨rfl, hb⟩
      exact HK.out _ _ hb (HG.out.below hb) rfl
    · intro vs wx hG hd K hK
      replace hK : ∀ (uu : Value) (w' : World), Below wx.heap.size wx w' → ((fun wx => Tq w wx q A c K0)) w' → (fun (x : Value) (u : Value) (_ : World) => u = x) ((.pointer (some ⟨w.heap.size, 1, none⟩))) uu w' → K _ w' := hK
      simp only [Act.put, List.setIfInBounds_toArray, List.set_cons_zero, List.set_cons_succ] at hK ⊢
      have HK := Lib.hid hK
      have HG := Lib.hid hG
      clear hK hd
      clear hG
      go_simp
      exact HK.out _ _ (Below.refl _ _) HG.out rfl
    · intro vs wx hG hd K hK
      have e3 : vs 3 = .pointer (some ⟨w.heap.size, 1, none⟩) := hd.get (j := 3) (by simp [depsOf, Region.binds])
      replace hK : ∀ (uu : Value) (w' : World), Below wx.heap.size wx w' → ((fun wx => Tq w wx q A c K0)) w' → (fun (x : Value) (u : Value) (_ : World) => u = x) ((.slice A q.rs.length c)) uu w' → K _ w' := hK
      simp only [Act.put, List.setIfInBounds_toArray, List.set_cons_zero, List.set_cons_succ, e3] at hK ⊢
      have HK := Lib.hid hK
      have HG := Lib.hid hG
      clear hK hd e3
      have X := HG.out.bx
      have x0 : wx.cell? ⟨w.heap.size, 0, none⟩ = some (.int .i64 q.op) := X.cell rfl
      have x1 : wx.cell? ⟨w.heap.size, 1, none⟩ = some (.slice A q.rs.length c) := X.cell rfl
      have x2 : wx.cell? ⟨w.heap.size, 2, none⟩ = some (.int .i64 q.fr) := X.cell rfl
      have x3 : wx.cell? ⟨w.heap.size, 3, none⟩ = some (.int .i64 q.to_) := X.cell rfl
      have xl := X.lt
      clear X hG
      go_simp
      exact HK.out _ _ (Below.refl _ _) HG.out rfl
    · intro vs wx hG hd K hK
      have e4 : vs 4 = .slice A q.rs.length c := hd.get (j := 4) (by simp [depsOf, Region.binds])
      replace hK : ∀ (uu : Value) (w' : World), Below wx.heap.size wx w' → ((fun wx => Tq w wx q A c K0)) w' → (fun (x : Value) (u : Value) (_ : World) => u = x) ((.string (strB (T)))) uu w' → K _ w' := hK
      simp only [Act.put, List.setIfInBounds_toArray, List.set_cons_zero, List.set_cons_succ, e4] at hK ⊢
      have HK := Lib.hid hK
      have HG := Lib.hid hG
      clear hK hd e4
      clear hG
      go_simp
      go_at_call 47
      refine (HCT.out wx HG.out).mono ?_
      rintro e w1 ⟨rfl, hb⟩
      exact HK.out _ _ hb (HG.out.below hb) rfl
    · intro vs wx hG hd K hK
      have e2 : vs 2 = .string (strB (W)) := hd.get (j := 2) (by simp [depsOf, Region.binds])
      have e5 : vs 5 = .string (strB (T)) := hd.get (j := 5) (by simp [depsOf, Region.binds])
      replace hK : ∀ (uu : Value) (w' : World), Below wx.heap.size wx w' → ((fun wx => Tq w wx q A c K0)) w' → (fun (x : Value) (u : Value) (_ : World) => u = x) ((.string (strB (s1)))) uu w' → K _ w' := hK
      simp only [Act.put, List.setIfInBounds_toArray, List.set_cons_zero, List.set_cons_succ, e2, e5] at hK ⊢
      have HK := Lib.hid hK
      have HG := Lib.hid hG
      clear hK hd e2 e5
      clear hG
      have hs := str_add (strB W) (strB T) (by have := HLS.out; rw [strB_size, strB_size]; omega)
      go_simp
      exact HK.out _ _ (Below.refl _ _) HG.out (congrArg Value.string ((strB_app W T).trans (congrArg strB H1.out.symm)))
    · intro vs wx hG hd K hK
      have e6 : vs 6 = .string (strB (s1)) := hd.get (j := 6) (by simp [depsOf, Region.binds])
      replace hK : ∀ (uu : Value) (w' : World), Below wx.heap.size wx w' → ((fun wx => Tq w wx q A c K0)) w' → (fun (x : Value) (u : Value) (_ : World) => u = x) ((.string (strB (s2)))) uu w' → K _ w' := hK
      simp only [Act.put, List.setIfInBounds_toArray, List.set_cons_zero, List.set_cons_succ, e6] at hK ⊢
      have HK := Lib.hid hK
      have HG := Lib.hid hG
      clear hK hd e6
      clear hG
      have hs := str_add (strB s1) ⟨#[32]⟩ (by have h1 : (⟨#[32]⟩ : ByteArray).size = 1 := rfl; have := HLS.out; rw [h1, strB_size]; omega)
      go_simp
      exact HK.out _ _ (Below.refl _ _) HG.out (congrArg Value.string ((strB_app s1 [32]).trans (congrArg strB H2.out.symm)))
    · intro vs wx hG hd K hK
      replace hK : ∀ (uu : Value) (w' : World), Below wx.heap.size wx w' → ((fun wx => Tq w wx q A c K0)) w' → (fun (x : Value) (u : Value) (_ : World) => u = x) ((.pointer (some ⟨w.heap.size, 2, none⟩))) uu w' → K _ w' := hK
      simp only [Act.put, List.setIfInBounds_toArray, List.set_cons_zero, List.set_cons_succ] at hK ⊢
      have HK := Lib.hid hK
      have HG := Lib.hid hG
      clear hK hd
      clear hG
      go_simp
      exact HK.out _ _ (Below.refl _ _) HG.out rfl
    · intro vs wx hG hd K hK
      have e8 : vs 8 = .pointer (some ⟨w.heap.size, 2, none⟩) := hd.get (j := 8) (by simp [depsOf, Region.binds])
      replace hK : ∀ (uu : Value) (w' : World), Below wx.heap.size wx w' → ((fun wx => Tq w wx q A c K0)) w' → (fun (x : Value) (u : Value) (_ : World) => u = x) ((.int .i64 q.fr)) uu w' → K _ w' := hK
      simp only [Act.put, List.setIfInBounds_toArray, List.set_cons_zero, List.set_cons_succ, e8] at hK ⊢
      have HK := Lib.hid hK
      have HG := Lib.hid hG
      clear hK hd e8
      have X := HG.out.bx
      have x0 : wx.cell? ⟨w.heap.size, 0, none⟩ = some (.int .i64 q.op) := X.cell rfl
      have x1 : wx.cell? ⟨w.heap.size, 1, none⟩ = some (.slice A q.rs.length c) := X.cell rfl
      have x2 : wx.cell? ⟨w.heap.size, 2, none⟩ = some (.int .i64 q.fr) := X.cell rfl
      have x3 : wx.cell? ⟨w.heap.size, 3, none⟩ = some (.int .i64 q.to_) := X.cell rfl
      have xl := X.lt
      clear X hG
      go_simp
      exact HK.out _ _ (Below.refl _ _) HG.out rfl
    · intro vs wx hG hd K hK
      have e9 : vs 9 = .int .i64 q.fr := hd.get (j := 9) (by simp [depsOf, Region.binds])
      replace hK : ∀ (uu : Value) (w' : World), Below wx.heap.size wx w' → ((fun wx => Tq w wx q A c K0)) w' → (fun (x : Value) (u : Value) (_ : World) => u = x) ((.string (strB (M1)))) uu w' → K _ w' := hK
      simp only [Act.put, List.setIfInBounds_toArray, List.set_cons_zero, List.set_cons_succ, e9] at hK ⊢
      have HK := Lib.hid hK
      have HG := Lib.hid hG
      clear hK hd e9
      clear hG
      go_simp
      go_at_call 48
      refine (HC1.out wx).mono ?_
      rintro e w1 ⟨rfl, hb⟩
      exact HK.out _ _ hb (HG.out.below hb) rfl
    · intro vs wx hG hd K hK
      have e7 : vs 7 = .string (strB (s2)) := hd.get (j := 7) (by simp [depsOf, Region.binds])
      have e10 : vs 10 = .string (strB (M1)) := hd.get (j := 10) (by simp [depsOf, Region.binds])
      replace hK : ∀ (uu : Value) (w' : World), Below wx.heap.size wx w' → ((fun wx => Tq w wx q A c K0)) w' → (fun (x : Value) (u : Value) (_ : World) => u = x) ((.string (strB (s3)))) uu w' → K _ w' := hK
      simp only [Act.put, List.setIfInBounds_toArray, List.set_cons_zero, List.set_cons_succ, e7, e10] at hK ⊢
      have HK := Lib.hid hK
      have HG := Lib.hid hG
      clear hK hd e7 e10
      clear hG
      have hs := str_add (strB s2) (strB M1) (by have := HLS.out; rw [strB_size, strB_size]; omega)
      go_simp
      exact HK.out _ _ (Below.refl _ _) HG.out (congrArg Value.string ((strB_app s2 M1).trans (congrArg strB H3.out.symm)))
    · intro vs wx hG hd K hK
      have e11 : vs 11 = .string (strB (s3)) := hd.get (j := 11) (by simp [depsOf, Region.binds])
      replace hK : ∀ (uu : Value) (w' : World), Below wx.heap.size wx w' → ((fun wx => Tq w wx q A c K0)) w' → (fun (x : Value) (u : Value) (_ : World) => u = x) ((.string (strB (s4)))) uu w' → K _ w' := hK
      simp only [Act.put, List.setIfInBounds_toArray, List.set_cons_zero, List.set_cons_succ, e11] at hK ⊢
      have HK := Lib.hid hK
      have HG := Lib.hid hG
      clear hK hd e11
      clear hG
      have hs := str_add (strB s3) ⟨#[32]⟩ (by have h1 : (⟨#[32]⟩ : ByteArray).size = 1 := rfl; have := HLS.out; rw [h1, strB_size]; omega)
      go_simp
      exact HK.out _ _ (Below.refl _ _) HG.out (congrArg Value.string ((strB_app s3 [32]).trans (congrArg strB H4.out.symm)))
    · intro vs wx hG hd K hK
      replace hK : ∀ (uu : Value) (w' : World), Below wx.heap.size wx w' → ((fun wx => Tq w wx q A c K0)) w' → (fun (x : Value) (u : Value) (_ : World) => u = x) ((.pointer (some ⟨w.heap.size, 3, none⟩))) uu w' → K _ w' := hK
      simp only [Act.put, List.setIfInBounds_toArray, List.set_cons_zero, List.set_cons_succ] at hK ⊢
      have HK := Lib.hid hK
      have HG := Lib.hid hG
      clear hK hd
      clear hG
      go_simp
      exact HK.out _ _ (Below.refl _ _) HG.out rfl
    · intro vs wx hG hd K hK
      have e13 : vs 13 = .pointer (some ⟨w.heap.size, 3, none⟩) := hd.get (j := 13) (by simp [depsOf, Region.binds])
      replace hK : ∀ (uu : Value) (w' : World), Below wx.heap.size wx w' → ((fun wx => Tq w wx q A c K0)) w' → (fun (x : Value) (u : Value) (_ : World) => u = x) ((.int .i64 q.to_)) uu w' → K _ w' := hK
      simp only [Act.put, List.setIfInBounds_toArray, List.set_cons_zero, List.set_cons_succ, e13] at hK ⊢
      have HK := Lib.hid hK
      have HG := Lib.hid hG
      clear hK hd e13
      have X := HG.out.bx
      have x0 : wx.cell? ⟨w.heap.size, 0, none⟩ = some (.int .i64 q.op) := X.cell rfl
      have x1 : wx.cell? ⟨w.heap.size, 1, none⟩ = some (.slice A q.rs.length c) := X.cell rfl
      have x2 : wx.cell? ⟨w.heap.size, 2, none⟩ = some (.int .i64 q.fr) := X.cell rfl
      have x3 : wx.cell? ⟨w.heap.size, 3, none⟩ = some (.int .i64 q.to_) := X.cell rfl
      have xl := X.lt
      clear X hG
      go_simp
      exact HK.out _ _ (Below.refl _ _) HG.out rfl
    · intro vs wx hG hd K hK
      have e14 : vs 14 = .int .i64 q.to_ := hd.get (j := 14) (by simp [depsOf, Region.binds])
      replace hK : ∀ (uu : Value) (w' : World), Below wx.heap.size wx w' → ((fun wx => Tq w wx q A c K0)) w' → (fun (x : Value) (u : Value) (_ : World) => u = x) ((.string (strB (M2)))) uu w' → K _ w' := hK
      simp only [Act.put, List.setIfInBounds_toArray, List.set_cons_zero, List.set_cons_succ, e14] at hK ⊢
      have HK := Lib.hid hK
      have HG := Lib.hid hG
      clear hK hd e14
      clear hG
      go_simp
      go_at_call 48
      refine (HC2.out wx).mono ?_
      rintro e w1 ⟨rfl, hb⟩
      exact HK.out _ _ hb (HG.out.below hb) rfl
    · intro vs wx hG hd K hK
      have e12 : vs 12 = .string (strB (s4)) := hd.get (j := 12) (by simp [depsOf, Region.binds])
      have e15 : vs 15 = .string (strB (M2)) := hd.get (j := 15) (by simp [depsOf, Region.binds])
      replace hK : ∀ (uu : Value) (w' : World), Below wx.heap.size wx w' → ((fun wx => Tq w wx q A c K0)) w' → (fun (x : Value) (u : Value) (_ : World) => u = x) ((.string (strB (s5)))) uu w' → K _ w' := hK
      simp only [Act.put, List.setIfInBounds_toArray, List.set_cons_zero, List.set_cons_succ, e12, e15] at hK ⊢
      have HK := Lib.hid hK
      have HG := Lib.hid hG
      clear hK hd e12 e15
      clear hG
      have hs := str_add (strB s4) (strB M2) (by have := HLS.out; rw [strB_size, strB_size]; omega)
      go_simp
      exact HK.out _ _ (Below.refl _ _) HG.out (congrArg Value.string ((strB_app s4 M2).trans (congrArg strB H5.out.symm)))
    · intro vs wx hG hd K hK
      have e16 : vs 16 = .string (strB (s5)) := hd.get (j := 16) (by simp [depsOf, Region.binds])
      replace hK : ∀ (uu : Value) (w' : World), Below wx.heap.size wx w' → ((fun wx => Tq w wx q A c K0)) w' → (fun (x : Value) (u : Value) (_ : World) => u = x) ((.string (strB (s5)))) uu w' → K _ w' := hK
      simp only [Act.put, List.setIfInBounds_toArray, List.set_cons_zero, List.set_cons_succ, e16] at hK ⊢
      have HK := Lib.hid hK
      have HG := Lib.hid hG
      clear hK hd e16
      clear hG
      go_simp
      exact HK.out _ _ (Below.refl _ _) HG.out rfl
  case hend =>
    intro vs wx hG hv
    have e9 : vs 17 = .string (strB (s5)) := hv 17 (by decide)
    rw [e9]
    have HG := Lib.hid hG
    clear hG hv e9
    have x0 : wx.cell? ⟨w.heap.size, 0, none⟩ = some (.int .i64 q.op) := HG.out.bx.cell rfl
    have x4 : wx.cell? ⟨w.heap.size, 4, none⟩ = some (.int .i64 q.st) := HG.out.bx.cell rfl
    have x5 : wx.cell? ⟨w.heap.size, 5, none⟩ = some (.bool q.nt) := HG.out.bx.cell rfl
    have xl := HG.out.bx.lt
    by_cases h0 : q.op = 0
    · have e0 : (q.op != (0 : Int)) = false := by simpa using h0
      have hn : textQ q = s5 ++ (if q.nt = true then notesL else []) := HT0.out h0
      have HGE := HG
      clear h0
      cases hnt : q.nt with
      | false =>
        rw [hnt] at x5 hn
        have HF : Hid (textQ q = s5) := Lib.hid (by rw [hn]; simp)
        clear hn hnt
        go_wp2
        go_ret
        exact ⟨by rw [HF.out]; rfl, HGE.out.bl⟩
      | true =>
        rw [hnt] at x5 hn
        have HF : Hid (textQ q = s5 ++ notesL) := Lib.hid (by rw [hn]; simp)
        clear hn hnt
        have hs := str_add (strB s5) ⟨#[32, 110, 111, 116, 101, 115]⟩ (by have h1 : (⟨#[32, 110, 111, 116, 101, 115]⟩ : ByteArray).size = 6 := rfl; have := HLS.out; rw [h1, strB_size]; omega)
        have he := strB_app s5 notesL
        go_wp2
        go_ret
        exact ⟨by rw [HF.out]; exact congrArg (fun s => Ending.returned (Value.string s)) he, HGE.out.bl⟩
    · have e0 : (q.op != (0 : Int)) = true := by simpa using h0
      have hn : textQ q = s7 ++ (if q.nt = true then notesL else []) := HT1.out h0
      clear h0
      have hs1 := str_add (strB s5) ⟨#[32]⟩ (by have h1 : (⟨#[32]⟩ : ByteArray).size = 1 := rfl; have := HLS.out; rw [h1, strB_size]; omega)
      have he1 : strB s5 ++ (⟨#[32]⟩ : ByteArray) = strB s6 := (strB_app s5 [32]).trans (congrArg strB H6.out.symm)
      rw [he1] at hs1
      have hs2 := str_add (strB s6) (strB M3) (by have := HLS.out; rw [strB_size, strB_size]; omega)
      have he2 : strB s6 ++ strB M3 = strB s7 := (strB_app s6 M3).trans (congrArg strB H7.out.symm)
      rw [he2] at hs2
      clear he1 he2
      cases hnt : q.nt with
      | false =>
        rw [hnt] at x5 hn
        have HF : Hid (textQ q = s7) := Lib.hid (by rw [hn]; simp)
        clear hn hnt
        go_wp2_with fail
        refine (HC3.out wx).mono ?_
        rintro e w3 ⟨rfl, b3⟩
        have HGE := Lib.hid (HG.out.below b3)
        have x5' : w3.cell? ⟨w.heap.size, 5, none⟩ = some (.bool false) := kept b3 x5
        have xl' := HGE.out.bx.lt
        clear b3 x5 x0 x4 xl
        go_wp2
        go_ret
        exact ⟨by rw [HF.out]; rfl, HGE.out.bl⟩
      | true =>
        rw [hnt] at x5 hn
        have HF : Hid (textQ q = s7 ++ notesL) := Lib.hid (by rw [hn]; simp)
        clear hn hnt
        go_wp2_with fail
        refine (HC3.out wx).mono ?_
        rintro e w3 ⟨rfl, b3⟩
        have HGE := Lib.hid (HG.out.below b3)
        have x5' : w3.cell? ⟨w.heap.size, 5, none⟩ = some (.bool true) := kept b3 x5
        have xl' := HGE.out.bx.lt
        clear b3 x5 x0 x4 xl
        have hs := str_add (strB s7) ⟨#[32, 110, 111, 116, 101, 115]⟩ (by have h1 : (⟨#[32, 110, 111, 116, 101, 115]⟩ : ByteArray).size = 6 := rfl; have := HLS.out; rw [h1, strB_size]; omega)
        have he := strB_app s7 notesL
        go_wp2
        go_ret
        exact ⟨by rw [HF.out]; exact congrArg (fun s => Ending.returned (Value.string s)) he, HGE.out.bl⟩

end Go.Proofs.YtcmpenmaphmifaaGreatDoor
