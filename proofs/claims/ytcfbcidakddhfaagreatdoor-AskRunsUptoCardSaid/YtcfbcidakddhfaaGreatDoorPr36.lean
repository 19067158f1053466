/- The program's opOf and readNumber. -/
import Derived.Test.YtcfbcidakddhfaaGreatDoorPr34
import Derived.Test.YtcfbcidakddhfaaGreatDoorPr29
import Derived.Test.YtcfbcidakddhfaaGreatDoorPr1
import Derived.Test.YtcfbcidakddhfaaGreatDoorPr15
import Derived.Test.YtcfbcidakddhfaaGreatDoorPr23
import Derived.Test.YtcfbcidakddhfaaGreatDoorPr0
namespace Go.Proofs.YtcfbcidakddhfaaGreatDoor
open Go.RowKit Go.BigFrame

theorem wdx0 (v0 v1 v2 v3 v4 v5 : Value) (w : World) : (Instr.index 131 (.agg #[v0, v1, v2, v3, v4, v5]) (.int .i64 0)).run Tryz.prog w = .ok v0 w := by kernel_rfl
theorem wdx1 (v0 v1 v2 v3 v4 v5 : Value) (w : World) : (Instr.index 131 (.agg #[v0, v1, v2, v3, v4, v5]) (.int .i64 1)).run Tryz.prog w = .ok v1 w := by kernel_rfl
theorem wdx2 (v0 v1 v2 v3 v4 v5 : Value) (w : World) : (Instr.index 131 (.agg #[v0, v1, v2, v3, v4, v5]) (.int .i64 2)).run Tryz.prog w = .ok v2 w := by kernel_rfl
theorem wdx3 (v0 v1 v2 v3 v4 v5 : Value) (w : World) : (Instr.index 131 (.agg #[v0, v1, v2, v3, v4, v5]) (.int .i64 3)).run Tryz.prog w = .ok v3 w := by kernel_rfl
theorem wdx4 (v0 v1 v2 v3 v4 v5 : Value) (w : World) : (Instr.index 131 (.agg #[v0, v1, v2, v3, v4, v5]) (.int .i64 4)).run Tryz.prog w = .ok v4 w := by kernel_rfl
theorem wdx5 (v0 v1 v2 v3 v4 v5 : Value) (w : World) : (Instr.index 131 (.agg #[v0, v1, v2, v3, v4, v5]) (.int .i64 5)).run Tryz.prog w = .ok v5 w := by kernel_rfl
theorem beqB (l : List UInt8) (t : ByteArray) : ((strB l).toList == t.toList) = decide (t.data.toList = l) := by
  rw [Lib.toList_data, Lib.toList_data]
  have e : (strB l).data.toList = l := ls_strB l
  rw [e]
  by_cases h : t.data.toList = l
  · rw [decide_eq_true h, h]; simp
  · rw [decide_eq_false h]
    simpa using fun e => h e.symm
set_option maxRecDepth 100000 in
set_option maxHeartbeats 3200000 in
theorem akOpOf_any (t : ByteArray) (w : World) (h : Wo w) : Calls Tryz.prog 42 #[.string t] w fun e w' => e = .returned (.tuple #[.int .i64 ((opA t.data.toList).getD 0), .bool (opA t.data.toList).isSome]) ∧ w = w' := by
  obtain ⟨u0, hu0⟩ : ∃ u, u = strB (wordQ 0) := ⟨_, rfl⟩
  have c0 : w.cell? ⟨0, 0, none⟩ = some (.string u0) := by rw [hu0]; exact h 0 (by decide)
  have j0 := wdx0
  obtain ⟨u1, hu1⟩ : ∃ u, u = strB (wordQ 1) := ⟨_, rfl⟩
  have c1 : w.cell? ⟨0, 1, none⟩ = some (.string u1) := by rw [hu1]; exact h 1 (by decide)
  have j1 := wdx1
  obtain ⟨u2, hu2⟩ : ∃ u, u = strB (wordQ 2) := ⟨_, rfl⟩
  have c2 : w.cell? ⟨0, 2, none⟩ = some (.string u2) := by rw [hu2]; exact h 2 (by decide)
  have j2 := wdx2
  obtain ⟨u3, hu3⟩ : ∃ u, u = strB (wordQ 3) := ⟨_, rfl⟩
  have c3 : w.cell? ⟨0, 3, none⟩ = some (.string u3) := by rw [hu3]; exact h 3 (by decide)
  have j3 := wdx3
  obtain ⟨u4, hu4⟩ : ∃ u, u = strB (wordQ 4) := ⟨_, rfl⟩
  have c4 : w.cell? ⟨0, 4, none⟩ = some (.string u4) := by rw [hu4]; exact h 4 (by decide)
  have j4 := wdx4
  obtain ⟨u5, hu5⟩ : ∃ u, u = strB (wordQ 5) := ⟨_, rfl⟩
  have c5 : w.cell? ⟨0, 5, none⟩ = some (.string u5) := by rw [hu5]; exact h 5 (by decide)
  have j5 := wdx5
  clear h
  by_cases h0 : t.data.toList = wordQ 0
  · have e0 : (u0.toList == t.toList) = true := by rw [hu0, beqB]; simp [h0]
    have HF : Hid (opA t.data.toList = some 0) := Lib.hid (by unfold opA; rw [if_pos h0])
    clear h0 hu0 hu1 hu2 hu3 hu4 hu5
    go_enter Tryz.func42, Tryz.ntmps42
    go_wp2
    go_rounds 8
    all_goals go_ret2
    all_goals exact ⟨by rw [HF.out]; rfl, rfl⟩
  by_cases h1 : t.data.toList = wordQ 1
  · have e0 : (u0.toList == t.toList) = false := by rw [hu0, beqB]; simp [h0]
    have e1 : (u1.toList == t.toList) = true := by rw [hu1, beqB]; simp [h1]
    have HF : Hid (opA t.data.toList = some 1) := Lib.hid (by unfold opA; rw [if_neg h0]; rw [if_pos h1])
    clear h0 h1 hu0 hu1 hu2 hu3 hu4 hu5
    go_enter Tryz.func42, Tryz.ntmps42
    go_wp2
    go_rounds 8
    all_goals go_ret2
    all_goals exact ⟨by rw [HF.out]; rfl, rfl⟩
  by_cases h2 : t.data.toList = wordQ 2
  · have e0 : (u0.toList == t.toList) = false := by rw [hu0, beqB]; simp [h0]
    have e1 : (u1.toList == t.toList) = false := by rw [hu1, beqB]; simp [h1]
    have e2 : (u2.toList == t.toList) = true := by rw [hu2, beqB]; simp [h2]
    have HF : Hid (opA t.data.toList = some 2) := Lib.hid (by unfold opA; rw [if_neg h0]; rw [if_neg h1]; rw [if_pos h2])
    clear h0 h1 h2 hu0 hu1 hu2 hu3 hu4 hu5
    go_enter Tryz.func42, Tryz.ntmps42
    go_wp2
    go_rounds 8
    all_goals go_ret2
    all_goals exact ⟨by rw [HF.out]; rfl, rfl⟩
  by_cases h3 : t.data.toList = wordQ 3
  · have e0 : (u0.toList == t.toList) = false := by rw [hu0, beqB]; simp [h0]
    have e1 : (u1.toList == t.toList) = false := by rw [hu1, beqB]; simp [h1]
    have e2 : (u2.toList == t.toList) = false := by rw [hu2, beqB]; simp [h2]
    have e3 : (u3.toList == t.toList) = true := by rw [hu3, beqB]; simp [h3]
    have HF : Hid (opA t.data.toList = some 3) := Lib.hid (by unfold opA; rw [if_neg h0]; rw [if_neg h1]; rw [if_neg h2]; rw [if_pos h3])
    clear h0 h1 h2 h3 hu0 hu1 hu2 hu3 hu4 hu5
    go_enter Tryz.func42, Tryz.ntmps42
    go_wp2
    go_rounds 8
    all_goals go_ret2
    all_goals exact ⟨by rw [HF.out]; rfl, rfl⟩
  by_cases h4 : t.data.toList = wordQ 4
  · have e0 : (u0.toList == t.toList) = false := by rw [hu0, beqB]; simp [h0]
    have e1 : (u1.toList == t.toList) = false := by rw [hu1, beqB]; simp [h1]
    have e2 : (u2.toList == t.toList) = false := by rw [hu2, beqB]; simp [h2]
    have e3 : (u3.toList == t.toList) = false := by rw [hu3, beqB]; simp [h3]
    have e4 : (u4.toList == t.toList) = true := by rw [hu4, beqB]; simp [h4]
    have HF : Hid (opA t.data.toList = some 4) := Lib.hid (by unfold opA; rw [if_neg h0]; rw [if_neg h1]; rw [if_neg h2]; rw [if_neg h3]; rw [if_pos h4])
    clear h0 h1 h2 h3 h4 hu0 hu1 hu2 hu3 hu4 hu5
    go_enter Tryz.func42, Tryz.ntmps42
    go_wp2
    go_rounds 8
    all_goals go_ret2
    all_goals exact ⟨by rw [HF.out]; rfl, rfl⟩
  by_cases h5 : t.data.toList = wordQ 5
  · have e0 : (u0.toList == t.toList) = false := by rw [hu0, beqB]; simp [h0]
    have e1 : (u1.toList == t.toList) = false := by rw [hu1, beqB]; simp [h1]
    have e2 : (u2.toList == t.toList) = false := by rw [hu2, beqB]; simp [h2]
    have e3 : (u3.toList == t.toList) = false := by rw [hu3, beqB]; simp [h3]
    have e4 : (u4.toList == t.toList) = false := by rw [hu4, beqB]; simp [h4]
    have e5 : (u5.toList == t.toList) = true := by rw [hu5, beqB]; simp [h5]
    have HF : Hid (opA t.data.toList = some 5) := Lib.hid (by unfold opA; rw [if_neg h0]; rw [if_neg h1]; rw [if_neg h2]; rw [if_neg h3]; rw [if_neg h4]; rw [if_pos h5])
    clear h0 h1 h2 h3 h4 h5 hu0 hu1 hu2 hu3 hu4 hu5
    go_enter Tryz.func42, Tryz.ntmps42
    go_wp2
    go_rounds 8
    all_goals go_ret2
    all_goals exact ⟨by rw [HF.out]; rfl, rfl⟩
  have e0 : (u0.toList == t.toList) = false := by rw [hu0, beqB]; simp [h0]
  have e1 : (u1.toList == t.toList) = false := by rw [hu1, beqB]; simp [h1]
  have e2 : (u2.toList == t.toList) = false := by rw [hu2, beqB]; simp [h2]
  have e3 : (u3.toList == t.toList) = false := by rw [hu3, beqB]; simp [h3]
  have e4 : (u4.toList == t.toList) = false := by rw [hu4, beqB]; simp [h4]
  have e5 : (u5.toList == t.toList) = false := by rw [hu5, beqB]; simp [h5]
  have HF : Hid (opA t.data.toList = none) := Lib.hid (by unfold opA; rw [if_neg h0, if_neg h1, if_neg h2, if_neg h3, if_neg h4, if_neg h5])
  clear h0 h1 h2 h3 h4 h5 hu0 hu1 hu2 hu3 hu4 hu5
  go_enter Tryz.func42, Tryz.ntmps42
  go_wp2
  go_rounds 8
  all_goals go_ret2
  all_goals exact ⟨by rw [HF.out]; rfl, rfl⟩

theorem cutPrefix_any (s p : ByteArray) (w : World) : Calls Tryz.prog 82 #[.string s, .string p] w fun e w' => e = .returned (.tuple #[.string (if Lib.hasPrefix s.data.toList p.data.toList = true then s.extract p.size s.size else s), .bool (Lib.hasPrefix s.data.toList p.data.toList)]) ∧ w = w' := by
  have H1 : Calls Tryz.prog 103 #[.string s, .string p] w fun e w' => e = .returned (.tuple #[.string (if Lib.hasPrefix s.data.toList p.data.toList = true then s.extract p.size s.size else s), .bool (Lib.hasPrefix s.data.toList p.data.toList)]) ∧ w = w' := by
    have HP := Lib.hid (Tryz.stringslite_HasPrefix s p w)
    cases hh : Lib.hasPrefix s.data.toList p.data.toList with
    | false =>
      rw [hh] at HP
      clear hh
      go_enter Tryz.func103, Tryz.ntmps103
      go_wp2_with (go_at_call 77; refine HP.out.mono ?_; rintro e w' ⟨rfl, rfl⟩)
      go_ret2
      exact ⟨rfl, rfl⟩
    | true =>
      rw [hh] at HP
      have hle : p.size ≤ s.size := by
        have := (List.isPrefixOf_iff_prefix.1 hh).length_le
        simpa using this
      clear hh
      go_enter Tryz.func103, Tryz.ntmps103
      go_wp2_with (go_at_call 77; refine HP.out.mono ?_; rintro e w' ⟨rfl, rfl⟩)
      go_ret2
      exact ⟨rfl, rfl⟩
  have HH := Lib.hid H1
  clear H1
  generalize (if Lib.hasPrefix s.data.toList p.data.toList = true then s.extract p.size s.size else s) = r at HH ⊢
  go_enter Tryz.func82, Tryz.ntmps82
  go_wp2_with (go_at_call 103; refine HH.out.mono ?_; rintro e w' ⟨rfl, rfl⟩)
  go_ret2
  exact ⟨rfl, rfl⟩
end Go.Proofs.YtcfbcidakddhfaaGreatDoor
