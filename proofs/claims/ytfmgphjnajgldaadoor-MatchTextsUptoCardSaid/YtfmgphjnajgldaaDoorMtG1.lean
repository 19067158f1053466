/- The program's signs, parseRule and Parse. -/
import Derived.Test.YtfmgphjnajgldaaDoorMtPM
import Derived.Test.YtfmgphjnajgldaaDoorMtH
import Derived.Test.YtfmgphjnajgldaaDoorLbU
import Derived.Test.YtfmgphjnajgldaaDoorEl2
namespace Go.Proofs.YtfmgphjnajgldaaDoor
open Go.RowKit

/-- The table of signs in memory. -/
def Sg (w : World) : Prop := w.cell? ⟨0, 1, none⟩ = some (.string ⟨#[61]⟩) ∧ w.cell? ⟨0, 2, none⟩ = some (.string ⟨#[33, 61]⟩) ∧ w.cell? ⟨0, 3, none⟩ = some (.string ⟨#[94, 61]⟩) ∧ w.cell? ⟨0, 4, none⟩ = some (.string ⟨#[42, 61]⟩)
theorem Sg.below {w w' : World} (h : Sg w) (hb : Below w.heap.size w w') : Sg w' := ⟨kept hb h.1, kept hb h.2.1, kept hb h.2.2.1, kept hb h.2.2.2⟩
theorem signOf_any (o : Int) (w : World) (hg : Sg w) : Calls Tryd.prog 34 #[.int .i64 o] w fun e w' => e = .returned (.string ⟨(sgB o).toArray⟩) ∧ w = w' := by
  obtain ⟨g1, g2, g3, g4⟩ := hg
  by_cases ho : opB o = true
  · have h4 : o = 1 ∨ o = 2 ∨ o = 3 ∨ o = 4 := by simp [opB] at ho; omega
    rcases h4 with rfl | rfl | rfl | rfl
    all_goals
      clear ho
      go_enter Tryd.func34, Tryd.ntmps34
      go_wp2_with (go_at_call 40; refine (isOp_any _ _).mono ?_; rintro e w' ⟨rfl, rfl⟩)
      go_ret
      exact ⟨rfl, rfl⟩
  · have ho : opB o = false := by simpa using ho
    have HF : Hid (sgB o = []) := Lib.hid (by
      simp [opB] at ho
      unfold sgB
      rw [if_neg (by omega), if_neg (by omega), if_neg (by omega), if_neg (by omega)])
    go_enter Tryd.func34, Tryd.ntmps34
    go_wp2_with (go_at_call 40; refine (isOp_any _ _).mono ?_; rintro e w' ⟨rfl, rfl⟩)
    go_ret
    rw [HF.out]
    exact ⟨rfl, rfl⟩

def opFrom (r : List UInt8) (k : Nat) : Int :=
  if k ≤ 1 ∧ Lib.hasPrefix r [61] = true then 1 else if k ≤ 2 ∧ Lib.hasPrefix r [33, 61] = true then 2 else if k ≤ 3 ∧ Lib.hasPrefix r [94, 61] = true then 3 else if k ≤ 4 ∧ Lib.hasPrefix r [42, 61] = true then 4 else 0
theorem opFrom_one (r : List UInt8) : opR r = opFrom r 1 := by simp [opR, opFrom]
theorem opFrom_five (r : List UInt8) : opFrom r 5 = 0 := by simp [opFrom]
set_option maxHeartbeats 1600000 in
theorem opOf_any (t : ByteArray) (w : World) (hg : Sg w) : Calls Tryd.prog 45 #[.string t] w fun e w' => e = .returned (.int .i64 (opR t.data.toList)) ∧ w = w' := by
  obtain ⟨g1, g2, g3, g4⟩ := hg
  have HO := Lib.hid (opFrom_one t.data.toList)
  go_enter Tryd.func45, Tryd.ntmps45
  go_wp2
  go_loop [3] (fun i => ∃ k : Nat, 1 ≤ k ∧ k ≤ 5 ∧ i = .int .i64 k ∧ Hid (opR t.data.toList = opFrom t.data.toList k)) (fun i => 5 - (intOf i).toNat)
  case atStart => exact ⟨1, by decide, by decide, rfl, HO⟩
  case round =>
    obtain ⟨k, h1k, hk, rfl, HT⟩ := hrel
    have h5 : k = 1 ∨ k = 2 ∨ k = 3 ∨ k = 4 ∨ k = 5 := by omega
    clear h1k hk HO
    rcases h5 with rfl | rfl | rfl | rfl | rfl
    · have HP := Lib.hid (fun W => hasPrefix_any t ⟨#[61]⟩ W)
      have e : (⟨#[61]⟩ : ByteArray).data.toList = [61] := rfl
      rw [e] at HP
      clear e
      by_cases hb : Lib.hasPrefix t.data.toList [61] = true
      · have HF : Hid (opR t.data.toList = 1) := Lib.hid (by rw [HT.out]; simp [opFrom, hb])
        rw [hb] at HP
        clear hb
        go_wp2_with (go_at_call 28; refine (HP.out _).mono ?_; rintro e w' ⟨rfl, rfl⟩)
        go_ret
        exact ⟨ret_int HF.out.symm, rfl⟩
      · have hb : Lib.hasPrefix t.data.toList [61] = false := by simpa using hb
        have HN : Hid (opR t.data.toList = opFrom t.data.toList 2) := Lib.hid (by rw [HT.out]; simp [opFrom, hb])
        rw [hb] at HP
        clear hb
        go_wp2_with (go_at_call 28; refine (HP.out _).mono ?_; rintro e w' ⟨rfl, rfl⟩)
        go_round
        case rel => exact ⟨2, by decide, by decide, rfl, HN⟩
        case measure => decide
    · have HP := Lib.hid (fun W => hasPrefix_any t ⟨#[33, 61]⟩ W)
      have e : (⟨#[33, 61]⟩ : ByteArray).data.toList = [33, 61] := rfl
      rw [e] at HP
      clear e
      by_cases hb : Lib.hasPrefix t.data.toList [33, 61] = true
      · have HF : Hid (opR t.data.toList = 2) := Lib.hid (by rw [HT.out]; simp [opFrom, hb])
        rw [hb] at HP
        clear hb
        go_wp2_with (go_at_call 28; refine (HP.out _).mono ?_; rintro e w' ⟨rfl, rfl⟩)
        go_ret
        exact ⟨ret_int HF.out.symm, rfl⟩
      · have hb : Lib.hasPrefix t.data.toList [33, 61] = false := by simpa using hb
        have HN : Hid (opR t.data.toList = opFrom t.data.toList 3) := Lib.hid (by rw [HT.out]; simp [opFrom, hb])
        rw [hb] at HP
        clear hb
        go_wp2_with (go_at_call 28; refine (HP.out _).mono ?_; rintro e w' ⟨rfl, rfl⟩)
        go_round
        case rel => exact ⟨3, by decide, by decide, rfl, HN⟩
        case measure => decide
    · have HP := Lib.hid (fun W => hasPrefix_any t ⟨#[94, 61]⟩ W)
      have e : (⟨#[94, 61]⟩ : ByteArray).data.toList = [94, 61] := rfl
      rw [e] at HP
      clear e
      by_cases hb : Lib.hasPrefix t.data.toList [94, 61] = true
      · have HF : Hid (opR t.data.toList = 3) := Lib.hid (by rw [HT.out]; simp [opFrom, hb])
        rw [hb] at HP
        clear hb
        go_wp2_with (go_at_call 28; refine (HP.out _).mono ?_; rintro e w' ⟨rfl, rfl⟩)
        go_ret
        exact ⟨ret_int HF.out.symm, rfl⟩
      · have hb : Lib.hasPrefix t.data.toList [94, 61] = false := by simpa using hb
        have HN : Hid (opR t.data.toList = opFrom t.data.toList 4) := Lib.hid (by rw [HT.out]; simp [opFrom, hb])
        rw [hb] at HP
        clear hb
        go_wp2_with (go_at_call 28; refine (HP.out _).mono ?_; rintro e w' ⟨rfl, rfl⟩)
        go_round
        case rel => exact ⟨4, by decide, by decide, rfl, HN⟩
        case measure => decide
    · have HP := Lib.hid (fun W => hasPrefix_any t ⟨#[42, 61]⟩ W)
      have e : (⟨#[42, 61]⟩ : ByteArray).data.toList = [42, 61] := rfl
      rw [e] at HP
      clear e
      by_cases hb : Lib.hasPrefix t.data.toList [42, 61] = true
      · have HF : Hid (opR t.data.toList = 4) := Lib.hid (by rw [HT.out]; simp [opFrom, hb])
        rw [hb] at HP
        clear hb
        go_wp2_with (go_at_call 28; refine (HP.out _).mono ?_; rintro e w' ⟨rfl, rfl⟩)
        go_ret
        exact ⟨ret_int HF.out.symm, rfl⟩
      · have hb : Lib.hasPrefix t.data.toList [42, 61] = false := by simpa using hb
        have HN : Hid (opR t.data.toList = opFrom t.data.toList 5) := Lib.hid (by rw [HT.out]; simp [opFrom, hb])
        rw [hb] at HP
        clear hb
        go_wp2_with (go_at_call 28; refine (HP.out _).mono ?_; rintro e w' ⟨rfl, rfl⟩)
        go_round
        case rel => exact ⟨5, by decide, by decide, rfl, HN⟩
        case measure => decide
    · have HF : Hid (opR t.data.toList = 0) := Lib.hid (by rw [HT.out, opFrom_five])
      go_wp2_with fail
      go_ret
      exact ⟨ret_int HF.out.symm, rfl⟩
end Go.Proofs.YtfmgphjnajgldaaDoor
