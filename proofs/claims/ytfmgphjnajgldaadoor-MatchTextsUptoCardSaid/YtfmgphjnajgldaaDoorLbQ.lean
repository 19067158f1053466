/- The program's Quote. -/
import Derived.Test.YtfmgphjnajgldaaDoorLbQM
import Derived.Test.YtfmgphjnajgldaaDoorShB
import Derived.Test.YtfmgphjnajgldaaDoorRows
import Derived.LoopTactic
namespace Go.Proofs.YtfmgphjnajgldaaDoor
open Go.RowKit

theorem isGuarded_any (n : Int) (w : World) : Calls Tryd.prog 48 #[.int .u8 n] w fun e w' => e = .returned (.bool (gN n)) ∧ w = w' := by
  go_enter Tryd.func48, Tryd.ntmps48
  go_wp2
  all_goals go_ret
  all_goals exact ⟨ret_bool (by rw [Bool.eq_iff_iff]; first | (simp [gN] at *; done) | (simp [gN] at *; omega)), rfl⟩

/-- A string, and new memory alone. -/
def NewStr (w : World) (s : ByteArray) (e : Ending) (w' : World) : Prop := e = .returned (.string s) ∧ Below w.heap.size w w'

set_option maxHeartbeats 1600000 in
theorem quote_any (s : ByteArray) (w : World) (hs : s.size ≤ 1000000000000) : Calls Tryd.prog 35 #[.string s] w (NewStr w ⟨(quoteB s).toArray⟩) := by
  go_enter Tryd.func35, Tryd.ntmps35
  go_wp2_with fail
  have b0 := Bd.new w
  refine (wb_any w.heap.size w.heap.size [] 34 _ _ rfl b0 (by simp) (by simp)).mono ?_
  rintro e w1 ⟨rfl, b1, hB1⟩
  have B1 : Below w.heap.size w w1 := ((Below.refl _ w).alloc (Nat.le_refl _) _).trans hB1
  clear b0 hB1
  go_wp2_with fail
  go_loopw [8] (fun i wr => ∃ k : Nat, k ≤ s.size ∧ i = .int .i64 k ∧ Bd wr w.heap.size w.heap.size (quoteTo s k) ∧ Below w.heap.size w wr) (fun i _ => s.size - (intOf i).toNat)
  case atStart => exact ⟨0, Nat.zero_le _, rfl, by rw [quoteTo_zero]; exact b1, B1⟩
  case round =>
    obtain ⟨k, hk, rfl, hbd, hbl⟩ := hrel
    have z := hbl.size
    have hlen := quoteTo_len s k
    clear b1 B1
    by_cases hlt : k < s.size
    · by_cases hg : gN ((s[k]).toNat : Int) = true
      · have HQ := Lib.hid (quoteTo_yes s k hlt hg)
        go_wp2_with (go_at_call 48; refine (isGuarded_any _ _).mono ?_; rintro e w' ⟨rfl, rfl⟩)
        refine (wb_any w.heap.size w.heap.size _ 92 _ _ rfl hbd (by omega) z).mono ?_
        rintro e w2 ⟨rfl, b2, hB2⟩
        have B2 := hbl.trans hB2
        clear hbd hbl hB2
        go_wp2_with fail
        refine (wb_any w.heap.size w.heap.size _ s[k] _ _ rfl b2 (by simp; omega) B2.size).mono ?_
        rintro e w3 ⟨rfl, b3, hB3⟩
        have B3 := B2.trans hB3
        clear b2 hB3 B2
        go_wp2_with fail
        go_roundw
        case rel => exact ⟨k + 1, by omega, by go_num, by rw [HQ.out]; exact b3, B3⟩
        case measure => simp [intOf]; omega
      · have hg : gN ((s[k]).toNat : Int) = false := by simpa using hg
        have HQ := Lib.hid (quoteTo_no s k hlt hg)
        go_wp2_with (go_at_call 48; refine (isGuarded_any _ _).mono ?_; rintro e w' ⟨rfl, rfl⟩)
        refine (wb_any w.heap.size w.heap.size _ s[k] _ _ rfl hbd (by omega) z).mono ?_
        rintro e w3 ⟨rfl, b3, hB3⟩
        have B3 := hbl.trans hB3
        clear hbd hbl hB3
        go_wp2_with fail
        go_roundw
        case rel => exact ⟨k + 1, by omega, by go_num, by rw [HQ.out]; exact b3, B3⟩
        case measure => simp [intOf]; omega
    · have hks : k = s.size := by omega
      have b4 : Bd wr w.heap.size w.heap.size (quoteTo s s.size) := hks ▸ hbd
      clear hbd hks
      go_wp2_with fail
      refine (wb_any w.heap.size w.heap.size _ 34 _ _ rfl b4 (by have := quoteTo_len s s.size; omega) z).mono ?_
      rintro e w2 ⟨rfl, b2, hB2⟩
      have B2 := hbl.trans hB2
      clear b4 hbl hB2
      go_wp2_with fail
      refine (bstr_any w.heap.size w.heap.size _ _ b2 B2.size).mono ?_
      rintro e w3 ⟨rfl, hB3⟩
      have B3 := B2.trans hB3
      go_wp2_with fail
      go_ret
      exact ⟨rfl, B3⟩
end Go.Proofs.YtfmgphjnajgldaaDoor
