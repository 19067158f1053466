/- ClockPlays: any steps. -/
import Derived.Test.YteibigiehpkdjaaPlay
namespace Go.Proofs.Yteibigiehpkdjaa
open Go.RowKit


theorem plays_no (off up0 mk : Int) (hok : newOk off up0 = false) (v : Value) (w : World) :
    Calls Try.prog 7 #[.int .i64 off, .int .i64 up0, .int .u32 mk, v] w fun e w' => e = .returned (.bool true) ∧ Below w.heap.size w w' := by
  go_enter Try.func7, Try.ntmps7
  go_wp2_with fail
  refine (new_no off up0 mk hok _).mono ?_
  rintro e w1 ⟨rfl, lB1⟩
  have z1 := lB1.size
  go_wp2_with fail
  refine (fits_no off up0 hok _).mono ?_
  rintro e w1' ⟨rfl, rfl⟩
  go_wp2_with fail
  refine (awake_any _).mono ?_
  rintro e w2 ⟨rfl, lB2⟩
  have HB2 := Lib.hid (lB1.trans (lB2.mono z1))
  clear lB1 lB2
  go_wp2
  go_ret
  exact ⟨rfl, HB2.out⟩

theorem ops_in {H : Type} {enc : TypeId × Value → H} {W : World} {base fuel : Nat} {spare : Nat → Bool} {held : Bool} {v : Value} {x : DataW H × List MemPlace}
    (h : DataW.trod enc Try.prog W base spare held fuel 41 [v] = some x) :
    ∃ p len cap, v = .slice p len cap ∧ len ≤ cap ∧ cap ≤ 9223372036854775807 ∧ OpsIn W p len := by
  rcases open_ops h with h0 | ⟨b, o, len, cap, sp, h0, hl, hc, hsp, hop⟩
  · simp at h0
    exact ⟨none, 0, 0, h0, by omega, by omega, fun i hi => by omega⟩
  · simp at h0
    refine ⟨_, len, cap, h0, hl, by have : maxLen ≤ 9223372036854775807 := by decide
                                    omega, fun i hi => ⟨b, o, ?_, ?_⟩⟩
    · rw [hsp (by omega)]
    · rw [Nat.mul_comm]; exact hop i hi

theorem plays_any {H : Type} {enc : TypeId × Value → H} (off up0 mk : Int) {W : World} {base fuel : Nat} {spare : Nat → Bool} {held : Bool} {v : Value} {x : DataW H × List MemPlace}
    (h : DataW.trod enc Try.prog W base spare held fuel 41 [v] = some x) :
    Calls Try.prog 7 #[.int .i64 off, .int .i64 up0, .int .u32 mk, v] W fun e w' => e = .returned (.bool true) ∧ Below W.heap.size W w' := by
  cases hok : newOk off up0 with
  | false => exact plays_no off up0 mk hok v W
  | true =>
    obtain ⟨p, len, cap, rfl, hl, hc, hi⟩ := ops_in h
    exact plays_loop off up0 mk hok p len cap W hl hc hi

end Go.Proofs.Yteibigiehpkdjaa
