/- ClockRestarts: any steps. -/
import Derived.Test.YteibigiehpkdjaaRest
namespace Go.Proofs.Yteibigiehpkdjaa
open Go.RowKit


theorem restarts_no (off up0 mk : Int) (hok : newOk off up0 = false) (v u : Value) (w : World) :
    Calls Try.prog 9 #[.int .i64 off, .int .i64 up0, v, u, .int .u32 mk] w fun e w' => e = .returned (.bool true) ∧ Below w.heap.size w w' := by
  go_enter Try.func9, Try.ntmps9
  go_wp2_with fail
  refine (new_no off up0 1 hok _).mono ?_
  rintro e w1 ⟨rfl, lB1⟩
  have z1 := lB1.size
  go_wp2_with fail
  refine (awake_any _).mono ?_
  rintro e w2 ⟨rfl, lB2⟩
  have z2 := lB2.size
  have HB2 := Lib.hid (lB1.trans (lB2.mono z1))
  clear lB1 lB2
  go_wp2_with fail
  refine (awake_any _).mono ?_
  rintro e w3 ⟨rfl, lB3⟩
  have HB3 := Lib.hid (HB2.out.trans (lB3.mono (by omega)))
  clear lB3
  go_wp2
  go_ret
  exact ⟨rfl, HB3.out⟩

theorem ops_in {H : Type} {enc : TypeId × Value → H} {W : World} {base fuel : Nat} {spare : Nat → Bool} {held : Bool} {v : Value} {x : DataW H × List MemPlace}
    (h : DataW.trod enc Try.prog W base spare held fuel 41 [v] = some x) :
    ∃ p len cap, v = .slice p len cap ∧ len ≤ cap ∧ cap ≤ 9223372036854775807 ∧ OpsIn W p len := by
  rcases open_ops h with h0 | ⟨b, o, len, cap, sp, h0, hl, hc, hsp, hop⟩
  · simp at h0
    exact ⟨none, 0, 0, h0, by omega, by omega, fun i hi => by omega⟩
  · simp at h0
    refine ⟨_, len, cap, h0, hl, by have : maxLen ≤ 9223372036854775807 := by decide
                                    omega, fun i hi => ⟨b, o, ?_, ?_⟩⟩
    · rw [hsp (by omega)]
    · rw [Nat.mul_comm]; exact hop i hi

theorem restarts_any {H : Type} {enc : TypeId × Value → H} (off up0 mk : Int) (hm0 : 0 ≤ mk) (hm1 : mk ≤ 4294967295) {W : World} {base fuel base' fuel' : Nat} {spare spare' : Nat → Bool} {held held' : Bool} {v u : Value} {x y : DataW H × List MemPlace}
    (h : DataW.trod enc Try.prog W base spare held fuel 41 [v] = some x) (h' : DataW.trod enc Try.prog W base' spare' held' fuel' 41 [u] = some y) :
    Calls Try.prog 9 #[.int .i64 off, .int .i64 up0, v, u, .int .u32 mk] W fun e w' => e = .returned (.bool true) ∧ Below W.heap.size W w' := by
  cases hok : newOk off up0 with
  | false => exact restarts_no off up0 mk hok v u W
  | true =>
    obtain ⟨p, len, cap, rfl, hl, hc, hi⟩ := ops_in h
    obtain ⟨p', len', cap', rfl, hl', hc', hi'⟩ := ops_in h'
    exact restarts_loops off up0 mk hm0 hm1 hok p p' len cap len' cap' W hl hc hl' hc' hi hi'

end Go.Proofs.Yteibigiehpkdjaa
