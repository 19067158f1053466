/- ClockRises: what New says no to; no steps. -/
import Derived.Test.YteibigiehpkdjaaUpdD
import Derived.Test.YteibigiehpkdjaaOps
namespace Go.Proofs.Yteibigiehpkdjaa
open Go.RowKit


theorem rises_no (off up0 mk : Int) (hok : newOk off up0 = false) (v : Value) (w : World) :
    Calls Try.prog 8 #[.int .i64 off, .int .i64 up0, .int .u32 mk, v] w fun e w' => e = .returned (.bool true) ∧ Below w.heap.size w w' := by
  go_enter Try.func8, Try.ntmps8
  go_wp2_with fail
  refine (new_no off up0 mk hok _).mono ?_
  rintro e w1 ⟨rfl, lB1⟩
  have z1 := lB1.size
  go_wp2_with fail
  refine (awake_any _).mono ?_
  rintro e w2 ⟨rfl, lB2⟩
  have z2 := lB2.size
  have HB2 := Lib.hid (lB1.trans (lB2.mono z1))
  clear lB1 lB2
  go_wp2_with fail
  refine (awake_any _).mono ?_
  rintro e w3 ⟨rfl, lB3⟩
  have HB3 := Lib.hid (HB2.out.trans (lB3.mono (by omega)))
  clear lB3
  go_wp2
  go_ret
  exact ⟨rfl, HB3.out⟩

set_option maxRecDepth 100000 in
theorem rises_zero (off up0 mk : Int) (hok : newOk off up0 = true) (p : Option Addr) (cap : Nat) (w : World) :
    Calls Try.prog 8 #[.int .i64 off, .int .i64 up0, .int .u32 mk, .slice p 0 cap] w fun e w' => e = .returned (.bool true) ∧ Below w.heap.size w w' := by
  go_enter Try.func8, Try.ntmps8
  go_wp2_with fail
  refine (new_yes off up0 mk hok _).mono ?_
  rintro e w1 ⟨b, rfl, hb1, lB1, hk1⟩
  have z1 := lB1.size
  clear hk1
  go_wp2_with fail
  refine (awake_any _).mono ?_
  rintro e w2 ⟨rfl, lB2⟩
  have HB2 := Lib.hid (lB1.trans (lB2.mono z1))
  clear lB1 lB2
  go_wp2_with fail
  go_loopw [37] (fun i wr => i = .int .i64 0 ∧ Below w.heap.size w wr) (fun _ _ => 0)
  case atStart => exact ⟨rfl, HB2.out.alloc HB2.out.size _⟩
  case round =>
    obtain ⟨rfl, hB⟩ := hrel
    have HB := Lib.hid hB
    clear hB
    go_wp2
    go_ret
    exact ⟨rfl, HB.out⟩


end Go.Proofs.Yteibigiehpkdjaa
