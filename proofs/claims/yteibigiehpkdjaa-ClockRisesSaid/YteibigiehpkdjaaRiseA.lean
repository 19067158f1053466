/- ClockRises: any steps. -/
import Derived.Test.YteibigiehpkdjaaRiseZ
import Derived.Test.YteibigiehpkdjaaRise
namespace Go.Proofs.Yteibigiehpkdjaa
open Go.RowKit


theorem rises_any {H : Type} {enc : TypeId × Value → H} (off up0 mk : Int) (hm0 : 0 ≤ mk) (hm1 : mk ≤ 4294967295) {W : World} {base fuel : Nat} {spare : Nat → Bool} {held : Bool} {v : Value} {x : DataW H × List MemPlace}
    (h : DataW.trod enc Try.prog W base spare held fuel 41 [v] = some x) :
    Calls Try.prog 8 #[.int .i64 off, .int .i64 up0, .int .u32 mk, v] W fun e w' => e = .returned (.bool true) ∧ Below W.heap.size W w' := by
  cases hok : newOk off up0 with
  | false => exact rises_no off up0 mk hok v W
  | true =>
    rcases open_ops h with h0 | ⟨b, o, len, cap, sp, h0, hl, hc, hsp, hop⟩
    · simp at h0
      subst h0
      exact rises_zero off up0 mk hok none 0 W
    · simp at h0
      subst h0
      rcases Nat.eq_zero_or_pos len with rfl | hpos
      · exact rises_zero off up0 mk hok _ cap W
      · have := hsp hpos
        subst this
        exact rises_loop off up0 mk hm0 hm1 hok b o len cap W hl hc hop

end Go.Proofs.Yteibigiehpkdjaa
