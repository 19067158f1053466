/- The document's Same, of two lists that are one. -/
import Derived.Test.YtldflhledobfnabPs
import Derived.Test.YtldflhledobfnabStr
import Derived.Test.YtldflhledobfnabCrcM
import Derived.LoopTactic
import Derived.Deep.QuietTactic
import Derived.BigQuiet
namespace Go.Proofs.Ytldflhledobfnab
open Go.RowKit

set_option maxHeartbeats 1600000 in
theorem same_any (K : Nat) (A A' : Option Addr) (n n' cap cap' : Nat) (ps : List Pc) (w : World) (hn : ps.length = n) (hn' : ps.length = n') (hp : Pr w K A cap ps) (hq : Pr w K A' cap' ps) (hK : K ≤ w.heap.size) :
    Calls Try.prog 9 #[.slice A n cap, .slice A' n' cap'] w fun e w' => e = .returned (.bool true) ∧ Below w.heap.size w w' := by
  subst hn hn'
  have hle := hp.le
  have hmax := hp.max
  unfold maxLen at hmax
  go_enter Try.func9, Try.ntmps9
  go_wp2
  go_loopw [5] (fun i wr => ∃ k : Nat, k ≤ ps.length ∧ i = .int .i64 k ∧ Below w.heap.size w wr) (fun i _ => ps.length - (intOf i).toNat)
  case atStart => exact ⟨0, Nat.zero_le _, rfl, Below.refl _ _⟩
  case round =>
    obtain ⟨k, hk, rfl, hbl⟩ := hrel
    by_cases hlt : k < ps.length
    · obtain ⟨ad, rfl, _, h1, A1, c1, h2, hbs⟩ := (hp.below (hbl.mono hK)).get2 hlt
      obtain ⟨ad', rfl, _, h1', A1', c1', h2', hbs'⟩ := (hq.below (hbl.mono hK)).get2 hlt
      have s1 := fun m => bs_str (hbs.drewN m) rfl
      have s2 := fun m => bs_str (hbs'.drewN m) rfl
      have k0 : (0 : Int) ≤ (k : Int) := by omega
      have k1 : (k : Int) < (ps.length : Int) := by omega
      generalize ps[k] = x at *
      obtain ⟨kk, p⟩ := x
      simp only at h1 h2 h1' h2' s1 s2
      clear hp hq hbs hbs'
      go_wp2
      go_quiet (fail)
      go_wp2
      go_roundw
      case rel => exact ⟨k + 1, by omega, by go_num, hbl.trans ⟨rfl, rfl, rfl, Nat.le_refl _, fun _ _ => rfl⟩⟩
      case measure => simp [intOf]; omega
    · go_wp2
      go_ret
      exact ⟨rfl, hbl⟩
end Go.Proofs.Ytldflhledobfnab
