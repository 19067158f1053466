/- slices.Clone of labels. -/
import Derived.Test.YtpkadghdnlkfiaaEl2
import Derived.Test.YtpkadghdnlkfiaaLbT
import Derived.WalkSpells
namespace Go.Proofs.Ytpkadghdnlkfiaa
open Go.RowKit

set_option maxHeartbeats 800000 in
theorem clone_any (K : Nat) (A : Option Addr) (n cap : Nat) (l : List Pp) (w : World) (hn : l.length = n) (hb : Lr w K A cap l) (hK : K ≤ w.heap.size) (hsz : l.length * 32 ≤ 140737488355328) :
    Calls Try.prog 33 #[.slice A n cap] w (NewA w l) := by
  subst hn
  have hle := hb.le
  have hmax := hb.max
  unfold maxLen at hmax
  cases A with
  | none =>
    have hc := hb.nil rfl
    have hl : l = [] := List.eq_nil_of_length_eq_zero (by omega)
    subst hl hc
    have hq := Lib.run_eql_slice_nil (P := Try.prog) w 25 49 none 0 0 0 0 Try.underlying25
    go_enter Try.func33, Try.ntmps33
    go_wp2
    go_ret
    exact ⟨none, 0, rfl, So.empty _ _ _ _ _, Below.refl _ _⟩
  | some ad =>
    have hq := Lib.run_eql_slice_nil (P := Try.prog) w 25 49 (some ad) l.length cap 0 0 Try.underlying25
    go_enter Try.func33, Try.ntmps33
    go_wp2_with (at_builtin; refine wpList_appE Try.underlying25 info_ap rfl (by decide) encP_len encP_one _ rfl (.tmp 5) (.tmp 6) rfl w.heap.size (.slice (some ⟨w.heap.size, 0, none⟩) 0 0) [] rfl (lit_so _ w.heap.size _ w.heap.size rfl (Nat.le_refl _) _ 0 [] encP_len rfl rfl (by decide)) (some ad) l.length cap l rfl rfl K (hb.alloc hK _) l.length (by simp) (by unfold maxLen; omega) hsz (by simp) ?_; intro A2 cap2 w2 hown2 hgrow2 hat2; have B2 : Below w.heap.size w w2 := grown_belowE ((Below.refl _ _).alloc (Nat.le_refl _) _) hgrow2 (by simp) (by simp [Value.ownBlock]))
    go_ret
    exact ⟨A2, cap2, rfl, hown2, B2⟩
end Go.Proofs.Ytpkadghdnlkfiaa
