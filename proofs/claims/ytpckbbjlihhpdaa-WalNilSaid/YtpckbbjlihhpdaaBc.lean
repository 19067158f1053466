/- bytes.Clone. -/
import Derived.Test.YtpckbbjlihhpdaaSCl
import Derived.WalkSpells
namespace Go.Proofs.Ytpckbbjlihhpdaa
open Go.RowKit

theorem bclone_any (K : Nat) (A : Option Addr) (n cap : Nat) (l : List UInt8) (w : World) (hn : l.length = n) (hb : Bs w K A cap l) (hK : K ≤ w.heap.size) (hsz : l.length ≤ 140737488355328) :
    Calls Try.prog 71 #[.slice A n cap] w (NewBytes w l) := by
  subst hn
  have hle := hb.le
  have hmax := hb.max
  unfold maxLen at hmax
  cases A with
  | none =>
    have hc := hb.nil rfl
    have hl : l = [] := List.eq_nil_of_length_eq_zero (by omega)
    subst hl hc
    have hq := Lib.run_eql_slice_nil (P := Try.prog) w 30 5 none 0 0 0 0 Try.underlying30
    go_enter Try.func71, Try.ntmps71
    go_wp2
    go_ret
    exact ⟨none, 0, rfl, Ob.empty _ _, Below.refl _ _⟩
  | some ad =>
    have hq := Lib.run_eql_slice_nil (P := Try.prog) w 30 5 (some ad) l.length cap 0 0 Try.underlying30
    go_enter Try.func71, Try.ntmps71
    go_wp2_with (at_builtin; refine wpList_app _ rfl (.tmp 5) (.tmp 6) rfl w.heap.size (.slice (some ⟨w.heap.size, 0, none⟩) 0 0) [] rfl (lit_ob _ w.heap.size w.heap.size rfl (Nat.le_refl _) _ 0 [] rfl rfl (by decide)) (some ad) l.length cap l rfl rfl K (hb.alloc hK _) l.length (by simp) (by simpa using hsz) (by simp) ?_; intro A2 cap2 w2 hown2 hgrow2 hat2; have B2 : Below w.heap.size w w2 := grown_below ((Below.refl _ _).alloc (Nat.le_refl _) _) hgrow2 (by simp) (by simp [Value.ownBlock]))
    go_ret
    exact ⟨A2, cap2, rfl, hown2, B2⟩
end Go.Proofs.Ytpckbbjlihhpdaa
