/- The law's From: pieces as the document's. -/
import Derived.Test.YtldflhledobfnabScan
namespace Go.Proofs.Ytldflhledobfnab
open Go.RowKit

def FromPost (w : World) (ps : List Pc) (e : Ending) (w' : World) : Prop :=
  ∃ A' cap', e = .returned (.slice A' ps.length cap') ∧ Ps w' w.heap.size 27 (.slice A' ps.length cap') ps ∧ Below w.heap.size w w'

set_option maxHeartbeats 1600000 in
theorem from_any (K : Nat) (A : Option Addr) (n cap : Nat) (ps : List Pc) (w : World) (hpn : ps.length = n) (hp : Pr w K A cap ps) (hK : K ≤ w.heap.size) (hl : ps.length * 32 ≤ 140737488355328) :
    Calls Try.prog 10 #[.slice A n cap] w (FromPost w ps) := by
  subst hpn
  have hle := hp.le
  have hmax := hp.max
  unfold maxLen at hmax
  go_enter Try.func10, Try.ntmps10
  go_wp2
  go_loopw [3, 8] (fun v i wr => ∃ (k c : Nat) (B : Option Addr), k ≤ ps.length ∧ i = .int .i64 k ∧ v = .slice B k c ∧ Ps wr w.heap.size 27 (.slice B k c) (ps.take k) ∧ Below w.heap.size w wr) (fun _ i _ => ps.length - (intOf i).toNat)
  case atStart => exact ⟨0, 0, none, Nat.zero_le _, rfl, rfl, by simpa using Ps.empty _ _ _, Below.refl _ _⟩
  case round =>
    obtain ⟨k, c, B, hk, rfl, rfl, hps, hbl⟩ := hrel
    have z := hbl.size
    by_cases hlt : k < ps.length
    · obtain ⟨ad, rfl, hadK, h1, A1, c1, h2, hbs⟩ := (hp.below (hbl.mono hK)).get2 hlt
      have htk : ps.take (k + 1) = ps.take k ++ [ps[k]] := List.take_succ_eq_append_getElem hlt
      have hln : (ps.take k).length = k := by simp; omega
      generalize ps[k] = x at *
      obtain ⟨kk, p⟩ := x
      simp only at h1 h2 hbs
      have HT := Lib.hid htk
      have HL := Lib.hid hln
      have hps1 := hps.below (w' := wr.alloc (.cells #[bv kk, .slice A1 p.length c1] 44)) ((Below.refl _ _).alloc (Nat.le_refl _) _)
      have hne : ∀ ad : Addr, A1 = some ad → 0 < p.length → (Value.slice B k c).ownBlock ≠ some ad.block := fun ad e hl he => by
        have h1 := (hps.lt _ he).1
        obtain ⟨ad', e', hlt', _⟩ := hbs.at_ hl
        rw [e] at e'
        cases e'
        omega
      have HNE := Lib.hid hne
      clear htk hln hne
      go_wp2_with (at_builtin; refine wpList_push Try.underlying22 info_rpc rfl (wr.alloc (.cells #[bv kk, .slice A1 p.length c1] 44)) rfl (.tmp 12) (.tmp 18) rfl w.heap.size (.slice B k c) (ps.take k) rfl hps1 kk p A1 c1 (wr.heap.size + 1) (by simp) rfl ((hbs.alloc (by omega) _).more (by simp; omega)) HNE.out (k + 1) (by rw [HL.out]) (by omega) (by omega) ?_; intro A2 cap2 w2 hps2 hgrow2; have B2 : Below w.heap.size w w2 := grown_below (hbl.alloc z _) hgrow2 (by simp; omega) (fun _ h => (hps1.lt _ h).1))
      go_roundw
      case rel => exact ⟨k + 1, cap2, A2, by omega, by go_num, rfl, by rw [HT.out]; exact hps2, B2⟩
      case measure => simp [intOf]; omega
    · have hkl : k = ps.length := by omega
      subst hkl
      rw [List.take_length] at hps
      go_wp2
      go_ret
      exact ⟨B, c, rfl, hps, hbl⟩
theorem from_n (K : Nat) (A : Option Addr) (n cap : Nat) (ps : List Pc) (w : World) (hpn : ps.length = n) (hp : Pr w K A cap ps) (hK : K ≤ w.heap.size) (hl : ps.length * 32 ≤ 140737488355328) :
    Calls Try.prog 10 #[.slice A n cap] w fun e w' => ∃ A' cap', e = .returned (.slice A' n cap') ∧ Ps w' w.heap.size 27 (.slice A' n cap') ps ∧ Below w.heap.size w w' := by
  subst hpn
  exact from_any K A ps.length cap ps w rfl hp hK hl
end Go.Proofs.Ytldflhledobfnab
