/- The law FrameScans: its walk. -/
import Derived.Test.YtldflhledobfnaaAwk
import Derived.Test.YtldflhledobfnaaRefScan
import Derived.Test.YtldflhledobfnaaFrom
import Derived.Test.YtldflhledobfnaaSame
namespace Go.Proofs.Ytldflhledobfnaa
open Go.RowKit

theorem scanB_len (l : List UInt8) : (scanB l).1.length * 9 ≤ l.length := by
  have : ∀ (n : Nat) (l : List UInt8), l.length ≤ n → (scanB l).1.length * 9 ≤ l.length := by
    intro n
    induction n with
    | zero =>
      intro l hl
      have : l = [] := List.eq_nil_of_length_eq_zero (by omega)
      subst this
      simp [scanB_nil]
    | succ n ih =>
      intro l hl
      by_cases h : (openB l).2.2.2 = 0
      · obtain ⟨h1, h2, _, _⟩ := openB_used h
        rw [scanB_ok h]
        have := ih (l.drop (openB l).2.2.1) (by simp; omega)
        simp only [List.length_drop, List.length_cons] at *
        omega
      · rw [scanB_no h]; simp
  exact this _ l (Nat.le_refl _)

set_option maxHeartbeats 1600000 in
theorem scans_any (K : Nat) (A : Option Addr) (cap : Nat) (l : List UInt8) (w : World) (hb : Bs w K A cap l) (hK : K ≤ w.heap.size) (hl : l.length ≤ 1099511627776) :
    Calls Try.prog 6 #[.slice A l.length cap] w fun e w' => e = .returned (.bool true) ∧ Below w.heap.size w w' := by
  have hsl := scanB_len l
  go_enter Try.func6, Try.ntmps6
  go_wp2_with fail
  refine (scan_any K A cap l _ hb hK hl).mono ?_
  rintro e w1 ⟨A1, c1, rfl, hps1, B1⟩
  have z1 := B1.size
  go_wp2_with fail
  refine (refScan_any K A cap l _ (hb.below (B1.mono hK)) (by omega) hl).mono ?_
  rintro e w2 ⟨A2, c2, rfl, hps2, hb2⟩
  have B2 : Below w.heap.size w w2 := B1.trans (hb2.mono z1)
  have z2 := B2.size
  have hps1 := hps1.below hb2
  clear hb2
  generalize scanB l = s at *
  obtain ⟨ps, u⟩ := s
  simp only at hps1 hps2 hsl
  go_wp2_with fail
  refine (awake_any _).mono ?_
  rintro e w3 ⟨rfl, hb3⟩
  have B3 : Below w.heap.size w w3 := B2.trans (hb3.mono z2)
  have z3 := B3.size
  have hps1 := hps1.below hb3
  have hps2 := hps2.below hb3
  clear hb3
  go_wp2_with fail
  refine (from_any w3.heap.size A1 ps.length c1 ps _ rfl hps1.pr.1 (Nat.le_refl _) (by omega)).mono ?_
  rintro e w4 ⟨A4, c4, rfl, hps4, hb4⟩
  have B4 : Below w.heap.size w w4 := B3.trans (hb4.mono z3)
  have z4 := B4.size
  have hps2 := hps2.below hb4
  clear hb4
  go_wp2_with fail
  refine (same_any w4.heap.size A4 A2 ps.length ps.length c4 c2 ps _ rfl rfl hps4.pr.1 hps2.pr.1 (Nat.le_refl _)).mono ?_
  rintro e w5 ⟨rfl, hb5⟩
  have B5 : Below w.heap.size w w5 := B4.trans (hb5.mono z4)
  go_wp2
  go_ret
  exact ⟨rfl, B5⟩
end Go.Proofs.Ytldflhledobfnaa
