/- The law FrameOpens: its walk. -/
import Derived.Test.YtldflhledobfnaaAwk
import Derived.Test.YtldflhledobfnaaRefOpen
import Derived.Test.YtldflhledobfnaaStr
import Derived.Deep.AppendLies
namespace Go.Proofs.Ytldflhledobfnaa
open Go.RowKit

theorem Ob.stored {w : World} {K g n cap : Nat} {l : List UInt8} (h : Ob w K (.slice (some ⟨g, 0, none⟩) n cap) l) (j : Nat) (c : UInt8) : Ob (w.setCell ⟨g, j, none⟩ (bv c)) K (.slice (some ⟨g, 0, none⟩) n cap) (l.set j c) := by
  have hn := h.bs.2
  subst hn
  have := World.ownsRow.stored h j (bv c)
  unfold Ob
  rw [List.length_set, List.map_set]
  exact this.1
theorem add0 (g j : Nat) : (⟨g, 0, none⟩ : Addr).add j = ⟨g, j, none⟩ := by unfold Addr.add; split <;> simp_all
theorem Ob.addr {w : World} {K n cap : Nat} {A : Option Addr} {l : List UInt8} (h : Ob w K (.slice A n cap) l) (hn : 0 < n) : ∃ g, A = some ⟨g, 0, none⟩ ∧ K ≤ g ∧ g < w.heap.size := by
  have e := h.bs.2
  obtain ⟨g, cap', he, hg, hl⟩ := World.ownsRow.form (h := h) (by omega)
  injection he with h1 h2 h3
  exact ⟨g, h1, hg, hl⟩

set_option maxHeartbeats 1600000 in
theorem opens_any (K : Nat) (A : Option Addr) (cap : Nat) (l : List UInt8) (w : World) (hb : Bs w K A cap l) (hK : K ≤ w.heap.size) :
    Calls Try.prog 5 #[.slice A l.length cap] w fun e w' => e = .returned (.bool true) ∧ Below w.heap.size w w' := by
  have s0 := bs_str hb rfl
  go_enter Try.func5, Try.ntmps5
  go_wp2_with fail
  clear s0
  refine (open_any K cap l w A hb hK).mono ?_
  rintro e w1 ⟨A1, c1, rfl, hown1, B1⟩
  have z1 := B1.size
  go_wp2_with fail
  refine (refOpen_any K cap l w1 A (hb.below (B1.mono hK)) (by omega)).mono ?_
  rintro e w2 ⟨A2, c2, rfl, hown2, hb2⟩
  have B2 : Below w.heap.size w w2 := B1.trans (hb2.mono z1)
  have hown1 := hown1.below hb2
  have s1 := bs_str hown1.bs.1 rfl
  have s2 := bs_str hown2.bs.1 rfl
  have hm1 : (openB l).2.1.length ≤ 9223372036854775807 := Nat.le_trans hown1.bs.1.le hown1.bs.1.max
  clear hb2
  generalize openB l = o at *
  obtain ⟨k, p, u, er⟩ := o
  simp only at hown1 hown2 s1 s2 hm1
  go_wp2
  clear s1 s2 hown2
  go_loopw [13, 52] (fun _ i wr => ∃ (j : Nat) (m : List UInt8), j ≤ p.length ∧ i = .int .i64 j ∧ m.length = p.length ∧ Ob wr w.heap.size (.slice A1 p.length c1) m ∧ Below w.heap.size w wr) (fun _ i _ => p.length - (intOf i).toNat)
  case atStart => exact ⟨0, p, Nat.zero_le _, rfl, rfl, hown1, B2⟩
  case round =>
    obtain ⟨j, m, hj, rfl, hml, hown3, B3⟩ := hrel
    clear hown1
    by_cases hlt : j < p.length
    · obtain ⟨g, rfl, hg, hgl⟩ := hown3.addr (by omega)
      obtain ⟨ad, e', hx⟩ := hown3.bs.1.g (k := j) (by omega)
      cases e'
      have hfr := World.ownsRow.frozenAt (show World.ownsRow _ _ _ _ _ _ _ from hown3.bs.2 ▸ hown3) j
      rw [add0] at hx
      have hy := at0_lt m j
      generalize at0 m j = x at *
      have ex : bits .xor .u8 (x : Int) 255 = ((UInt8.ofNat (x ^^^ 255)).toNat : Int) := by
        have : x ^^^ 255 < 2 ^ 8 := Nat.xor_lt_two_pow (by omega) (by decide)
        rw [show (255 : Int) = ((255 : Nat) : Int) from rfl, u8_xor_nat x 255 hy (by decide)]
        generalize x ^^^ 255 = z at *
        simp; omega
      have hst := hown3.stored j (UInt8.ofNat (x ^^^ 255))
      have HST := Lib.hid hst
      have HM := Lib.hid hml
      clear hst hown3 hml
      generalize UInt8.ofNat (x ^^^ 255) = y at *
      go_wp2
      go_roundw
      case rel => exact ⟨j + 1, m.set j y, by omega, by go_num, by rw [List.length_set, HM.out], HST.out, B3.setCell hg _⟩
      case measure => simp [intOf]; omega
    · have z3 := B3.size
      go_wp2_with (go_at_call 7; refine (awake_any _).mono ?_; rintro e w4 ⟨rfl, hb4⟩; have B4 : Below w.heap.size w w4 := B3.trans (hb4.mono z3); have s3 := bs_str (hb.below (B4.mono hK)) rfl)
      go_ret
      exact ⟨rfl, B4⟩
end Go.Proofs.Ytldflhledobfnaa
