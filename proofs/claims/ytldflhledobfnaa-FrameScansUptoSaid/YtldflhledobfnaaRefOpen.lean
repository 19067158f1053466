/- The document's Open. -/
import Derived.Test.YtldflhledobfnaaOpen
import Derived.Test.YtldflhledobfnaaRefSeal
import Derived.IntWalk
namespace Go.Proofs.Ytldflhledobfnaa
open Go.RowKit

section
variable (K cap : Nat) (l : List UInt8) (w : World)
theorem ropen_none (A : Option Addr) (h0 : l.length = 0) : Calls Try.prog 13 #[.slice A 0 cap] w (OpenPost w l) := by
  have hp := open_bad l w (openB_short (.inl h0) (by omega)) (Below.refl _ w)
  have HP := Lib.hid hp
  clear hp h0
  go_enter Try.func13, Try.ntmps13
  go_wp2
  refine bodyPost_ret (results_four rfl _ _ _) rfl ?_; exact HP.out

variable {ad : Addr} (hb : Bs w K (some ad) cap l) (hK : K ≤ w.heap.size)
include hb
theorem ropen_form (h0 : 0 < l.length) (h1 : ¬ at0 l 0 = 167) : Calls Try.prog 13 #[.slice (some ad) l.length cap] w (OpenPost w l) := by
  have hle := hb.le
  have hmax := hb.max
  unfold maxLen at hmax
  have hp := open_bad l w (openB_form h0 h1) (Below.refl _ w)
  have HP := Lib.hid hp
  clear hp
  have c0 : w.cell? ad = some (.int .u8 (at0 l 0 : Int)) := hb.c0 h0
  have hne : ((at0 l 0 : Int) == 167) = false := by simp; omega
  go_enter Try.func13, Try.ntmps13
  go_wp2
  refine bodyPost_ret (results_four rfl _ _ _) rfl ?_; exact HP.out

theorem ropen_few (h0 : 0 < l.length) (h1 : at0 l 0 = 167) (h9 : l.length < 9) : Calls Try.prog 13 #[.slice (some ad) l.length cap] w (OpenPost w l) := by
  have hle := hb.le
  have hmax := hb.max
  unfold maxLen at hmax
  have hp := open_bad l w (openB_short (.inr h1) h9) (Below.refl _ w)
  have HP := Lib.hid hp
  clear hp
  have c0 : w.cell? ad = some (.int .u8 (at0 l 0 : Int)) := hb.c0 h0
  rw [h1] at c0
  clear h1
  go_enter Try.func13, Try.ntmps13
  go_wp2
  refine bodyPost_ret (results_four rfl _ _ _) rfl ?_; exact HP.out

set_option maxHeartbeats 1600000 in
theorem ropen_limit (h1 : at0 l 0 = 167) (h9 : 9 ≤ l.length) (hm : 1048576 < lenB l) : Calls Try.prog 13 #[.slice (some ad) l.length cap] w (OpenPost w l) := by
  have hp := fun w' (hbl : Below w.heap.size w w') => open_bad l w (openB_limit h1 h9 hm) hbl
  have HP := Lib.hid hp
  clear hp
  have hle := hb.le
  have hmax := hb.max
  unfold maxLen at hmax
  have c0 : w.cell? ad = some (.int .u8 (at0 l 0 : Int)) := hb.c0 (by omega)
  have c1 : w.cell? ⟨ad.block, ad.off + 1, none⟩ = some (.int .u8 (at0 l 1 : Int)) := hb.c 1 (by omega) (by omega)
  have c2 : w.cell? ⟨ad.block, ad.off + 2, none⟩ = some (.int .u8 (at0 l 2 : Int)) := hb.c 2 (by omega) (by omega)
  have c3 : w.cell? ⟨ad.block, ad.off + 3, none⟩ = some (.int .u8 (at0 l 3 : Int)) := hb.c 3 (by omega) (by omega)
  have c4 : w.cell? ⟨ad.block, ad.off + 4, none⟩ = some (.int .u8 (at0 l 4 : Int)) := hb.c 4 (by omega) (by omega)
  rw [h1] at c0
  have b1 := at0_lt l 1
  have b2 := at0_lt l 2
  have b3 := at0_lt l 3
  have b4 := at0_lt l 4
  have s1 : IntKind.i64.wrap ((at0 l 2 : Int) * 65536) = (at0 l 2 : Int) * 65536 := IntWalk.i64_in _ (by omega)
  have s2 : IntKind.i64.wrap ((at0 l 3 : Int) * 256) = (at0 l 3 : Int) * 256 := IntWalk.i64_in _ (by omega)
  have s3 : IntKind.i64.wrap ((at0 l 2 : Int) * 65536 + (at0 l 3 : Int) * 256) = (at0 l 2 : Int) * 65536 + (at0 l 3 : Int) * 256 := IntWalk.i64_in _ (by omega)
  have s4 : IntKind.i64.wrap ((at0 l 2 : Int) * 65536 + (at0 l 3 : Int) * 256 + (at0 l 4 : Int)) = (lenB l : Int) := (IntWalk.i64_in _ (by omega)).trans (by unfold lenB; omega)
  clear h1
  go_enter Try.func13, Try.ntmps13
  go_wp2
  go_quiet (fail)
  clear s1 s2 s3 s4
  go_wp2
  refine bodyPost_ret (results_four rfl _ _ _) rfl ?_; exact HP.out _ (below_drewN _)

set_option maxHeartbeats 1600000 in
theorem ropen_cut (h1 : at0 l 0 = 167) (h9 : 9 ≤ l.length) (hm : lenB l ≤ 1048576) (h : l.length < 9 + lenB l) : Calls Try.prog 13 #[.slice (some ad) l.length cap] w (OpenPost w l) := by
  have hp := fun w' (hbl : Below w.heap.size w w') => open_bad l w (openB_short2 h1 h9 hm h) hbl
  have HP := Lib.hid hp
  clear hp
  have hle := hb.le
  have hmax := hb.max
  unfold maxLen at hmax
  have c0 : w.cell? ad = some (.int .u8 (at0 l 0 : Int)) := hb.c0 (by omega)
  have c1 : w.cell? ⟨ad.block, ad.off + 1, none⟩ = some (.int .u8 (at0 l 1 : Int)) := hb.c 1 (by omega) (by omega)
  have c2 : w.cell? ⟨ad.block, ad.off + 2, none⟩ = some (.int .u8 (at0 l 2 : Int)) := hb.c 2 (by omega) (by omega)
  have c3 : w.cell? ⟨ad.block, ad.off + 3, none⟩ = some (.int .u8 (at0 l 3 : Int)) := hb.c 3 (by omega) (by omega)
  have c4 : w.cell? ⟨ad.block, ad.off + 4, none⟩ = some (.int .u8 (at0 l 4 : Int)) := hb.c 4 (by omega) (by omega)
  rw [h1] at c0
  have b1 := at0_lt l 1
  have b2 := at0_lt l 2
  have b3 := at0_lt l 3
  have b4 := at0_lt l 4
  have s1 : IntKind.i64.wrap ((at0 l 2 : Int) * 65536) = (at0 l 2 : Int) * 65536 := IntWalk.i64_in _ (by omega)
  have s2 : IntKind.i64.wrap ((at0 l 3 : Int) * 256) = (at0 l 3 : Int) * 256 := IntWalk.i64_in _ (by omega)
  have s3 : IntKind.i64.wrap ((at0 l 2 : Int) * 65536 + (at0 l 3 : Int) * 256) = (at0 l 2 : Int) * 65536 + (at0 l 3 : Int) * 256 := IntWalk.i64_in _ (by omega)
  have s4 : IntKind.i64.wrap ((at0 l 2 : Int) * 65536 + (at0 l 3 : Int) * 256 + (at0 l 4 : Int)) = (lenB l : Int) := (IntWalk.i64_in _ (by omega)).trans (by unfold lenB; omega)
  clear h1
  go_enter Try.func13, Try.ntmps13
  go_wp2
  go_quiet (fail)
  clear s1 s2 s3 s4
  go_wp2
  refine bodyPost_ret (results_four rfl _ _ _) rfl ?_; exact HP.out _ (below_drewN _)

include hK
set_option maxHeartbeats 1600000 in
theorem ropen_ok (h1 : at0 l 0 = 167) (h9 : 9 ≤ l.length) (hm : lenB l ≤ 1048576) (h : 9 + lenB l ≤ l.length) : Calls Try.prog 13 #[.slice (some ad) l.length cap] w (OpenPost w l) := by
  have hp := fun hs : sum4 l = sumO l => openB_ok h1 h9 hm h hs
  have HP := Lib.hid hp
  have hq := fun (hs : ¬ sum4 l = sumO l) w' (hbl : Below w.heap.size w w') => open_bad l w (openB_sum h1 h9 hm h hs) hbl
  have HQ := Lib.hid hq
  have hi := again_iff h1 h9 (payB_length h)
  have HI := Lib.hid hi
  have hpm : (payB l).length ≤ 1048576 := by rw [payB_length h]; exact hm
  have H9 := Lib.hid h9
  clear hp hq hi
  have hle := hb.le
  have hmax := hb.max
  unfold maxLen at hmax
  have c0 : w.cell? ad = some (.int .u8 (at0 l 0 : Int)) := hb.c0 (by omega)
  have c1 : w.cell? ⟨ad.block, ad.off + 1, none⟩ = some (.int .u8 (at0 l 1 : Int)) := hb.c 1 (by omega) (by omega)
  have c2 : w.cell? ⟨ad.block, ad.off + 2, none⟩ = some (.int .u8 (at0 l 2 : Int)) := hb.c 2 (by omega) (by omega)
  have c3 : w.cell? ⟨ad.block, ad.off + 3, none⟩ = some (.int .u8 (at0 l 3 : Int)) := hb.c 3 (by omega) (by omega)
  have c4 : w.cell? ⟨ad.block, ad.off + 4, none⟩ = some (.int .u8 (at0 l 4 : Int)) := hb.c 4 (by omega) (by omega)
  rw [h1] at c0
  have b1 := at0_lt l 1
  have b2 := at0_lt l 2
  have b3 := at0_lt l 3
  have b4 := at0_lt l 4
  have s1 : IntKind.i64.wrap ((at0 l 2 : Int) * 65536) = (at0 l 2 : Int) * 65536 := IntWalk.i64_in _ (by omega)
  have s2 : IntKind.i64.wrap ((at0 l 3 : Int) * 256) = (at0 l 3 : Int) * 256 := IntWalk.i64_in _ (by omega)
  have s3 : IntKind.i64.wrap ((at0 l 2 : Int) * 65536 + (at0 l 3 : Int) * 256) = (at0 l 2 : Int) * 65536 + (at0 l 3 : Int) * 256 := IntWalk.i64_in _ (by omega)
  have s4 : IntKind.i64.wrap ((at0 l 2 : Int) * 65536 + (at0 l 3 : Int) * 256 + (at0 l 4 : Int)) = (lenB l : Int) := (IntWalk.i64_in _ (by omega)).trans (by unfold lenB; omega)
  clear h1
  by_cases hc : cap = 9
  · have hl9 : l.length = 9 := by omega
    have hm0 : lenB l = 0 := by omega
    have hpay : Bs w K (some ad) 0 (payB l) := by
      have := hb.cut (i := 9) (j := 9) (by omega) (by omega)
      rw [if_pos hc, hc] at this
      unfold payB
      rw [hm0]
      exact this
    have hpl : (payB l).length = 0 := by rw [payB_length h, hm0]
    subst hc
    rw [hm0] at s4
    rw [hl9]
    have HM := Lib.hid hm0
    have HL := Lib.hid hl9
    have HPL := Lib.hid hpl
    clear hm0 hl9 hpl hm h h9 hle hmax
    go_enter Try.func13, Try.ntmps13
    go_wp2
    go_quiet (fail)
    clear s1 s2 s3 s4
    go_wp2_with (first
      | (at_builtin; go_loud (refine wpList_app _ rfl (.tmp 46) (.tmp 50) rfl w.heap.size (.slice (some ⟨w.heap.size, 0, none⟩) 0 0) [] rfl (lit_ob _ w.heap.size w.heap.size rfl (Nat.le_refl _) _ 0 [] rfl rfl (by decide)) (some ad) _ 0 (payB l) rfl (by have := HPL.out; omega) K ((hpay.drewN _).alloc hK _) (payB l).length (by simp) (by simp; omega) (by simp) ?_); intro A2 cap2 w2 hown2 hgrow2 hat2; have B2 : Below w.heap.size w w2 := grown_below ((below_drewN _).alloc (by simp) _) hgrow2 (by simp) (by simp [Value.ownBlock]); have z2 := B2.size; have c1' := B2.cell (p := ⟨ad.block, ad.off + 1, none⟩) (by have := World.block_lt_of_cell? w _ c1; exact this); rw [c1] at c1')
      | (go_at_call 11; refine (refSeal_ok (l.getD 1 0) _ A2 cap2 (payB l) _ hown2.bs.1 (Nat.le_refl _) hpm).mono ?_; rintro e w3 ⟨A3, cap3, rfl, hown3, hbl3⟩; have B3 : Below w.heap.size w w3 := B2.trans (hbl3.mono z2); have z3 := B3.size; have hown2' := hown2.below hbl3))
    clear hown2 hgrow2 hat2 hbl3 c1'
    have hag := hown3.bs.1
    change Bs w3 _ A3 cap3 (again l) at hag
    go_loopw [10] (fun i wr => ∃ j : Nat, j ≤ 9 ∧ i = .int .i64 j ∧ (∀ q, q < j → at0 (again l) q = at0 l q) ∧ Below w3.heap.size w3 wr) (fun i _ => 9 - (intOf i).toNat)
    case atStart => exact ⟨0, by omega, rfl, fun _ h => absurd h (by omega), Below.refl _ _⟩
    case round =>
      obtain ⟨j, hj, rfl, hall, hblr⟩ := hrel
      have hagl : (again l).length = 9 + (payB l).length := sealB_length _ _
      have hbr := (hb.below (B3.mono hK)).below (hblr.mono (by omega))
      have hagr := hag.below hblr
      have hll := H9.out
      by_cases hlt : j < 9
      · obtain ⟨ad3, rfl, hx⟩ := hagr.g (k := j) (by omega)
        obtain ⟨ad', e', hy⟩ := hbr.g (k := j) (by omega)
        cases e'
        have k0 : (0 : Int) ≤ (j : Int) := by omega
        have k1 : (j : Int) < 9 := by omega
        have k2 : (j : Int) < (l.length : Int) := by omega
        have k3 : (j : Int) < 9 + ((payB l).length : Int) := by omega
        by_cases he : at0 (again l) j = at0 l j
        · rw [he] at hx
          have hall' : ∀ q, q < j + 1 → at0 (again l) q = at0 l q := fun q hq => by
            rcases Nat.lt_or_ge q j with h | h
            · exact hall q h
            · have : q = j := by omega
              subst this; exact he
          have HA := Lib.hid hall'
          clear hall hall' he hagr hbr hag hb hpay
          go_wp2
          go_quiet (fail)
          go_wp2
          go_roundw
          case rel => exact ⟨j + 1, by omega, by go_num, HA.out, hblr.trans (below_drewN _)⟩
          case measure => simp [intOf]; omega
        · have hne : ((at0 (again l) j : Int) != (at0 l j : Int)) = true := by rw [bne_iff_ne]; omega
          have hno : ¬ sum4 l = sumO l := fun hs => he (HI.out.2 hs j hlt)
          have HN := Lib.hid hno
          clear hall he hno hagr hbr hag hb hpay
          go_wp2
          go_quiet (fail)
          go_wp2
          refine bodyPost_ret (results_four rfl _ _ _) rfl ?_; exact HQ.out HN.out _ ((B3.trans (hblr.mono z3)).trans (below_drewN _))
      · have hj9 : j = 9 := by omega
        subst hj9
        have hsum := HI.out.1 hall
        have HS := Lib.hid hsum
        have c1r : wr.cell? ⟨ad.block, ad.off + 1, none⟩ = some (.int .u8 (at0 l 1 : Int)) := hbr.c 1 (by omega) (by omega)
        clear hall hsum hagr hbr hag hb hpay
        go_wp2
        refine bodyPost_ret (results_four rfl _ _ _) rfl ?_; exact open_good l w (HP.out HS.out) (Below.refl _ w) (hown2'.below hblr) (B3.trans (hblr.mono z3)) (by rw [HM.out]; rfl)

  · have hpay := hb.cutS (i := 9) (j := 9 + lenB l) (by omega) (by omega) h (by omega)
    have hpl := payB_length h
    rw [show 9 + lenB l - 9 = lenB l by omega] at hpay
    change Bs w K _ _ (payB l) at hpay
    have e9 : 9 + lenB l - 9 = lenB l := by omega
    have i1 : (1 : Int) < (l.length : Int) := by omega
    have HPL := Lib.hid hpl
    clear hpl
    go_enter Try.func13, Try.ntmps13
    go_wp2
    go_quiet (fail)
    clear s1 s2 s3 s4
    go_wp2_with (first
      | (at_builtin; go_loud (refine wpList_app _ rfl (.tmp 46) (.tmp 50) rfl w.heap.size (.slice (some ⟨w.heap.size, 0, none⟩) 0 0) [] rfl (lit_ob _ w.heap.size w.heap.size rfl (Nat.le_refl _) _ 0 [] rfl rfl (by decide)) (some ⟨ad.block, ad.off + 9, none⟩) _ (cap - 9) (payB l) rfl (by have := HPL.out; omega) K ((hpay.drewN _).alloc hK _) (payB l).length (by simp) (by simp; omega) (by simp) ?_); intro A2 cap2 w2 hown2 hgrow2 hat2; have B2 : Below w.heap.size w w2 := grown_below ((below_drewN _).alloc (by simp) _) hgrow2 (by simp) (by simp [Value.ownBlock]); have z2 := B2.size; have c1' := B2.cell (p := ⟨ad.block, ad.off + 1, none⟩) (by have := World.block_lt_of_cell? w _ c1; exact this); rw [c1] at c1')
      | (go_at_call 11; refine (refSeal_ok (l.getD 1 0) _ A2 cap2 (payB l) _ hown2.bs.1 (Nat.le_refl _) hpm).mono ?_; rintro e w3 ⟨A3, cap3, rfl, hown3, hbl3⟩; have B3 : Below w.heap.size w w3 := B2.trans (hbl3.mono z2); have z3 := B3.size; have hown2' := hown2.below hbl3))
    clear hown2 hgrow2 hat2 hbl3 c1'
    have hag := hown3.bs.1
    change Bs w3 _ A3 cap3 (again l) at hag
    go_loopw [10] (fun i wr => ∃ j : Nat, j ≤ 9 ∧ i = .int .i64 j ∧ (∀ q, q < j → at0 (again l) q = at0 l q) ∧ Below w3.heap.size w3 wr) (fun i _ => 9 - (intOf i).toNat)
    case atStart => exact ⟨0, by omega, rfl, fun _ h => absurd h (by omega), Below.refl _ _⟩
    case round =>
      obtain ⟨j, hj, rfl, hall, hblr⟩ := hrel
      have hagl : (again l).length = 9 + (payB l).length := sealB_length _ _
      have hbr := (hb.below (B3.mono hK)).below (hblr.mono (by omega))
      have hagr := hag.below hblr
      have hll := H9.out
      by_cases hlt : j < 9
      · obtain ⟨ad3, rfl, hx⟩ := hagr.g (k := j) (by omega)
        obtain ⟨ad', e', hy⟩ := hbr.g (k := j) (by omega)
        cases e'
        have k0 : (0 : Int) ≤ (j : Int) := by omega
        have k1 : (j : Int) < 9 := by omega
        have k2 : (j : Int) < (l.length : Int) := by omega
        have k3 : (j : Int) < 9 + ((payB l).length : Int) := by omega
        by_cases he : at0 (again l) j = at0 l j
        · rw [he] at hx
          have hall' : ∀ q, q < j + 1 → at0 (again l) q = at0 l q := fun q hq => by
            rcases Nat.lt_or_ge q j with h | h
            · exact hall q h
            · have : q = j := by omega
              subst this; exact he
          have HA := Lib.hid hall'
          clear hall hall' he hagr hbr hag hb hpay
          go_wp2
          go_quiet (fail)
          go_wp2
          go_roundw
          case rel => exact ⟨j + 1, by omega, by go_num, HA.out, hblr.trans (below_drewN _)⟩
          case measure => simp [intOf]; omega
        · have hne : ((at0 (again l) j : Int) != (at0 l j : Int)) = true := by rw [bne_iff_ne]; omega
          have hno : ¬ sum4 l = sumO l := fun hs => he (HI.out.2 hs j hlt)
          have HN := Lib.hid hno
          clear hall he hno hagr hbr hag hb hpay
          go_wp2
          go_quiet (fail)
          go_wp2
          refine bodyPost_ret (results_four rfl _ _ _) rfl ?_; exact HQ.out HN.out _ ((B3.trans (hblr.mono z3)).trans (below_drewN _))
      · have hj9 : j = 9 := by omega
        subst hj9
        have hsum := HI.out.1 hall
        have HS := Lib.hid hsum
        have c1r : wr.cell? ⟨ad.block, ad.off + 1, none⟩ = some (.int .u8 (at0 l 1 : Int)) := hbr.c 1 (by omega) (by omega)
        clear hall hsum hagr hbr hag hb hpay
        go_wp2
        refine bodyPost_ret (results_four rfl _ _ _) rfl ?_; exact open_good l w (HP.out HS.out) (Below.refl _ w) (hown2'.below hblr) (B3.trans (hblr.mono z3)) rfl


omit hb hK in
theorem refOpen_any (A : Option Addr) (hb : Bs w K A cap l) (hK : K ≤ w.heap.size) : Calls Try.prog 13 #[.slice A l.length cap] w (OpenPost w l) := by
  rcases Nat.eq_zero_or_pos l.length with h0 | h0
  · have := ropen_none cap l w A h0
    rw [← h0] at this
    exact this
  · obtain ⟨ad, rfl, _⟩ := hb.some_ h0
    by_cases h1 : at0 l 0 = 167
    · by_cases h9 : 9 ≤ l.length
      · by_cases hm : lenB l ≤ 1048576
        · by_cases h : 9 + lenB l ≤ l.length
          · exact ropen_ok K cap l w hb hK h1 h9 hm h
          · exact ropen_cut K cap l w hb h1 h9 hm (by omega)
        · exact ropen_limit K cap l w hb h1 h9 (by omega)
      · exact ropen_few K cap l w hb h0 h1 (by omega)
    · exact ropen_form K cap l w hb h0 h1
end
end Go.Proofs.Ytldflhledobfnaa
