/- The document's Scan. -/
import Derived.Test.YtkkaehaoahpibaaPk11
import Derived.IntWalk
import Derived.Test.YtkkaehaoahpibaaPk0
import Derived.Deep.AppendLies
import Derived.Test.YtkkaehaoahpibaaPk7
namespace Go.Proofs.Ytkkaehaoahpibaa
open Go.RowKit

section
variable (K cap : Nat) (l : List UInt8) (w : World)
set_option maxRecDepth 100000 in
theorem ropen_none (A : Option Addr) (h0 : l.length = 0) : Calls Try.prog 62 #[.slice A 0 cap] w (OpenPost w l) := by
  have hp := open_bad l w (openB_short (.inl h0) (by omega)) (Below.refl _ w)
  have HP := Lib.hid hp
  clear hp h0
  go_enter Try.func62, Try.ntmps62
  go_wp2
  refine bodyPost_ret (results_four rfl _ _ _) rfl ?_; exact HP.out

variable {ad : Addr} (hb : Bs w K (some ad) cap l) (hK : K ≤ w.heap.size)
include hb
set_option maxRecDepth 100000 in
theorem ropen_form (h0 : 0 < l.length) (h1 : ¬ at0 l 0 = 167) : Calls Try.prog 62 #[.slice (some ad) l.length cap] w (OpenPost w l) := by
  have hle := hb.le
  have hmax := hb.max
  unfold maxLen at hmax
  have hp := open_bad l w (openB_form h0 h1) (Below.refl _ w)
  have HP := Lib.hid hp
  clear hp
  have c0 : w.cell? ad = some (.int .u8 (at0 l 0 : Int)) := hb.c0 h0
  have hne : ((at0 l 0 : Int) == 167) = false := by simp; omega
  go_enter Try.func62, Try.ntmps62
  go_wp2
  refine bodyPost_ret (results_four rfl _ _ _) rfl ?_; exact HP.out

set_option maxRecDepth 100000 in
theorem ropen_few (h0 : 0 < l.length) (h1 : at0 l 0 = 167) (h9 : l.length < 9) : Calls Try.prog 62 #[.slice (some ad) l.length cap] w (OpenPost w l) := by
  have hle := hb.le
  have hmax := hb.max
  unfold maxLen at hmax
  have hp := open_bad l w (openB_short (.inr h1) h9) (Below.refl _ w)
  have HP := Lib.hid hp
  clear hp
  have c0 : w.cell? ad = some (.int .u8 (at0 l 0 : Int)) := hb.c0 h0
  rw [h1] at c0
  clear h1
  go_enter Try.func62, Try.ntmps62
  go_wp2
  refine bodyPost_ret (results_four rfl _ _ _) rfl ?_; exact HP.out

set_option maxRecDepth 100000 in
set_option maxHeartbeats 1600000 in
theorem ropen_limit (h1 : at0 l 0 = 167) (h9 : 9 ≤ l.length) (hm : 1048576 < lenB l) : Calls Try.prog 62 #[.slice (some ad) l.length cap] w (OpenPost w l) := by
  have hp := fun w' (hbl : Below w.heap.size w w') => open_bad l w (openB_limit h1 h9 hm) hbl
  have HP := Lib.hid hp
  clear hp
  have hle := hb.le
  have hmax := hb.max
  unfold maxLen at hmax
  have c0 : w.cell? ad = some (.int .u8 (at0 l 0 : Int)) := hb.c0 (by omega)
  have c1 : w.cell? ⟨ad.block, ad.off + 1, none⟩ = some (.int .u8 (at0 l 1 : Int)) := hb.c 1 (by omega) (by omega)
  have c2 : w.cell? ⟨ad.block, ad.off + 2, none⟩ = some (.int .u8 (at0 l 2 : Int)) := hb.c 2 (by omega) (by omega)
  have c3 : w.cell? ⟨ad.block, ad.off + 3, none⟩ = some (.int .u8 (at0 l 3 : Int)) := hb.c 3 (by omega) (by omega)
  have c4 : w.cell? ⟨ad.block, ad.off + 4, none⟩ = some (.int .u8 (at0 l 4 : Int)) := hb.c 4 (by omega) (by omega)
  rw [h1] at c0
  have b1 := at0_lt l 1
  have b2 := at0_lt l 2
  have b3 := at0_lt l 3
  have b4 := at0_lt l 4
  have s1 : IntKind.i64.wrap ((at0 l 2 : Int) * 65536) = (at0 l 2 : Int) * 65536 := IntWalk.i64_in _ (by omega)
  have s2 : IntKind.i64.wrap ((at0 l 3 : Int) * 256) = (at0 l 3 : Int) * 256 := IntWalk.i64_in _ (by omega)
  have s3 : IntKind.i64.wrap ((at0 l 2 : Int) * 65536 + (at0 l 3 : Int) * 256) = (at0 l 2 : Int) * 65536 + (at0 l 3 : Int) * 256 := IntWalk.i64_in _ (by omega)
  have s4 : IntKind.i64.wrap ((at0 l 2 : Int) * 65536 + (at0 l 3 : Int) * 256 + (at0 l 4 : Int)) = (lenB l : Int) := (IntWalk.i64_in _ (by omega)).trans (by unfold lenB; omega)
  clear h1
  go_enter Try.func62, Try.ntmps62
  go_wp2
  go_quiet (fail)
  clear s1 s2 s3 s4
  go_wp2
  refine bodyPost_ret (results_four rfl _ _ _) rfl ?_; exact HP.out _ (below_drewNo _)

set_option maxRecDepth 100000 in
set_option maxHeartbeats 1600000 in
theorem ropen_cut (h1 : at0 l 0 = 167) (h9 : 9 ≤ l.length) (hm : lenB l ≤ 1048576) (h : l.length < 9 + lenB l) : Calls Try.prog 62 #[.slice (some ad) l.length cap] w (OpenPost w l) := by
  have hp := fun w' (hbl : Below w.heap.size w w') => open_bad l w (openB_short2 h1 h9 hm h) hbl
  have HP := Lib.hid hp
  clear hp
  have hle := hb.le
  have hmax := hb.max
  unfold maxLen at hmax
  have c0 : w.cell? ad = some (.int .u8 (at0 l 0 : Int)) := hb.c0 (by omega)
  have c1 : w.cell? ⟨ad.block, ad.off + 1, none⟩ = some (.int .u8 (at0 l 1 : Int)) := hb.c 1 (by omega) (by omega)
  have c2 : w.cell? ⟨ad.block, ad.off + 2, none⟩ = some (.int .u8 (at0 l 2 : Int)) := hb.c 2 (by omega) (by omega)
  have c3 : w.cell? ⟨ad.block, ad.off + 3, none⟩ = some (.int .u8 (at0 l 3 : Int)) := hb.c 3 (by omega) (by omega)
  have c4 : w.cell? ⟨ad.block, ad.off + 4, none⟩ = some (.int .u8 (at0 l 4 : Int)) := hb.c 4 (by omega) (by omega)
  rw [h1] at c0
  have b1 := at0_lt l 1
  have b2 := at0_lt l 2
  have b3 := at0_lt l 3
  have b4 := at0_lt l 4
  have s1 : IntKind.i64.wrap ((at0 l 2 : Int) * 65536) = (at0 l 2 : Int) * 65536 := IntWalk.i64_in _ (by omega)
  have s2 : IntKind.i64.wrap ((at0 l 3 : Int) * 256) = (at0 l 3 : Int) * 256 := IntWalk.i64_in _ (by omega)
  have s3 : IntKind.i64.wrap ((at0 l 2 : Int) * 65536 + (at0 l 3 : Int) * 256) = (at0 l 2 : Int) * 65536 + (at0 l 3 : Int) * 256 := IntWalk.i64_in _ (by omega)
  have s4 : IntKind.i64.wrap ((at0 l 2 : Int) * 65536 + (at0 l 3 : Int) * 256 + (at0 l 4 : Int)) = (lenB l : Int) := (IntWalk.i64_in _ (by omega)).trans (by unfold lenB; omega)
  clear h1
  go_enter Try.func62, Try.ntmps62
  go_wp2
  go_quiet (fail)
  clear s1 s2 s3 s4
  go_wp2
  refine bodyPost_ret (results_four rfl _ _ _) rfl ?_; exact HP.out _ (below_drewNo _)

include hK
set_option maxRecDepth 100000 in
set_option maxHeartbeats 1600000 in
theorem ropen_ok (h1 : at0 l 0 = 167) (h9 : 9 ≤ l.length) (hm : lenB l ≤ 1048576) (h : 9 + lenB l ≤ l.length) : Calls Try.prog 62 #[.slice (some ad) l.length cap] w (OpenPost w l) := by
  have hp := fun hs : sum4 l = sumO l => openB_ok h1 h9 hm h hs
  have HP := Lib.hid hp
  have hq := fun (hs : ¬ sum4 l = sumO l) w' (hbl : Below w.heap.size w w') => open_bad l w (openB_sum h1 h9 hm h hs) hbl
  have HQ := Lib.hid hq
  have hi := again_iff h1 h9 (payB_length h)
  have HI := Lib.hid hi
  have hpm : (payB l).length ≤ 1048576 := by rw [payB_length h]; exact hm
  have H9 := Lib.hid h9
  clear hp hq hi
  have hle := hb.le
  have hmax := hb.max
  unfold maxLen at hmax
  have c0 : w.cell? ad = some (.int .u8 (at0 l 0 : Int)) := hb.c0 (by omega)
  have c1 : w.cell? ⟨ad.block, ad.off + 1, none⟩ = some (.int .u8 (at0 l 1 : Int)) := hb.c 1 (by omega) (by omega)
  have c2 : w.cell? ⟨ad.block, ad.off + 2, none⟩ = some (.int .u8 (at0 l 2 : Int)) := hb.c 2 (by omega) (by omega)
  have c3 : w.cell? ⟨ad.block, ad.off + 3, none⟩ = some (.int .u8 (at0 l 3 : Int)) := hb.c 3 (by omega) (by omega)
  have c4 : w.cell? ⟨ad.block, ad.off + 4, none⟩ = some (.int .u8 (at0 l 4 : Int)) := hb.c 4 (by omega) (by omega)
  rw [h1] at c0
  have b1 := at0_lt l 1
  have b2 := at0_lt l 2
  have b3 := at0_lt l 3
  have b4 := at0_lt l 4
  have s1 : IntKind.i64.wrap ((at0 l 2 : Int) * 65536) = (at0 l 2 : Int) * 65536 := IntWalk.i64_in _ (by omega)
  have s2 : IntKind.i64.wrap ((at0 l 3 : Int) * 256) = (at0 l 3 : Int) * 256 := IntWalk.i64_in _ (by omega)
  have s3 : IntKind.i64.wrap ((at0 l 2 : Int) * 65536 + (at0 l 3 : Int) * 256) = (at0 l 2 : Int) * 65536 + (at0 l 3 : Int) * 256 := IntWalk.i64_in _ (by omega)
  have s4 : IntKind.i64.wrap ((at0 l 2 : Int) * 65536 + (at0 l 3 : Int) * 256 + (at0 l 4 : Int)) = (lenB l : Int) := (IntWalk.i64_in _ (by omega)).trans (by unfold lenB; omega)
  clear h1
  by_cases hc : cap = 9
  · have hl9 : l.length = 9 := by omega
    have hm0 : lenB l = 0 := by omega
    have hpay : Bs w K (some ad) 0 (payB l) := by
      have := hb.cut (i := 9) (j := 9) (by omega) (by omega)
      rw [if_pos hc, hc] at this
      unfold payB
      rw [hm0]
      exact this
    have hpl : (payB l).length = 0 := by rw [payB_length h, hm0]
    subst hc
    rw [hm0] at s4
    rw [hl9]
    have HM := Lib.hid hm0
    have HL := Lib.hid hl9
    have HPL := Lib.hid hpl
    clear hm0 hl9 hpl hm h h9 hle hmax
    go_enter Try.func62, Try.ntmps62
    go_wp2
    go_quiet (fail)
    clear s1 s2 s3 s4
    go_wp2_with (first
      | (at_builtin; go_loud (refine wpList_app _ rfl (.tmp 46) (.tmp 50) rfl w.heap.size (.slice (some ⟨w.heap.size, 0, none⟩) 0 0) [] rfl (lit_ob _ w.heap.size w.heap.size rfl (Nat.le_refl _) _ 0 [] rfl rfl (by decide)) (some ad) _ 0 (payB l) rfl (by have := HPL.out; omega) K ((hpay.drewN _).alloc hK _) (payB l).length (by simp) (by simp; omega) (by simp) ?_); intro A2 cap2 w2 hown2 hgrow2 hat2; have B2 : Below w.heap.size w w2 := grown_below ((below_drewNo _).alloc (by simp) _) hgrow2 (by simp) (by simp [Value.ownBlock]); have z2 := B2.size; have c1' := B2.cell (p := ⟨ad.block, ad.off + 1, none⟩) (by have := World.block_lt_of_cell? w _ c1; exact this); rw [c1] at c1')
      | (go_at_call 39; refine (refSeal_ok (l.getD 1 0) _ A2 cap2 (payB l) _ hown2.bs.1 (Nat.le_refl _) hpm).mono ?_; rintro e w3 ⟨A3, cap3, rfl, hown3, hbl3⟩; have B3 : Below w.heap.size w w3 := B2.trans (hbl3.mono z2); have z3 := B3.size; have hown2' := hown2.below hbl3))
    clear hown2 hgrow2 hat2 hbl3 c1'
    have hag := hown3.bs.1
    change Bs w3 _ A3 cap3 (again l) at hag
    go_loopw [10] (fun i wr => ∃ j : Nat, j ≤ 9 ∧ i = .int .i64 j ∧ (∀ q, q < j → at0 (again l) q = at0 l q) ∧ Below w3.heap.size w3 wr) (fun i _ => 9 - (intOf i).toNat)
    case atStart => exact ⟨0, by omega, rfl, fun _ h => absurd h (by omega), Below.refl _ _⟩
    case round =>
      obtain ⟨j, hj, rfl, hall, hblr⟩ := hrel
      have hagl : (again l).length = 9 + (payB l).length := sealB_length _ _
      have hbr := (hb.below (B3.mono hK)).below (hblr.mono (by omega))
      have hagr := hag.below hblr
      have hll := H9.out
      by_cases hlt : j < 9
      · obtain ⟨ad3, rfl, hx⟩ := hagr.g (k := j) (by omega)
        obtain ⟨ad', e', hy⟩ := hbr.g (k := j) (by omega)
        cases e'
        have k0 : (0 : Int) ≤ (j : Int) := by omega
        have k1 : (j : Int) < 9 := by omega
        have k2 : (j : Int) < (l.length : Int) := by omega
        have k3 : (j : Int) < 9 + ((payB l).length : Int) := by omega
        by_cases he : at0 (again l) j = at0 l j
        · rw [he] at hx
          have hall' : ∀ q, q < j + 1 → at0 (again l) q = at0 l q := fun q hq => by
            rcases Nat.lt_or_ge q j with h | h
            · exact hall q h
            · have : q = j := by omega
              subst this; exact he
          have HA := Lib.hid hall'
          clear hall hall' he hagr hbr hag hb hpay
          go_wp2
          go_quiet (fail)
          go_wp2
          go_roundw
          case rel => exact ⟨j + 1, by omega, by go_num, HA.out, hblr.trans (below_drewNo _)⟩
          case measure => simp [intOf]; omega
        · have hne : ((at0 (again l) j : Int) != (at0 l j : Int)) = true := by rw [bne_iff_ne]; omega
          have hno : ¬ sum4 l = sumO l := fun hs => he (HI.out.2 hs j hlt)
          have HN := Lib.hid hno
          clear hall he hno hagr hbr hag hb hpay
          go_wp2
          go_quiet (fail)
          go_wp2
          refine bodyPost_ret (results_four rfl _ _ _) rfl ?_; exact HQ.out HN.out _ ((B3.trans (hblr.mono z3)).trans (below_drewNo _))
      · have hj9 : j = 9 := by omega
        subst hj9
        have hsum := HI.out.1 hall
        have HS := Lib.hid hsum
        have c1r : wr.cell? ⟨ad.block, ad.off + 1, none⟩ = some (.int .u8 (at0 l 1 : Int)) := hbr.c 1 (by omega) (by omega)
        clear hall hsum hagr hbr hag hb hpay
        go_wp2
        refine bodyPost_ret (results_four rfl _ _ _) rfl ?_; exact open_good l w (HP.out HS.out) (Below.refl _ w) (hown2'.below hblr) (B3.trans (hblr.mono z3)) (by rw [HM.out]; rfl)

  · have hpay := hb.cutS (i := 9) (j := 9 + lenB l) (by omega) (by omega) h (by omega)
    have hpl := payB_length h
    rw [show 9 + lenB l - 9 = lenB l by omega] at hpay
    change Bs w K _ _ (payB l) at hpay
    have e9 : 9 + lenB l - 9 = lenB l := by omega
    have i1 : (1 : Int) < (l.length : Int) := by omega
    have HPL := Lib.hid hpl
    clear hpl
    go_enter Try.func62, Try.ntmps62
    go_wp2
    go_quiet (fail)
    clear s1 s2 s3 s4
    go_wp2_with (first
      | (at_builtin; go_loud (refine wpList_app _ rfl (.tmp 46) (.tmp 50) rfl w.heap.size (.slice (some ⟨w.heap.size, 0, none⟩) 0 0) [] rfl (lit_ob _ w.heap.size w.heap.size rfl (Nat.le_refl _) _ 0 [] rfl rfl (by decide)) (some ⟨ad.block, ad.off + 9, none⟩) _ (cap - 9) (payB l) rfl (by have := HPL.out; omega) K ((hpay.drewN _).alloc hK _) (payB l).length (by simp) (by simp; omega) (by simp) ?_); intro A2 cap2 w2 hown2 hgrow2 hat2; have B2 : Below w.heap.size w w2 := grown_below ((below_drewNo _).alloc (by simp) _) hgrow2 (by simp) (by simp [Value.ownBlock]); have z2 := B2.size; have c1' := B2.cell (p := ⟨ad.block, ad.off + 1, none⟩) (by have := World.block_lt_of_cell? w _ c1; exact this); rw [c1] at c1')
      | (go_at_call 39; refine (refSeal_ok (l.getD 1 0) _ A2 cap2 (payB l) _ hown2.bs.1 (Nat.le_refl _) hpm).mono ?_; rintro e w3 ⟨A3, cap3, rfl, hown3, hbl3⟩; have B3 : Below w.heap.size w w3 := B2.trans (hbl3.mono z2); have z3 := B3.size; have hown2' := hown2.below hbl3))
    clear hown2 hgrow2 hat2 hbl3 c1'
    have hag := hown3.bs.1
    change Bs w3 _ A3 cap3 (again l) at hag
    go_loopw [10] (fun i wr => ∃ j : Nat, j ≤ 9 ∧ i = .int .i64 j ∧ (∀ q, q < j → at0 (again l) q = at0 l q) ∧ Below w3.heap.size w3 wr) (fun i _ => 9 - (intOf i).toNat)
    case atStart => exact ⟨0, by omega, rfl, fun _ h => absurd h (by omega), Below.refl _ _⟩
    case round =>
      obtain ⟨j, hj, rfl, hall, hblr⟩ := hrel
      have hagl : (again l).length = 9 + (payB l).length := sealB_length _ _
      have hbr := (hb.below (B3.mono hK)).below (hblr.mono (by omega))
      have hagr := hag.below hblr
      have hll := H9.out
      by_cases hlt : j < 9
      · obtain ⟨ad3, rfl, hx⟩ := hagr.g (k := j) (by omega)
        obtain ⟨ad', e', hy⟩ := hbr.g (k := j) (by omega)
        cases e'
        have k0 : (0 : Int) ≤ (j : Int) := by omega
        have k1 : (j : Int) < 9 := by omega
        have k2 : (j : Int) < (l.length : Int) := by omega
        have k3 : (j : Int) < 9 + ((payB l).length : Int) := by omega
        by_cases he : at0 (again l) j = at0 l j
        · rw [he] at hx
          have hall' : ∀ q, q < j + 1 → at0 (again l) q = at0 l q := fun q hq => by
            rcases Nat.lt_or_ge q j with h | h
            · exact hall q h
            · have : q = j := by omega
              subst this; exact he
          have HA := Lib.hid hall'
          clear hall hall' he hagr hbr hag hb hpay
          go_wp2
          go_quiet (fail)
          go_wp2
          go_roundw
          case rel => exact ⟨j + 1, by omega, by go_num, HA.out, hblr.trans (below_drewNo _)⟩
          case measure => simp [intOf]; omega
        · have hne : ((at0 (again l) j : Int) != (at0 l j : Int)) = true := by rw [bne_iff_ne]; omega
          have hno : ¬ sum4 l = sumO l := fun hs => he (HI.out.2 hs j hlt)
          have HN := Lib.hid hno
          clear hall he hno hagr hbr hag hb hpay
          go_wp2
          go_quiet (fail)
          go_wp2
          refine bodyPost_ret (results_four rfl _ _ _) rfl ?_; exact HQ.out HN.out _ ((B3.trans (hblr.mono z3)).trans (below_drewNo _))
      · have hj9 : j = 9 := by omega
        subst hj9
        have hsum := HI.out.1 hall
        have HS := Lib.hid hsum
        have c1r : wr.cell? ⟨ad.block, ad.off + 1, none⟩ = some (.int .u8 (at0 l 1 : Int)) := hbr.c 1 (by omega) (by omega)
        clear hall hsum hagr hbr hag hb hpay
        go_wp2
        refine bodyPost_ret (results_four rfl _ _ _) rfl ?_; exact open_good l w (HP.out HS.out) (Below.refl _ w) (hown2'.below hblr) (B3.trans (hblr.mono z3)) rfl


omit hb hK in
set_option maxRecDepth 100000 in
theorem refOpen_any (A : Option Addr) (hb : Bs w K A cap l) (hK : K ≤ w.heap.size) : Calls Try.prog 62 #[.slice A l.length cap] w (OpenPost w l) := by
  rcases Nat.eq_zero_or_pos l.length with h0 | h0
  · have := ropen_none cap l w A h0
    rw [← h0] at this
    exact this
  · obtain ⟨ad, rfl, _⟩ := hb.some_ h0
    by_cases h1 : at0 l 0 = 167
    · by_cases h9 : 9 ≤ l.length
      · by_cases hm : lenB l ≤ 1048576
        · by_cases h : 9 + lenB l ≤ l.length
          · exact ropen_ok K cap l w hb hK h1 h9 hm h
          · exact ropen_cut K cap l w hb h1 h9 hm (by omega)
        · exact ropen_limit K cap l w hb h1 h9 (by omega)
      · exact ropen_few K cap l w hb h0 h1 (by omega)
    · exact ropen_form K cap l w hb h0 h1
end
end Go.Proofs.Ytkkaehaoahpibaa
namespace Go.Proofs.Ytkkaehaoahpibaa

def scanF : Nat → List UInt8 → List (UInt8 × List UInt8) × Nat
  | 0, _ => ([], 0)
  | f + 1, l => if (openB l).2.2.2 = 0 then (((openB l).1, (openB l).2.1) :: (scanF f (l.drop (openB l).2.2.1)).1, (openB l).2.2.1 + (scanF f (l.drop (openB l).2.2.1)).2) else ([], 0)
def scanB (l : List UInt8) : List (UInt8 × List UInt8) × Nat := scanF (l.length + 1) l

/-- What stands behind an Open without an error. -/
theorem openB_inv {l : List UInt8} (h : (openB l).2.2.2 = 0) : at0 l 0 = 167 ∧ 9 + lenB l ≤ l.length ∧ lenB l ≤ 1048576 ∧ sum4 l = sumO l ∧ openB l = (l.getD 1 0, payB l, 9 + lenB l, 0) := by
  by_cases h0 : 0 < l.length ∧ at0 l 0 ≠ 167
  · rw [openB, if_pos h0] at h; simp at h
  by_cases h9 : l.length < 9
  · rw [openB, if_neg h0, if_pos h9] at h; simp at h
  by_cases hm : 1048576 < lenB l
  · rw [openB, if_neg h0, if_neg h9, if_pos hm] at h; simp at h
  by_cases hl : l.length < 9 + lenB l
  · rw [openB, if_neg h0, if_neg h9, if_neg hm, if_pos hl] at h; simp at h
  by_cases hs : sum4 l = sumO l
  · have h1 : at0 l 0 = 167 := by
      rcases Nat.decEq (at0 l 0) 167 with h' | h'
      · exact absurd ⟨by omega, h'⟩ h0
      · exact h'
    exact ⟨h1, by omega, by omega, hs, openB_ok h1 (by omega) (by omega) (by omega) hs⟩
  · rw [openB, if_neg h0, if_neg h9, if_neg hm, if_neg hl, if_pos hs] at h; simp at h
theorem openB_used {l : List UInt8} (h : (openB l).2.2.2 = 0) : 9 ≤ (openB l).2.2.1 ∧ (openB l).2.2.1 ≤ l.length ∧ (openB l).2.1.length ≤ 1048576 ∧ (openB l).2.2.1 = 9 + (openB l).2.1.length := by
  obtain ⟨_, h2, h3, _, h5⟩ := openB_inv h
  have := payB_length h2
  rw [h5]
  simp only
  omega

theorem scanF_fuel : ∀ (n : Nat) (l : List UInt8) (f : Nat), l.length ≤ n → l.length < f → scanF f l = scanF (l.length + 1) l := by
  intro n
  induction n with
  | zero =>
    intro l f hn hf
    have : l = [] := List.eq_nil_of_length_eq_zero (by omega)
    subst this
    cases f with
    | zero => omega
    | succ f => simp [scanF, openB]
  | succ n ih =>
    intro l f hn hf
    cases f with
    | zero => omega
    | succ f =>
      simp only [scanF]
      by_cases h : (openB l).2.2.2 = 0
      · obtain ⟨h1, h2, _, _⟩ := openB_used h
        have hd : (l.drop (openB l).2.2.1).length < l.length := by simp; omega
        rw [if_pos h, if_pos h, ih _ f (by omega) (by omega), ih _ l.length (by omega) hd]
      · rw [if_neg h, if_neg h]
theorem scanB_ok {l : List UInt8} (h : (openB l).2.2.2 = 0) : scanB l = (((openB l).1, (openB l).2.1) :: (scanB (l.drop (openB l).2.2.1)).1, (openB l).2.2.1 + (scanB (l.drop (openB l).2.2.1)).2) := by
  obtain ⟨h1, h2, _, _⟩ := openB_used h
  unfold scanB
  conv => lhs; rw [scanF, if_pos h]
  rw [scanF_fuel _ _ l.length (Nat.le_refl _) (by simp; omega)]
theorem scanB_no {l : List UInt8} (h : ¬ (openB l).2.2.2 = 0) : scanB l = ([], 0) := by
  unfold scanB; rw [scanF, if_neg h]
theorem scanB_nil : scanB [] = ([], 0) := scanB_no (by simp [openB])

theorem scanB_len (l : List UInt8) : (scanB l).1.length * 9 ≤ l.length := by
  have : ∀ (n : Nat) (l : List UInt8), l.length ≤ n → (scanB l).1.length * 9 ≤ l.length := by
    intro n
    induction n with
    | zero =>
      intro l hl
      have : l = [] := List.eq_nil_of_length_eq_zero (by omega)
      subst this
      simp [scanB_nil]
    | succ n ih =>
      intro l hl
      by_cases h : (openB l).2.2.2 = 0
      · obtain ⟨h1, h2, _, _⟩ := openB_used h
        rw [scanB_ok h]
        have := ih (l.drop (openB l).2.2.1) (by simp; omega)
        simp only [List.length_drop, List.length_cons] at *
        omega
      · rw [scanB_no h]; simp
  exact this _ l (Nat.le_refl _)

theorem scanB_used (l : List UInt8) : (scanB l).2 ≤ l.length := by
  have : ∀ (n : Nat) (l : List UInt8), l.length ≤ n → (scanB l).2 ≤ l.length := by
    intro n
    induction n with
    | zero =>
      intro l hl
      have : l = [] := List.eq_nil_of_length_eq_zero (by omega)
      subst this
      simp [scanB_nil]
    | succ n ih =>
      intro l hl
      by_cases h : (openB l).2.2.2 = 0
      · obtain ⟨h1, h2, _, _⟩ := openB_used h
        rw [scanB_ok h]
        have := ih (l.drop (openB l).2.2.1) (by simp; omega)
        simp only [List.length_drop] at *
        omega
      · rw [scanB_no h]; simp
  exact this _ l (Nat.le_refl _)
/-- What has been scanned up to j. -/
def ScanTo (l : List UInt8) (j : Nat) (ps : List (UInt8 × List UInt8)) : Prop :=
  j ≤ l.length ∧ ps.length * 9 ≤ j ∧ scanB l = (ps ++ (scanB (l.drop j)).1, j + (scanB (l.drop j)).2)
theorem ScanTo.zero (l : List UInt8) : ScanTo l 0 [] := ⟨Nat.zero_le _, by simp, by simp⟩
theorem ScanTo.next {l : List UInt8} {j : Nat} {ps : List (UInt8 × List UInt8)} (h : ScanTo l j ps) (ho : (openB (l.drop j)).2.2.2 = 0) : ScanTo l (j + (openB (l.drop j)).2.2.1) (ps ++ [((openB (l.drop j)).1, (openB (l.drop j)).2.1)]) := by
  obtain ⟨h1, h2, h3⟩ := h
  obtain ⟨u1, u2, _, _⟩ := openB_used ho
  rw [List.length_drop] at u2
  refine ⟨by omega, by simp; omega, ?_⟩
  rw [h3, scanB_ok ho, List.drop_drop]
  simp [Nat.add_assoc]
theorem ScanTo.stop {l : List UInt8} {j : Nat} {ps : List (UInt8 × List UInt8)} (h : ScanTo l j ps) (ho : ¬ (openB (l.drop j)).2.2.2 = 0) : scanB l = (ps, j) := by
  rw [h.2.2, scanB_no ho]; simp
theorem ScanTo.done {l : List UInt8} {ps : List (UInt8 × List UInt8)} (h : ScanTo l l.length ps) : scanB l = (ps, l.length) := by
  rw [h.2.2, List.drop_length, scanB_nil]; simp

/-- Frames, one behind the other. -/
def catB (ps : List (UInt8 × List UInt8)) : List UInt8 := ps.flatMap fun x => sealB x.1 x.2
theorem catB_snoc (ps : List (UInt8 × List UInt8)) (x : UInt8 × List UInt8) : catB (ps ++ [x]) = catB ps ++ sealB x.1 x.2 := by simp [catB]
theorem scan_cat : ∀ (ps : List (UInt8 × List UInt8)) (b : List UInt8), (∀ x ∈ ps, x.2.length ≤ 1048576) → scanB (catB ps ++ b) = (ps ++ (scanB b).1, (catB ps).length + (scanB b).2)
  | [], b, _ => by simp [catB]
  | x :: ps, b, h => by
    have hx := h x (by simp)
    have ih := scan_cat ps b (fun y hy => h y (by simp [hy]))
    have e : catB (x :: ps) ++ b = sealB x.1 x.2 ++ (catB ps ++ b) := by simp [catB]
    have ho := openB_seal x.1 x.2 (catB ps ++ b) hx
    have h0 : (openB (sealB x.1 x.2 ++ (catB ps ++ b))).2.2.2 = 0 := by rw [ho]
    have hd : (sealB x.1 x.2 ++ (catB ps ++ b)).drop (9 + x.2.length) = catB ps ++ b := by
      rw [← sealB_length x.1 x.2, List.drop_left]
    rw [e, scanB_ok h0, ho]
    simp only
    rw [hd, ih]
    have hl : (catB (x :: ps)).length = 9 + x.2.length + (catB ps).length := by
      rw [← sealB_length x.1 x.2]; simp [catB]
    rw [hl]
    simp [Nat.add_assoc]
theorem catB_len : ∀ (ps : List (UInt8 × List UInt8)), (∀ x ∈ ps, x.2.length ≤ 2000) → (catB ps).length ≤ ps.length * 2009
  | [], _ => by simp [catB]
  | x :: ps, h => by
    have hx := h x (by simp)
    have ih := catB_len ps (fun y hy => h y (by simp [hy]))
    have hl : (catB (x :: ps)).length = 9 + x.2.length + (catB ps).length := by
      rw [← sealB_length x.1 x.2]; simp [catB]
    rw [hl, List.length_cons]
    omega

end Go.Proofs.Ytkkaehaoahpibaa
namespace Go.Proofs.Ytkkaehaoahpibaa
open Go.RowKit

abbrev Pc := UInt8 × List UInt8
/-- The slice at A with capacity cap reads as the pieces ps, in memory below block K. -/
structure Pr (w : World) (K : Nat) (A : Option Addr) (cap : Nat) (ps : List Pc) : Prop where
  le : ps.length ≤ cap
  max : cap ≤ maxLen
  nil : A = none → cap = 0
  at_ : 0 < ps.length → ∃ ad : Addr, A = some ad ∧ ad.block < K ∧ ∀ i k p, ps[i]? = some (k, p) → w.cell? (ad.add (i * 2)) = some (bv k) ∧ ∃ A' cap', w.cell? (ad.add (i * 2 + 1)) = some (.slice A' p.length cap') ∧ Bs w K A' cap' p

/-- v is a slice of the call's own (blocks from K on, elements of type T) that holds the pieces ps. -/
def Pz (w : World) (K : Nat) (T : TypeId) (v : Value) (ps : List Pc) : Prop :=
  ∃ xs : List Value, w.ownsRow K T 2 v ps.length xs ∧ ∀ i k p, ps[i]? = some (k, p) → xs[i * 2]? = some (bv k) ∧ ∃ A cap, xs[i * 2 + 1]? = some (.slice A p.length cap) ∧ Bs w w.heap.size A cap p ∧ ∀ ad : Addr, A = some ad → 0 < p.length → K ≤ ad.block ∧ v.ownBlock ≠ some ad.block

section
variable {w w' : World} {K K' cap : Nat} {A : Option Addr} {ps : List Pc}
theorem Pr.keep (h : Pr w K A cap ps) (hk : ∀ p : Addr, p.block < K → w'.cell? p = w.cell? p) : Pr w' K A cap ps :=
  ⟨h.le, h.max, h.nil, fun hn => by
    obtain ⟨ad, e, hb, hc⟩ := h.at_ hn
    refine ⟨ad, e, hb, fun i k p hi => ?_⟩
    obtain ⟨h1, A', c', h2, h3⟩ := hc i k p hi
    exact ⟨(hk _ (by rw [block_of_add]; exact hb)).trans h1, A', c', (hk _ (by rw [block_of_add]; exact hb)).trans h2, h3.keep hk⟩⟩
theorem Pr.below (h : Pr w K A cap ps) (hb : Below K w w') : Pr w' K A cap ps := h.keep fun _ hp => hb.cell hp
theorem Pr.more (h : Pr w K A cap ps) (hK : K ≤ K') : Pr w K' A cap ps :=
  ⟨h.le, h.max, h.nil, fun hn => by
    obtain ⟨ad, e, hb, hc⟩ := h.at_ hn
    refine ⟨ad, e, by omega, fun i k p hi => ?_⟩
    obtain ⟨h1, A', c', h2, h3⟩ := hc i k p hi
    exact ⟨h1, A', c', h2, h3.more hK⟩⟩
theorem Pr.drewN (h : Pr w K A cap ps) (n : Nat) : Pr (w.drewN n) K A cap ps := h.keep fun _ _ => rfl
theorem Pr.get (h : Pr w K A cap ps) {i : Nat} (hi : i < ps.length) : ∃ ad : Addr, A = some ad ∧ ad.block < K ∧ w.cell? (ad.add (i * 2)) = some (bv ps[i].1) ∧ ∃ A' cap', w.cell? (ad.add (i * 2 + 1)) = some (.slice A' ps[i].2.length cap') ∧ Bs w K A' cap' ps[i].2 := by
  obtain ⟨ad, e, hb, hc⟩ := h.at_ (by omega)
  exact ⟨ad, e, hb, hc i ps[i].1 ps[i].2 (List.getElem?_eq_getElem hi)⟩
theorem add_one (q : Addr) : q.add 1 = ⟨q.block, q.off + 1, none⟩ := by unfold Addr.add; rw [if_neg (by decide)]
theorem Pr.get2 (h : Pr w K A cap ps) {i : Nat} (hi : i < ps.length) : ∃ ad : Addr, A = some ad ∧ ad.block < K ∧ w.cell? (ad.add (i * 2)) = some (bv ps[i].1) ∧ ∃ A' cap', w.cell? ⟨(ad.add (i * 2)).block, (ad.add (i * 2)).off + 1, none⟩ = some (.slice A' ps[i].2.length cap') ∧ Bs w K A' cap' ps[i].2 := by
  obtain ⟨ad, e, hb, h1, A', c', h2, h3⟩ := h.get hi
  refine ⟨ad, e, hb, h1, A', c', ?_, h3⟩
  rw [← add_one, add_of_add]
  exact h2
theorem Pr.cut (h : Pr w K A cap ps) {i j : Nat} (hij : i ≤ j) (hj : j ≤ ps.length) : Pr w K (if cap = i then A else A.map (·.add (i * 2))) (cap - i) ((ps.drop i).take (j - i)) := by
  have hle := h.le
  have hmax := h.max
  have hlen : ((ps.drop i).take (j - i)).length = j - i := by simp; omega
  refine ⟨by rw [hlen]; omega, by omega, fun hn => ?_, fun hn => ?_⟩
  · by_cases e : cap = i
    · omega
    · rw [if_neg e] at hn
      have : A = none := by cases A <;> simp_all
      have := h.nil this
      omega
  · rw [hlen] at hn
    obtain ⟨ad, rfl, hb, hc⟩ := h.at_ (by omega)
    rw [if_neg (by omega)]
    refine ⟨_, rfl, by rw [block_of_add]; exact hb, fun q k p hk => ?_⟩
    rw [add_of_add, add_of_add, show i * 2 + q * 2 = (i + q) * 2 by omega, show i * 2 + (q * 2 + 1) = (i + q) * 2 + 1 by omega]
    refine hc (i + q) k p ?_
    rw [List.getElem?_take] at hk
    split at hk
    · rwa [List.getElem?_drop] at hk
    · cases hk

theorem Pr.to (h : Pr w K A cap ps) {j : Nat} (hj : j ≤ ps.length) : Pr w K A cap (ps.take j) := by
  have hle := h.le
  have hlen : (ps.take j).length = j := by simp; omega
  refine ⟨by omega, h.max, h.nil, fun hn => ?_⟩
  obtain ⟨ad, e, hb, hc⟩ := h.at_ (by omega)
  refine ⟨ad, e, hb, fun i k p hi => hc i k p ?_⟩
  rw [List.getElem?_take] at hi
  split at hi
  · exact hi
  · cases hi
theorem Pr.alloc (h : Pr w K A cap ps) (hK : K ≤ w.heap.size) (o : Obj) : Pr (w.alloc o) K A cap ps := h.keep fun _ hp => World.cell?_alloc_lt _ _ _ (by omega)

variable {T : TypeId} {v : Value}
theorem Pz.empty (w : World) (K : Nat) (T : TypeId) : Pz w K T (.slice none 0 0) [] := ⟨[], World.ownsRow_nil w K _ _, fun i k p h => by simp at h⟩
theorem Pz.below (h : Pz w K T v ps) (hb : Below w.heap.size w w') : Pz w' K T v ps := by
  obtain ⟨xs, ho, hx⟩ := h
  refine ⟨xs, World.ownsRow.kept (row := none) ho ⟨hb.os, hb.tape, hb.output, hb.size, fun k hk _ => hb.block k hk⟩ (by cases h' : v.ownBlock <;> simp), fun i k p hi => ?_⟩
  obtain ⟨h1, A, c, h2, h3, h4⟩ := hx i k p hi
  exact ⟨h1, A, c, h2, (h3.below hb).more hb.size, h4⟩
theorem Pz.lt (h : Pz w K T v ps) : ∀ k, v.ownBlock = some k → K ≤ k ∧ k < w.heap.size := by
  obtain ⟨xs, ho, _⟩ := h
  exact World.ownsRow.lt ho
theorem Pz.pr {n : Nat} (h : Pz w K T (.slice A n cap) ps) : Pr w w.heap.size A cap ps ∧ ps.length = n := by
  obtain ⟨xs, ho, hx⟩ := h
  rcases ho.2 with ⟨he, h0⟩ | ⟨g, cap', cur, he, hb, hg, hn, hc, hs, ht⟩
  · injection he with h1 h2 h3
    subst h1 h2 h3
    exact ⟨⟨by omega, Nat.zero_le _, fun _ => rfl, fun h => absurd h (by omega)⟩, h0⟩
  · injection he with h1 h2 h3
    subst h1 h3
    refine ⟨⟨hn, hc, (fun h => by cases h), fun hl => ⟨_, rfl, ?_, fun i k p hi => ?_⟩⟩, h2.symm⟩
    · rcases Nat.lt_or_ge g w.heap.size with hlt | hge
      · exact hlt
      · rw [Array.getElem?_eq_none hge] at hg; cases hg
    · obtain ⟨h1, A, c, h2, h3, _⟩ := hx i k p hi
      exact ⟨ho.cells (g := g) rfl _ _ h1, A, c, ho.cells (g := g) rfl _ _ h2, h3⟩

/-- One piece more, at the law that append obeys. -/
theorem Pz.push {v' : Value} {w1 : World} {k : UInt8} {p : List UInt8} {B : Option Addr} {c : Nat} {xs : List Value} (h : w.ownsRow K T 2 v ps.length xs)
    (hx : ∀ i k p, ps[i]? = some (k, p) → xs[i * 2]? = some (bv k) ∧ ∃ A cap, xs[i * 2 + 1]? = some (.slice A p.length cap) ∧ Bs w w.heap.size A cap p ∧ ∀ ad : Addr, A = some ad → 0 < p.length → K ≤ ad.block ∧ v.ownBlock ≠ some ad.block)
    (hb : Bs w w.heap.size B c p) (hne : ∀ ad : Addr, B = some ad → 0 < p.length → K ≤ ad.block ∧ v.ownBlock ≠ some ad.block)
    (hown : w1.ownsRow K T 2 v' (ps.length + 1) (xs ++ [bv k, .slice B p.length c])) (hgrow : w.grownBy w1 v.ownBlock) (hat : ∀ g, v'.ownBlock = some g → v.ownBlock = some g ∨ w.heap.size ≤ g) : Pz w1 K T v' (ps ++ [(k, p)]) := by
  have hxl : xs.length = ps.length * 2 := h.1
  have far : ∀ {A : Option Addr} {cap : Nat} {q : List UInt8}, Bs w w.heap.size A cap q → (∀ ad : Addr, A = some ad → 0 < q.length → K ≤ ad.block ∧ v.ownBlock ≠ some ad.block) → (Bs w1 w1.heap.size A cap q ∧ ∀ ad : Addr, A = some ad → 0 < q.length → K ≤ ad.block ∧ v'.ownBlock ≠ some ad.block) := fun {A cap q} hq hn => by
    refine ⟨⟨hq.le, hq.max, hq.nil, fun hl => ?_⟩, fun ad e hl => ⟨(hn ad e hl).1, fun he => ?_⟩⟩
    · obtain ⟨ad, e, hlt, hc⟩ := hq.at_ hl
      exact ⟨ad, e, Nat.lt_of_lt_of_le hlt hgrow.size, fun j u hu => (hgrow.cell_far _ (by rw [block_of_add]; exact hlt) (by rw [block_of_add]; exact fun e' => (hn ad e hl).2 e'.symm)).trans (hc j u hu)⟩
    · obtain ⟨ad', e', hlt, _⟩ := hq.at_ hl
      rw [e] at e'
      cases e'
      rcases hat _ he with h' | h'
      · exact (hn ad e hl).2 h'
      · omega
  refine ⟨xs ++ [bv k, .slice B p.length c], by rw [List.length_append]; exact hown, fun i k' p' hi => ?_⟩
  rcases Nat.lt_or_ge i ps.length with hlt | hge
  · rw [List.getElem?_append_left hlt] at hi
    obtain ⟨h1, A, cp, h2, h3, h4⟩ := hx i k' p' hi
    obtain ⟨f1, f2⟩ := far h3 h4
    rw [List.getElem?_append_left (by omega), List.getElem?_append_left (by omega)]
    exact ⟨h1, A, cp, h2, f1, f2⟩
  · have hil : i = ps.length := by
      have := (List.getElem?_eq_some_iff.1 hi).1
      simp at this; omega
    subst hil
    simp at hi
    obtain ⟨rfl, rfl⟩ := hi
    obtain ⟨f1, f2⟩ := far hb hne
    rw [List.getElem?_append_right (by omega), List.getElem?_append_right (by omega), hxl]
    refine ⟨by simp, B, c, ?_, f1, f2⟩
    rw [show ps.length * 2 + 1 - ps.length * 2 = 1 by omega]
    rfl
end

section
variable {P : Program}
theorem wpList_pushP {T ST : TypeId} (hund : P.underlying ST = some (.slice T)) {z : Value} (hinfo : (P.info? T).map (fun i => (i.zero, i.size, i.bytes)) = some (some z, 2, 32)) (hz : z.cells.size = 2)
    {ops : Array Oper} {rest : List Oper} {o : Oper} {a : Act} {Q : Exit → Act → World → Prop} (w : World) (hgd : o.guard = none) (s x : Operand)
    (ho : o.op = .call { callee := .builtin .append, args := #[s, x], argTypes := #[ST, ST] }) (K : Nat) (v : Value) (ps : List Pc) (hs : a.eval s = v) (hown : Pz w K T v ps)
    (k : UInt8) (p : List UInt8) (B : Option Addr) (c H : Nat) (hH : w.heap.size = H) (hxx : a.eval x = .slice (some ⟨H, 0, none⟩) 1 1) (hb : Bs w w.heap.size B c p) (hne : ∀ ad : Addr, B = some ad → 0 < p.length → K ≤ ad.block ∧ v.ownBlock ≠ some ad.block)
    (N : Nat) (hN : ps.length + 1 = N) (hsz : N * 32 ≤ 140737488355328) (hK : K ≤ H)
    (h : ∀ A' cap' w', Pz w' K T (.slice A' N cap') (ps ++ [(k, p)]) → w.grownBy w' v.ownBlock → wpList P ops Q rest (a.put o.dst (.slice A' N cap')) w') :
    wpList P ops Q (o :: rest) a (w.alloc (.cells #[bv k, .slice B p.length c] T)) := by
  subst hH hN
  obtain ⟨xs, hx1, hx2⟩ := hown
  obtain ⟨i0, hi, hz0, hz1, hz2⟩ := info_parts hinfo
  refine wpList_append_lies _ hgd s x ST ho K T i0 z 2 32 hund hi hz0 hz1 hz2 hz (by decide) v ps.length xs hs (World.ownsRow.alloc hx1 _) ⟨w.heap.size, 0, none⟩ 1 1 [bv k, .slice B p.length c] hxx rfl
    (World.news_of_block (heap_alloc_new w _)) (by intro u hu; simp at hu; rcases hu with rfl | rfl <;> rfl) (by omega) (by unfold maxLen; omega) hsz (by simp; omega) _ rfl ?_
  intro g cap w1 hown1 hgrow1 hat1 hlt1
  have hg : w.grownBy w1 v.ownBlock := ⟨hgrow1.os, hgrow1.tape, hgrow1.output, Nat.le_trans (by simp) hgrow1.size, fun i hi hne => (hgrow1.block i (by simp; omega) hne).trans (Below.heap_alloc w _ i hi)⟩
  refine h _ _ w1 (Pz.push hx1 hx2 hb hne hown1 hg (fun g' hg' => ?_)) hg
  have : g' = g := by simpa [Value.ownBlock] using hg'.symm
  subst this
  rcases hat1 with h1 | h1
  · exact .inl h1
  · right; rw [h1]; simp
end
end Go.Proofs.Ytkkaehaoahpibaa
namespace Go.Proofs.Ytkkaehaoahpibaa
open Go.RowKit

theorem info_rpc : (Try.prog.info? 106).map (fun i => (i.zero, i.size, i.bytes)) = some (some (.agg #[.int .u8 0, .slice none 0 0]), 2, 32) := by kernel_rfl
def ScanPost (T : TypeId) (w : World) (l : List UInt8) (e : Ending) (w' : World) : Prop :=
  ∃ A' cap', e = .returned (.tuple #[.slice A' (scanB l).1.length cap', .int .i64 ((scanB l).2 : Nat)]) ∧ Pz w' w.heap.size T (.slice A' (scanB l).1.length cap') (scanB l).1 ∧ Below w.heap.size w w'

set_option maxRecDepth 100000 in
set_option maxHeartbeats 1600000 in
theorem refScan_any (K : Nat) (A : Option Addr) (cap : Nat) (l : List UInt8) (w : World) (hb : Bs w K A cap l) (hK : K ≤ w.heap.size) (hl : l.length ≤ 1099511627776) :
    Calls Try.prog 54 #[.slice A l.length cap] w (ScanPost 106 w l) := by
  have hle := hb.le
  have hmax := hb.max
  unfold maxLen at hmax
  go_enter Try.func54, Try.ntmps54
  go_wp2
  go_loopw [4, 5] (fun v i wr => ∃ (j n c : Nat) (B : Option Addr) (ps : List Pc), i = .int .i64 j ∧ v = .slice B n c ∧ ps.length = n ∧ ScanTo l j ps ∧ Pz wr w.heap.size 106 (.slice B n c) ps ∧ Below w.heap.size w wr) (fun _ i _ => l.length - (intOf i).toNat)
  case atStart => exact ⟨0, 0, 0, none, [], rfl, rfl, rfl, ScanTo.zero l, Pz.empty _ _ _, Below.refl _ _⟩
  case round =>
    obtain ⟨j, n, c, B, ps, rfl, rfl, hn, hto, hps, hbl⟩ := hrel
    have hsl := slice_from A l.length cap j hto.1
    have hbr : Bs wr K _ _ _ := (hb.below (hbl.mono hK)).cut (i := j) (j := l.length) hto.1 (Nat.le_refl _)
    have hd : (l.drop j).take (l.length - j) = l.drop j := List.take_of_length_le (by simp)
    rw [hd] at hbr
    have hdl : (l.drop j).length = l.length - j := List.length_drop
    generalize (if cap = j then A else A.map (·.add j)) = AJ at *
    have z := hbl.size
    have hco := refOpen_any K (cap - j) (l.drop j) wr AJ hbr (by omega)
    rw [hdl] at hco
    have HCO := Lib.hid hco
    have HDL := Lib.hid hdl
    have HN := Lib.hid hn
    have hj := hto.1
    clear hco hdl hd hbr hn
    by_cases hlt : j < l.length
    rotate_left
    · have hj2 : j = l.length := by omega
      have hdone : scanB l = (ps, j) := by
        subst hj2; exact hto.done
      have HST := Lib.hid hdone
      clear hdone HCO hto hsl
      go_wp2
      (try rw [Exit.noGoto_ret])
      go_ret2
      refine ⟨B, c, ?_, ?_, hbl⟩
      · rw [HST.out, HN.out]; rfl
      · rw [HST.out, HN.out]; exact hps
    go_wp2_with fail
    refine HCO.out.mono ?_
    rintro e w1 ⟨A1, c1, rfl, hown1, hb1⟩
    have B1 : Below w.heap.size w w1 := hbl.trans (hb1.mono z)
    have z1 := B1.size
    have hn9 : n * 9 ≤ j := by rw [← HN.out]; exact hto.2.1
    have hps1 := hps.below hb1
    have hne : ∀ ad : Addr, A1 = some ad → 0 < (openB (l.drop j)).2.1.length → w.heap.size ≤ ad.block ∧ (Value.slice B n c).ownBlock ≠ some ad.block := fun ad e _ => by
      have h2 := (hown1.lt ad.block (by rw [e]; rfl)).1
      exact ⟨by omega, fun he => by have h1 := (hps.lt _ he).2; omega⟩
    by_cases ho : (openB (l.drop j)).2.2.2 = 0
    · have hnx := hto.next ho
      have hu := openB_used ho
      have hj2 := hnx.1
      have HNX := Lib.hid hnx
      clear hnx HCO hb1 hps hto hsl
      generalize openB (l.drop j) = o at *
      obtain ⟨k, p, u, er⟩ := o
      simp only at ho hu hj2 hown1 hne
      subst ho
      have hu1 := hu.1
      have HNE := Lib.hid hne
      clear hu hne
      go_wp2_with (at_builtin; refine wpList_pushP Try.underlying102 info_rpc rfl _ rfl (.tmp 25) (.tmp 29) rfl w.heap.size (.slice B n c) ps rfl hps1 k p A1 c1 w1.heap.size rfl rfl hown1.bs.1 HNE.out (n + 1) (by rw [HN.out]) (by omega) z1 ?_; intro A2 cap2 w2 hps2 hgrow2; have B2 : Below w.heap.size w w2 := grown_below B1 hgrow2 z1 (fun _ h => (hps1.lt _ h).1))
      go_roundw
      case rel => exact ⟨j + u, n + 1, cap2, A2, ps ++ [(k, p)], by go_num, rfl, by rw [List.length_append, HN.out]; rfl, HNX.out, hps2, B2⟩
      case measure => simp [intOf]; omega
    · have hst := hto.stop ho
      have HST := Lib.hid hst
      clear hst HCO hb1 hps hto hsl hne hown1
      generalize openB (l.drop j) = o at *
      obtain ⟨k, p, u, er⟩ := o
      simp only at ho
      have he : ((er : Int) != 0) = true := by rw [bne_iff_ne]; omega
      clear ho
      go_wp2
      (try rw [Exit.noGoto_ret])
      go_ret2
      refine ⟨B, c, ?_, ?_, B1⟩
      · rw [HST.out, HN.out]; rfl
      · rw [HST.out, HN.out]; exact hps1
end Go.Proofs.Ytkkaehaoahpibaa
