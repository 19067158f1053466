/- The document's Right, New, SameList, Same; the law's From. -/
import Derived.Test.YtpnhdocimjkakaaPn17
import Derived.Deep.QuietTactic
import Derived.BigQuiet
import Derived.RegionTactic
namespace Go.Proofs.Ytpnhdocimjkakaa
open Go.RowKit Go.BigFrame

theorem below_dN {B : Nat} {a w : World} (h : Below B a w) (n : Nat) : Below B a (w.drewN n) := ⟨h.os, h.tape, h.output, h.size, h.block⟩
theorem sr_dN {k K cap : Nat} {α : Type} {enc : α → List Value} {A : Option Addr} {l : List α} {w : World} (h : Sr enc k w K A cap l) (n : Nat) : Sr enc k (w.drewN n) K A cap l := h.drewN n
/-- A view's box, and its members, behind what only drew or made memory. -/
structure Rb (w wr : World) (b : Nat) (e p : Int) (A : Option Addr) (cap : Nat) (l : List Int) : Prop where
  x0 : wr.cell? ⟨b, 0, none⟩ = some (.int .i64 e)
  x1 : wr.cell? ⟨b, 1, none⟩ = some (.int .i64 p)
  x2 : wr.cell? ⟨b, 2, none⟩ = some (.slice A l.length cap)
  sr : Sr encI 1 wr w.heap.size A cap l
  bl : Below w.heap.size w wr
theorem Rb.dN {w wr : World} {b : Nat} {e p : Int} {A : Option Addr} {cap : Nat} {l : List Int} (h : Rb w wr b e p A cap l) (n : Nat) : Rb w (wr.drewN n) b e p A cap l := ⟨h.x0, h.x1, h.x2, h.sr.drewN n, below_dN h.bl n⟩
set_option maxRecDepth 100000 in
set_option maxHeartbeats 3200000 in
theorem rright_any (e p : Int) (K : Nat) (A : Option Addr) (n cap : Nat) (l : List Int) (w : World) (hn : l.length = n) (hp : Sr encI 1 w K A cap l) (hK : K ≤ w.heap.size) :
    Calls Try.prog 98 #[.agg #[.int .i64 e, .int .i64 p, .slice A n cap]] w fun r w' => r = .returned (.bool (rightV e p l)) ∧ Below w.heap.size w w' := by
  subst hn
  have hle := hp.le
  have hmax := hp.max
  unfold maxLen at hmax
  have HB0 : Hid (Rb w (w.alloc (.cells #[.int .i64 e, .int .i64 p, .slice A l.length cap] 31)) w.heap.size e p A cap l) := Lib.hid ⟨by simp [go_sem], by simp [go_sem], by simp [go_sem], (hp.more hK).alloc (Nat.le_refl _) _, (Below.refl _ _).alloc (Nat.le_refl _) _⟩
  clear hp hK
  go_enter Try.func98, Try.ntmps98
  go_wp2_with fail
  go_loopw [3] (fun iv wr => ∃ k : Nat, k ≤ l.length ∧ iv = .int .i64 (k : Int) ∧ Hid (riseB (-1) (l.take k) = true) ∧ Rb w wr w.heap.size e p A cap l) (fun iv _ => l.length - (intOf iv).toNat)
  case atStart => exact ⟨0, Nat.zero_le _, rfl, Lib.hid rfl, HB0.out⟩
  case round =>
    obtain ⟨k, hk, rfl, HR, hb⟩ := hrel
    rename World => W0
    have x0 := hb.x0
    have x1 := hb.x1
    have x2 := hb.x2
    have hz := World.block_lt_of_cell? W0 _ x0
    replace hz : w.heap.size < W0.heap.size := hz
    have HB := Lib.hid hb
    clear hb
    have hk0 : (0 : Int) ≤ (k : Int) := by omega
    by_cases hlt : k < l.length
    · obtain ⟨ad, rfl, hadK, hc⟩ := HB.out.sr.int hlt
      have hlI : (k : Int) < (l.length : Int) := by omega
      have HS := Lib.hid (take_snocI l k hlt)
      have hprev : 0 < k → W0.cell? (ad.add (k - 1)) = some (.int .i64 (l.getD (k - 1) 0)) := by
        intro h0
        obtain ⟨ad', e', _, h3⟩ := HB.out.sr.int (show k - 1 < l.length by omega)
        cases e'
        rw [h3, List.getD_eq_getElem?_getD, List.getElem?_eq_getElem (by omega)]; rfl
      have HPV : Hid ((l.take k).getLastD (-1) = if k = 0 then -1 else l.getD (k - 1) 0) := Lib.hid (by
        by_cases h0 : k = 0
        · subst h0; rfl
        · rw [if_neg h0, List.getLastD_eq_getLast?, List.getLast?_eq_getElem?, List.length_take, Nat.min_eq_left hk, List.getElem?_take, if_pos (by omega), List.getD_eq_getElem?_getD, List.getElem?_eq_getElem (by omega)]; rfl)
      have HF : Hid (∀ m, riseB (-1) (l.take m) = false → rightV e p l = false) := Lib.hid (fun m h => by
        have : riseB (-1) l = false := by
          cases hr : riseB (-1) l with
          | false => rfl
          | true => rw [riseB_take hr m] at h; cases h
        unfold rightV memsB; rw [this]; simp)
      have HX : Hid (riseB (-1) (l.take (k + 1)) = (decide ((if k = 0 then -1 else l.getD (k - 1) 0) < l[k]) && decide (l[k] < 8))) := Lib.hid (by rw [HS.out, riseB_snoc, HR.out, HPV.out]; simp)
      have HALL : Hid (0 < k → 0 ≤ l.getD (k - 1) 0) := Lib.hid (fun h0 => by
        have h1 := riseB_all HR.out (l.getD (k - 1) 0) (by
          rw [List.getD_eq_getElem?_getD, List.getElem?_eq_getElem (by omega)]
          exact List.mem_take_iff_getElem.2 ⟨k - 1, by omega, rfl⟩)
        omega)
      generalize l[k] = x at *
      generalize l.getD (k - 1) 0 = y at *
      by_cases c1 : x < 0
      · have HZ : Hid (rightV e p l = false) := Lib.hid (HF.out (k + 1) (by
          rw [HX.out]
          by_cases h0 : k = 0
          · rw [if_pos h0]; simp; omega
          · rw [if_neg h0]; have := HALL.out (by omega); simp; omega))
        have d1 : decide (x < 0) = true := by simpa using c1
        clear c1 hprev
        go_wp2_with fail
        go_big_quiet (fail)
        go_wp2
        go_ret
        exact ⟨ret_bool HZ.out.symm, below_dN HB.out.bl _⟩
      have d1 : decide (x < 0) = false := by simpa using c1
      by_cases c2 : 8 ≤ x
      · have HZ : Hid (rightV e p l = false) := Lib.hid (HF.out (k + 1) (by rw [HX.out]; simp; omega))
        have d2 : decide (8 ≤ x) = true := by simpa using c2
        clear c1 c2 hprev
        go_wp2_with fail
        go_big_quiet (fail)
        go_wp2
        go_ret
        exact ⟨ret_bool HZ.out.symm, below_dN HB.out.bl _⟩
      have d2 : decide (8 ≤ x) = false := by simpa using c2
      by_cases h0 : k = 0
      · have HN : Hid (riseB (-1) (l.take (k + 1)) = true) := Lib.hid (by rw [HX.out, if_pos h0]; simp; omega)
        have hg0 : decide (0 < k) = false := by simp; omega
        have hg1 : decide ((0 : Int) < (k : Int)) = false := by simp; omega
        have HK0 := Lib.hid h0
        clear h0 c1 c2 hprev
        go_wp2_with fail
        go_big_quiet (fail)
        go_wp2
        go_roundw
        case rel => exact ⟨k + 1, by omega, by go_num, HN, HB.out.dN _⟩
        case measure => simp [intOf]; omega
      · have hg0 : decide (0 < k) = true := by simp; omega
        have hg1 : decide ((0 : Int) < (k : Int)) = true := by simp; omega
        have h3 := hprev (by omega)
        have i0 : (0 : Int) ≤ (k : Int) - 1 := by omega
        have i1 : (k : Int) - 1 < l.length := by omega
        have iw : IntKind.i64.wrap ((k : Int) - 1) = (k : Int) - 1 := IntWalk.i64_in _ (by omega)
        have it : ((k : Int) - 1).toNat = k - 1 := by omega
        by_cases c3 : x ≤ y
        · have HZ : Hid (rightV e p l = false) := Lib.hid (HF.out (k + 1) (by rw [HX.out, if_neg h0]; simp; omega))
          have d3 : decide (x ≤ y) = true := by simpa using c3
          clear c1 c2 c3 hprev
          go_wp2_with fail
          go_big_quiet (fail)
          clear iw it
          go_wp2
          go_ret
          exact ⟨ret_bool HZ.out.symm, below_dN HB.out.bl _⟩
        · have HN : Hid (riseB (-1) (l.take (k + 1)) = true) := Lib.hid (by rw [HX.out, if_neg h0]; simp; omega)
          have d3 : decide (x ≤ y) = false := by simpa using c3
          clear c1 c2 c3 hprev
          go_wp2_with fail
          go_big_quiet (fail)
          clear iw it
          go_wp2
          go_roundw
          case rel => exact ⟨k + 1, by omega, by go_num, HN, HB.out.dN _⟩
          case measure => simp [intOf]; omega
    · have hkl : k = l.length := by omega
      have HM : Hid (memsB l = decide (0 < l.length)) := Lib.hid (by
        have := HR.out
        rw [hkl, List.take_length] at this
        unfold memsB; rw [this]; rfl)
      have HQ : ∀ (b1 b2 b3 : Bool), decide (1 ≤ e) = b1 → decide (e ≤ 4611686018427387904) = b2 → hasB l p = b3 → Hid (rightV e p l = (b1 && b2 && b3)) := by
        rintro b1 b2 b3 rfl rfl rfl
        refine Lib.hid ?_
        unfold rightV
        rw [HM.out]
        cases l with
        | nil => simp [hasB]
        | cons m l => simp
      have HH := Lib.hid (rhas_any w.heap.size A l.length cap l p W0 rfl HB.out.sr)
      have HKL := Lib.hid hkl
      clear hkl
      cases h1 : decide (1 ≤ e) with
      | false =>
        have HZ := Lib.hid (HQ _ _ _ h1 rfl rfl).out
        clear HQ
        go_wp2_with fail
        go_ret
        exact ⟨ret_bool (by rw [HZ.out]; rfl), HB.out.bl⟩
      | true =>
        cases h2 : decide (e ≤ 4611686018427387904) with
        | false =>
          have HZ := Lib.hid (HQ _ _ _ h1 h2 rfl).out
          clear HQ
          go_wp2_with fail
          go_ret
          exact ⟨ret_bool (by rw [HZ.out]; rfl), HB.out.bl⟩
        | true =>
          have HZ := Lib.hid (HQ _ _ _ h1 h2 rfl).out
          clear HQ
          go_wp2_with (go_at_call 30; refine HH.out.mono ?_; rintro r w9 ⟨rfl, rfl⟩)
          go_ret
          exact ⟨ret_bool (by rw [HZ.out]; rfl), HB.out.bl⟩
set_option maxRecDepth 100000 in
set_option maxHeartbeats 1600000 in
theorem samelist_any {K K' : Nat} {A B : Option Addr} {n cap cap' : Nat} {l : List Int} {w : World} (hn : l.length = n) (hp : Sr encI 1 w K A cap l) (hq : Sr encI 1 w K' B cap' l) :
    Calls Try.prog 103 #[.slice A n cap, .slice B n cap'] w fun r w' => r = .returned (.bool true) ∧ Below w.heap.size w w' := by
  subst hn
  have hle := hp.le
  have hmax := hp.max
  unfold maxLen at hmax
  have hle2 := hq.le
  have hmax2 := hq.max
  unfold maxLen at hmax2
  have HP := Lib.hid hp
  have HQ := Lib.hid hq
  clear hp hq
  go_enter Try.func103, Try.ntmps103
  go_wp2_with fail
  go_loopw [5] (fun iv wr => ∃ k : Nat, k ≤ l.length ∧ iv = .int .i64 (k : Int) ∧ Below w.heap.size w wr ∧ Sr encI 1 wr K A cap l ∧ Sr encI 1 wr K' B cap' l) (fun iv _ => l.length - (intOf iv).toNat)
  case atStart => exact ⟨0, Nat.zero_le _, rfl, Below.refl _ _, HP.out, HQ.out⟩
  case round =>
    obtain ⟨k, hk, rfl, hb, hp, hq⟩ := hrel
    rename World => W0
    have HB := Lib.hid hb
    have HP' := Lib.hid hp
    have HQ' := Lib.hid hq
    clear hb hp hq
    by_cases hlt : k < l.length
    · obtain ⟨ad, rfl, _, hc⟩ := HP'.out.int hlt
      obtain ⟨ad', rfl, _, hc'⟩ := HQ'.out.int hlt
      have hlI : (k : Int) < (l.length : Int) := by omega
      have hk0 : (0 : Int) ≤ (k : Int) := by omega
      generalize l[k] = x at *
      have dx : (x != x) = false := by simp
      go_wp2_with fail
      go_quiet (fail)
      go_wp2
      go_roundw
      case rel => exact ⟨k + 1, by omega, by go_num, below_dN HB.out _, HP'.out.drewN _, HQ'.out.drewN _⟩
      case measure => simp [intOf]; omega
    · obtain rfl : k = l.length := by omega
      go_wp2
      go_ret
      exact ⟨rfl, HB.out⟩
set_option maxHeartbeats 1600000 in
theorem same_any (e p : Int) {K K' : Nat} {A B : Option Addr} {cap cap' : Nat} {l : List Int} {w : World} (hp : Sr encI 1 w K A cap l) (hq : Sr encI 1 w K' B cap' l) (hK : K ≤ w.heap.size) (hK' : K' ≤ w.heap.size) :
    Calls Try.prog 47 #[.agg #[.int .i64 e, .int .i64 p, .slice A l.length cap], .agg #[.int .i64 e, .int .i64 p, .slice B l.length cap']] w fun r w' => r = .returned (.bool true) ∧ Below w.heap.size w w' := by
  have HS := Lib.hid (fun W (h : Sr encI 1 W K A cap l) (h' : Sr encI 1 W K' B cap' l) => samelist_any rfl h h')
  have HP := Lib.hid hp
  have HQ := Lib.hid hq
  clear hp hq
  have de : (e == e) = true := by simp
  have dp : (p == p) = true := by simp
  go_enter Try.func47, Try.ntmps47
  go_wp2_with fail
  go_at_call 103
  refine (HS.out _ (HP.out.below (((Below.refl _ _).alloc hK _).alloc (by simp; omega) _)) (HQ.out.below (((Below.refl _ _).alloc hK' _).alloc (by simp; omega) _))).mono ?_
  rintro r w1 ⟨rfl, b1⟩
  have HB : Hid (Below w.heap.size w w1) := Lib.hid ((show Below w.heap.size w _ by go_grown).trans (b1.mono (by simp; omega)))
  clear b1
  go_wp2_with fail
  go_ret
  exact ⟨rfl, HB.out⟩
set_option maxHeartbeats 800000 in
theorem from_any (e p : Int) (A : Option Addr) (n cap : Nat) (w : World) :
    Calls Try.prog 48 #[.agg #[.int .i64 e, .int .i64 p, .slice A n cap]] w fun r w' => r = .returned (.agg #[.int .i64 e, .int .i64 p, .slice A n cap]) ∧ Below w.heap.size w w' := by
  go_enter Try.func48, Try.ntmps48
  go_wp2_with fail
  exact bodyPost_ret (v := .agg #[.int .i64 e, .int .i64 p, .slice A n cap]) (by simp [results, Try.results48, go_sem]) rfl ⟨rfl, by go_grown⟩
def RNewP (A : Option Addr) (n cap : Nat) (l : List Int) (w : World) (r : Ending) (w' : World) : Prop :=
  r = .returned (if memsB l = true then .tuple #[.agg #[.int .i64 1, .int .i64 (l.headD 0), .slice A n cap, .slice A n cap], .int .i64 0] else .tuple #[.agg #[.int .i64 0, .int .i64 0, .slice none 0 0, .slice none 0 0], .int .i64 1]) ∧ Below w.heap.size w w'
end Go.Proofs.Ytpnhdocimjkakaa
