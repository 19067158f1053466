/- TallyCovers: its walk. -/
import Derived.Test.YtckbpajphfbaoaaTyR
import Derived.BigQuiet
import Derived.Deep.CutBlock
namespace Go.Proofs.Ytckbpajphfbaoaa
open Go.RowKit Go.BigFrame

theorem cnt_next {a b : Int} {l : List Smp} {k : Nat} (h : k < l.length) : (cntB a b (l.take (k + 1)) : Nat) = cntB a b (l.take k) + (if a ≤ l[k].1 ∧ l[k].1 < b then 1 else 0) := by
  rw [List.take_succ_eq_append_getElem h, cnt_app]
  congr 1
  unfold cntB
  by_cases h1 : a ≤ l[k].1 <;> by_cases h2 : l[k].1 < b <;> simp [h1, h2]
theorem sumI_next {l : List Smp} {k : Nat} (h : k < l.length) : sumI (l.take (k + 1)) = sumI (l.take k) + l[k].2 := by
  rw [List.take_succ_eq_append_getElem h, sumI_app]
  simp [sumI]
theorem sumI_pos {l : List Smp} (h : ∀ x ∈ l, 1 ≤ x.2) : 0 ≤ sumI l := by
  induction l with
  | nil => simp [sumI]
  | cons x l ih =>
    have := h x (by simp)
    have := ih fun y hy => h y (by simp [hy])
    simp only [sumI]
    omega
theorem sumI_split {l : List Smp} (k : Nat) : sumI l = sumI (l.take k) + sumI (l.drop k) := by rw [← sumI_app, List.take_append_drop]
set_option maxRecDepth 100000 in
set_option maxHeartbeats 3200000 in
theorem tycovers_any (A0 : Option Addr) (cap0 : Nat) (l : List Smp) (a b st : Int) (w : World) (h0 : Sr encS 2 w w.heap.size A0 cap0 l) (ho : ∀ u ∈ l, Sok u) (hl : l.length * 16 ≤ 140737488355328)
    (_ha : -9223372036854775808 ≤ a ∧ a ≤ 9223372036854775807) (_hb : -9223372036854775808 ≤ b ∧ b ≤ 9223372036854775807) (hst : -9223372036854775808 ≤ st ∧ st ≤ 9223372036854775807) :
    Calls Try.prog 7 #[.slice A0 l.length cap0, .int .i64 a, .int .i64 b, .int .i64 st] w (Ok0 w) := by
  have HRi := Lib.hid (rising_any w.heap.size A0 l.length cap0 l w rfl h0 (Nat.le_refl _))
  have HTo := Lib.hid (fun W (h : Below w.heap.size w W) => to_any w.heap.size A0 l.length cap0 l W rfl (h0.below h) h.size hl)
  have HO := Lib.hid ho
  have H0 := Lib.hid h0
  have hle0 := h0.le
  have hmax0 := h0.max
  unfold maxLen at hmax0
  clear h0 ho
  cases hr : risD l with
  | false =>
    rw [hr] at HRi
    go_enter Try.func7, Try.ntmps7
    go_wp2_with (first
      | (go_at_call 13; refine HRi.out.mono ?_; rintro e w1 ⟨rfl, hb1⟩)
      | (go_at_call 12; refine (awake_any _).mono ?_; rintro e w2 ⟨rfl, hb2⟩))
    go_ret
    exact ⟨rfl, hb1.trans (hb2.mono hb1.size)⟩
  | true =>
    rw [hr] at HRi
    by_cases hbig : 300 < l.length
    · have i1 : (300 : Int) < l.length := by omega
      go_enter Try.func7, Try.ntmps7
      go_wp2_with (first
        | (go_at_call 13; refine HRi.out.mono ?_; rintro e w1 ⟨rfl, hb1⟩)
        | (go_at_call 12; refine (awake_any _).mono ?_; rintro e w2 ⟨rfl, hb2⟩))
      go_ret
      exact ⟨rfl, hb1.trans (hb2.mono hb1.size)⟩
    have i1 : ¬ (300 : Int) < l.length := by omega
    have HSrt := Lib.hid (srt_of (of_risD hr))
    have HWi := Lib.hid (fun (A : Option Addr) (cap : Nat) W (h : Sr encS 2 W W.heap.size A cap l) => windows_any 2 W.heap.size A l.length cap l a b st W rfl h (Nat.le_refl _) HO.out hst.2)
    have HCv := Lib.hid (windows_cov (a := a) (b := b) (st := st) HSrt.out (by omega))
    have HEr := Lib.hid (windows_err (l := l) (op := 2) (a := a) (b := b) (st := st))
    generalize windowsB 2 l a b st = R at *
    obtain ⟨er, c⟩ := R
    simp only at HCv HEr
    clear hr
    go_enter Try.func7, Try.ntmps7
    go_wp2_with fail
    refine HRi.out.mono ?_
    rintro e w1 ⟨rfl, b1⟩
    have HB1 := Lib.hid b1
    clear b1 HRi
    go_wp2_with fail
    refine (HTo.out _ HB1.out).mono ?_
    rintro e w2 ⟨A, cap, rfl, so2, b2⟩
    have HS2 := Lib.hid (so2.sr encS_len).1
    have HB2 := Lib.hid (HB1.out.trans (b2.mono HB1.out.size))
    clear b2 so2 HB1 HTo
    go_wp2_with fail
    refine (HWi.out A cap _ HS2.out).mono ?_
    rintro e w3 ⟨B, cb, rfl, so3, b3⟩
    have HS3 := Lib.hid (so3.sr encS_len).1
    have HB3 := Lib.hid (HB2.out.trans (b3.mono HB2.out.size))
    clear b3 so3 HB2 HWi HS2
    simp only
    go_wp2_with fail
    refine (awake_any _).mono ?_
    rintro e w4 ⟨rfl, b4⟩
    have HS4 := Lib.hid ((HS3.out.below b4).more b4.size)
    have HB4 := Lib.hid (HB3.out.trans (b4.mono HB3.out.size))
    clear b4 HS3 HB3
    by_cases her : er = 0
    rotate_left
    · have i2 : (er != 0) = true := bne_iff_ne.2 her
      have hc : c = [] := HEr.out her
      subst hc
      clear her hl i1 hbig
      go_wp2_with fail
      refine (awake_any _).mono ?_
      rintro e w5 ⟨rfl, b5⟩
      go_wp2_with fail
      go_ret
      exact ⟨rfl, HB4.out.trans (b5.mono HB4.out.size)⟩
    subst her
    obtain ⟨hcv, hsum, hs1, ha0, hab, hb1⟩ := HCv.out rfl
    have HC := Lib.hid hcv
    have HSum := Lib.hid hsum
    have hcnt := List.length_filter_le (fun s : Smp => decide (a ≤ s.1) && decide (s.1 < b)) l
    change cntB a b l ≤ l.length at hcnt
    have hcle := HS4.out.le
    have hcmax := HS4.out.max
    unfold maxLen at hcmax
    clear hcv hsum HCv HEr HSrt
    have H04 := Lib.hid (H0.out.below HB4.out)
    clear H0
    go_wp2_with fail
    go_loopw [11, 48] (fun nv i wr => ∃ (k m : Nat), k ≤ l.length ∧ i = .int .i64 k ∧ nv = .int .i64 m ∧ Hid (m = cntB a b (l.take k)) ∧ m ≤ k ∧ Below w4.heap.size w4 wr) (fun _ i _ => l.length - (intOf i).toNat)
    case atStart => exact ⟨0, 0, Nat.zero_le _, rfl, rfl, Lib.hid rfl, Nat.le_refl _, Below.refl _ _⟩
    case round =>
      obtain ⟨k, m, hk, rfl, rfl, HM, hmk, hbl⟩ := hrel
      rename World => wr
      have z := hbl.size
      have hz4 := HB4.out.size
      by_cases hlt : k < l.length
      · obtain ⟨ad, rfl, hadK, c0, c1⟩ := s_cells (H04.out.below (hbl.mono hz4)) hlt
        have HN := Lib.hid (cnt_next (a := a) (b := b) hlt)
        generalize l[k] = x at *
        obtain ⟨x0, x1⟩ := x
        simp only at c0 c1 HN
        by_cases g1 : a ≤ x0
        · by_cases g2 : x0 < b
          · have HN2 : Hid (m + 1 = cntB a b (l.take (k + 1))) := Lib.hid (by rw [HN.out, if_pos ⟨g1, g2⟩, HM.out])
            clear HN
            go_wp2_with fail
            go_roundw
            case rel => exact ⟨k + 1, m + 1, by omega, by go_num, by go_num, Lib.hid HN2.out, by omega, by go_grown⟩
            case measure => simp [intOf]; omega
          · have HN2 : Hid (m = cntB a b (l.take (k + 1))) := Lib.hid (by rw [HN.out, if_neg (fun h => g2 h.2), HM.out]; rfl)
            clear HN
            go_wp2_with fail
            go_roundw
            case rel => exact ⟨k + 1, m, by omega, by go_num, by go_num, Lib.hid HN2.out, by omega, by go_grown⟩
            case measure => simp [intOf]; omega
        · have HN2 : Hid (m = cntB a b (l.take (k + 1))) := Lib.hid (by rw [HN.out, if_neg (fun h => g1 h.1), HM.out]; rfl)
          clear HN
          go_wp2_with fail
          go_roundw
          case rel => exact ⟨k + 1, m, by omega, by go_num, by go_num, Lib.hid HN2.out, by omega, by go_grown⟩
          case measure => simp [intOf]; omega
      · obtain rfl : k = l.length := by omega
        have HM2 : Hid (m = cntB a b l) := Lib.hid (by rw [HM.out, List.take_length])
        have HS5 := Lib.hid (HS4.out.below hbl)
        have HB5 := Lib.hid (HB4.out.trans (hbl.mono hz4))
        clear HM H04 HS4 hlt
        have hpos : ∀ x ∈ c, 1 ≤ x.2 := fun x hx => (HC.out.all x hx).1
        have hst2 := hst.2
        clear hst _ha _hb hl
        go_wp2_with fail
        go_loopw [11, 67] (fun nv i wx => ∃ (k : Nat) (n : Int), k ≤ c.length ∧ i = .int .i64 k ∧ nv = .int .i64 n ∧ Hid (n = sumI c - sumI (c.take k)) ∧ 0 ≤ n ∧ n ≤ 300 ∧ Below wr.heap.size wr wx) (fun _ i _ => c.length - (intOf i).toNat)
        case atStart => exact ⟨0, (m : Int), Nat.zero_le _, rfl, rfl, Lib.hid (by rw [HSum.out, HM2.out]; simp [sumI]), by omega, by omega, Below.refl _ _⟩
        case round =>
          obtain ⟨i, n, hi, rfl, rfl, HNN, hn0, hn1, hbx⟩ := hrel
          rename World => wx
          have z2 := hbx.size
          by_cases hlt : i < c.length
          · obtain ⟨ad, hA, hadK, c0, c1⟩ := s_cells (HS5.out.below (hbx.mono z)) hlt
            have HNx := Lib.hid (sumI_next hlt)
            have hx := HC.out.all _ (List.getElem_mem hlt)
            have hrest := sumI_split (l := c) (i + 1)
            have hp := sumI_pos (l := c.drop (i + 1)) fun y hy => hpos y (List.mem_of_mem_drop hy)
            have hnn := HNN.out
            have hnx := HNx.out
            have hn2 : 0 ≤ n - c[i].2 := by omega
            have HN2 : Hid (n - c[i].2 = sumI c - sumI (c.take (i + 1))) := Lib.hid (by omega)
            have hprev : ∀ (j : Nat) (hj : j + 1 = i), c[j].1 < c[i].1 := fun j hj => List.pairwise_iff_getElem.1 HC.out.up j i (by omega) hlt (by omega)
            clear hrest hp hnn hnx HNx hpos
            have hcases : i = 0 ∨ ∃ j, i = j + 1 := by cases i with | zero => exact .inl rfl | succ j => exact .inr ⟨j, rfl⟩
            rcases hcases with hi0 | ⟨j, hj⟩
            · generalize c[i] = x at *
              obtain ⟨x0, x1⟩ := x
              simp only at c0 c1 hx hn2 HN2
              subst hA
              obtain ⟨x1p, x2p, x3p, x4p, _⟩ := hx
              have g1 : decide (x1 < 1) = false := decide_eq_false (by omega)
              have g2 : decide (x0 < a) = false := decide_eq_false (by omega)
              have g3 : decide (b ≤ x0) = false := decide_eq_false (by omega)
              have ew : wrap64 (x0 - a) = x0 - a := by unfold wrap64; omega
              have hst0 : (st == 0) = false := beq_eq_false_iff_ne.2 (by omega)
              have hst00 : ¬ st = 0 := by omega
              have hmd : (x0 - a).tmod st = 0 := by rw [Int.tmod_eq_emod_of_nonneg (by omega)]; exact x4p
              have i2 : (i : Int) < c.length := by omega
              have ew2 : wrap64 (n - x1) = n - x1 := by unfold wrap64; omega
              have i0 : decide (0 < i) = false := decide_eq_false (by omega)
              clear hprev hi0
              go_wp2_with fail
              go_big_quiet (fail)
              go_wp2_with fail
              go_roundw
              case rel => exact ⟨i + 1, n - x1, by omega, by go_num, by go_num, Lib.hid HN2.out, by omega, by omega, (hbx.alloc z2 _).trans ⟨rfl, rfl, rfl, Nat.le_refl _, fun _ _ => rfl⟩⟩
              case measure => simp [intOf]; omega
            · have hpr := hprev j hj.symm
              obtain ⟨ad2, hA2, _, d0, d1⟩ := s_cells (HS5.out.below (hbx.mono z)) (i := j) (by omega)
              generalize c[i] = x at *
              generalize c[j] = y at *
              obtain ⟨y0, y1⟩ := y
              rw [hA] at hA2
              cases hA2
              obtain ⟨x0, x1⟩ := x
              simp only at c0 c1 d0 d1 hx hn2 HN2 hpr
              subst hA
              obtain ⟨x1p, x2p, x3p, x4p, _⟩ := hx
              have g1 : decide (x1 < 1) = false := decide_eq_false (by omega)
              have g2 : decide (x0 < a) = false := decide_eq_false (by omega)
              have g3 : decide (b ≤ x0) = false := decide_eq_false (by omega)
              have ew : wrap64 (x0 - a) = x0 - a := by unfold wrap64; omega
              have hst0 : (st == 0) = false := beq_eq_false_iff_ne.2 (by omega)
              have hst00 : ¬ st = 0 := by omega
              have hmd : (x0 - a).tmod st = 0 := by rw [Int.tmod_eq_emod_of_nonneg (by omega)]; exact x4p
              have i2 : (i : Int) < c.length := by omega
              have ew2 : wrap64 (n - x1) = n - x1 := by unfold wrap64; omega
              have g4 : decide (x0 ≤ y0) = false := decide_eq_false (by omega)
              have i0 : decide (0 < i) = true := decide_eq_true (by omega)
              have i1 : (i : Int) - 1 = (j : Int) := by omega
              have iw : IntKind.i64.wrap (j : Int) = (j : Int) := wrapI _ (by omega) (by omega)
              have i3 : (j : Int) < c.length := by omega
              have d0' : ∀ o, (wx.alloc o).cell? (ad.add (j * 2)) = some (.int .i64 y0) := fun o => keptA d0
              have HJ := Lib.hid hj
              clear hprev hj hpr
              go_wp2_with fail
              go_big_quiet (fail)
              go_wp2_with fail
              go_roundw
              case rel => exact ⟨i + 1, n - x1, by omega, by go_num, by go_num, Lib.hid HN2.out, by omega, by omega, (hbx.alloc z2 _).trans ⟨rfl, rfl, rfl, Nat.le_refl _, fun _ _ => rfl⟩⟩
              case measure => simp [intOf]; omega
          · obtain rfl : i = c.length := by omega
            have hn : n = 0 := by
              have := HNN.out
              rw [List.take_length] at this
              omega
            subst hn
            clear hn0 hn1 HNN
            go_wp2_with fail
            go_ret
            exact ⟨rfl, HB5.out.trans (hbx.mono HB5.out.size)⟩
end Go.Proofs.Ytckbpajphfbaoaa
