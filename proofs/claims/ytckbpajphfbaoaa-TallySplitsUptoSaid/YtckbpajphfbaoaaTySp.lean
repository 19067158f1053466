/- TallySplits: its walk. -/
import Derived.Test.YtckbpajphfbaoaaTyDe
import Derived.Deep.CutBlock
namespace Go.Proofs.Ytckbpajphfbaoaa
open Go.RowKit Go.BigFrame

theorem told_is {op : Int} {l : List Smp} (ho0 : 1 ≤ op) (ho : op ≤ 5) (h0 : 0 < l.length) (h1 : l.length ≤ 65536) : foldB op l = ((toldB op l).1, ((toldB op l).2 == 0), (toldB op l).2) := by
  have hb : ¬ badB op l = true := by
    unfold badB
    simp
    omega
  have hn : ¬ l = [] := by rintro rfl; simp at h0
  unfold foldB
  rw [if_neg hb, if_neg hn]
theorem pos_ne {l : List Smp} (h : 0 < l.length) : l ≠ [] := by rintro rfl; simp at h
set_option maxRecDepth 100000 in
set_option maxHeartbeats 6400000 in
theorem tysplits_any (A0 : Option Addr) (cap0 : Nat) (l : List Smp) (B0 : Option Addr) (cb0 : Nat) (m : List Smp) (w : World) (h0 : Sr encS 2 w w.heap.size A0 cap0 l) (ho : ∀ u ∈ l, Sok u) (k0 : Sr encS 2 w w.heap.size B0 cb0 m) (ko : ∀ u ∈ m, Sok u) (hl : l.length ≤ 1048576) (hm : m.length ≤ 1048576) :
    Calls Try.prog 5 #[.slice A0 l.length cap0, .slice B0 m.length cb0] w (Ok0 w) := by
  have HTo := Lib.hid (to_any w.heap.size A0 l.length cap0 l w rfl h0 (Nat.le_refl _) (by omega))
  have HTm := Lib.hid (fun W (h : Below w.heap.size w W) => to_any w.heap.size B0 m.length cb0 m W rfl (k0.below h) h.size (by omega))
  have HO := Lib.hid ho
  have KO := Lib.hid ko
  clear h0 ho k0 ko
  go_enter Try.func5, Try.ntmps5
  go_wp2_with fail
  refine HTo.out.mono ?_
  rintro e w1 ⟨A, cap, rfl, so1, b1⟩
  have HS1 := Lib.hid (so1.sr encS_len).1
  have HB1 := Lib.hid b1
  clear so1 b1 HTo
  go_wp2_with fail
  refine (HTm.out _ HB1.out).mono ?_
  rintro e w2 ⟨B, cb, rfl, so2, b2⟩
  have HS2 := Lib.hid ((HS1.out.below b2).more b2.size)
  have KS2 := Lib.hid (so2.sr encS_len).1
  have HB2 := Lib.hid (HB1.out.trans (b2.mono HB1.out.size))
  have hle := HS2.out.le
  have hmax := HS2.out.max
  have kle := KS2.out.le
  have kmax := KS2.out.max
  unfold maxLen at hmax kmax
  clear so2 b2 HS1 HB1 HTm
  go_upto_region 3 with (first
    | (at_builtin; refine wpList_appE Try.underlying26 info_ts rfl (by decide) encS_len encS_one _ rfl (.tmp 24) (.tmp 25) rfl w2.heap.size (.slice (some ⟨w2.heap.size, 0, none⟩) 0 0) [] rfl (lit_so w2 w2.heap.size _ w2.heap.size rfl (Nat.le_refl _) _ 0 [] encS_len rfl rfl (by decide)) A l.length cap l rfl rfl w2.heap.size (HS2.out.alloc (Nat.le_refl _) _) l.length (by simp) (by unfold maxLen; omega) (by omega) (by simp) ?_; intro A3 c3 w3 hown3 hgrow3 hat3; rw [List.nil_append] at hown3; have B3 : Below w2.heap.size w2 w3 := grown_belowE ((Below.refl _ _).alloc (Nat.le_refl _) _) hgrow3 (by simp) (by simp [Value.ownBlock]))
    | (at_builtin; refine wpList_appE Try.underlying26 info_ts rfl (by decide) encS_len encS_one _ rfl (.tmp 26) (.tmp 27) rfl w2.heap.size (.slice A3 l.length c3) l rfl hown3 B m.length cb m rfl rfl w2.heap.size (KS2.out.below B3) (l.length + m.length) rfl (by unfold maxLen; omega) (by omega) B3.size ?_; intro A4 c4 w4 hown4 hgrow4 hat4; have B4 : Below w2.heap.size w2 w4 := grown_belowE B3 hgrow4 B3.size (fun _ h => (hown3.lt _ h).1)))
  have HS4 := Lib.hid ((HS2.out.below B4).more B4.size)
  have KS4 := Lib.hid ((KS2.out.below B4).more B4.size)
  have LS4 := Lib.hid (hown4.sr encS_len).1
  have HB4 := Lib.hid (HB2.out.trans (B4.mono HB2.out.size))
  clear hown3 hgrow3 hat3 B3 hown4 hgrow4 hat4 B4 HS2 KS2 HB2
  go_wp2_with fail
  refine (awake_any _).mono ?_
  rintro e w5 ⟨rfl, b5⟩
  have HS5 := Lib.hid ((HS4.out.below b5).more b5.size)
  have KS5 := Lib.hid ((KS4.out.below b5).more b5.size)
  have LS5 := Lib.hid ((LS4.out.below b5).more b5.size)
  have HB5 := Lib.hid (HB4.out.trans (b5.mono HB4.out.size))
  clear b5 HS4 KS4 LS4 HB4 hle hmax kle kmax
  by_cases hz : 65536 < l.length + m.length
  · have i1 : (65536 : Int) < (l.length : Int) + (m.length : Int) := by omega
    have i2 : decide ((65536 : Int) < (l.length : Int) + (m.length : Int)) = true := decide_eq_true i1
    go_wp2_with fail
    refine (awake_any _).mono ?_
    rintro e w6 ⟨rfl, b6⟩
    go_wp2_with fail
    go_ret
    exact ⟨rfl, HB5.out.trans (b6.mono HB5.out.size)⟩
  have i1 : ¬ (65536 : Int) < (l.length : Int) + (m.length : Int) := by omega
  by_cases hz2 : l.length = 0
  · have i2 : ((l.length : Int) == 0) = true := by rw [hz2]; rfl
    clear hz hz2 hl hm
    go_wp2_with fail
    refine (awake_any _).mono ?_
    rintro e w6 ⟨rfl, b6⟩
    go_wp2_with fail
    go_ret
    exact ⟨rfl, HB5.out.trans (b6.mono HB5.out.size)⟩
  have i2 : ((l.length : Int) == 0) = false := beq_eq_false_iff_ne.2 (by omega)
  by_cases hz3 : m.length = 0
  · have i3 : ((m.length : Int) == 0) = true := by rw [hz3]; rfl
    clear hz hz2 hz3 hl hm
    go_wp2_with fail
    refine (awake_any _).mono ?_
    rintro e w6 ⟨rfl, b6⟩
    go_wp2_with fail
    go_ret
    exact ⟨rfl, HB5.out.trans (b6.mono HB5.out.size)⟩
  have i3 : ((m.length : Int) == 0) = false := beq_eq_false_iff_ne.2 (by omega)
  have F1 := fun (op : Int) (h1 : 1 ≤ op) (h2 : op ≤ 4) W (h : Below w5.heap.size w5 W) => fold_any op w5.heap.size A l.length cap l W rfl (HS5.out.below h) h.size HO.out
  have F2 := fun (op : Int) (h1 : 1 ≤ op) (h2 : op ≤ 4) W (h : Below w5.heap.size w5 W) => fold_any op w5.heap.size B m.length cb m W rfl (KS5.out.below h) h.size KO.out
  have F3 := fun (op : Int) (h1 : 1 ≤ op) (h2 : op ≤ 4) W (h : Below w5.heap.size w5 W) => fold_any op w5.heap.size A4 (l.length + m.length) c4 (l ++ m) W (by simp) (LS5.out.below h) h.size (fun x hx => by rcases List.mem_append.1 hx with h | h; exact HO.out x h; exact KO.out x h)
  have F1' : ∀ (op : Int), 1 ≤ op → op ≤ 4 → ∀ W, Below w5.heap.size w5 W → Calls Try.prog 9 #[.int .i64 op, .slice A l.length cap] W (FoldP W ((toldB op l).1, ((toldB op l).2 == 0), (toldB op l).2)) := fun op h1 h2 W h => (told_is (l := l) h1 (by omega) (by omega) (by omega)) ▸ F1 op h1 h2 W h
  have F2' : ∀ (op : Int), 1 ≤ op → op ≤ 4 → ∀ W, Below w5.heap.size w5 W → Calls Try.prog 9 #[.int .i64 op, .slice B m.length cb] W (FoldP W ((toldB op m).1, ((toldB op m).2 == 0), (toldB op m).2)) := fun op h1 h2 W h => (told_is (l := m) h1 (by omega) (by omega) (by omega)) ▸ F2 op h1 h2 W h
  have F3' : ∀ (op : Int), 1 ≤ op → op ≤ 4 → ∀ W, Below w5.heap.size w5 W → Calls Try.prog 9 #[.int .i64 op, .slice A4 (l.length + m.length) c4] W (FoldP W ((toldB op (l ++ m)).1, ((toldB op (l ++ m)).2 == 0), (toldB op (l ++ m)).2)) := fun op h1 h2 W h => (told_is (l := l ++ m) h1 (by omega) (by simp; omega) (by simp; omega)) ▸ F3 op h1 h2 W h
  have nl : l ≠ [] := pos_ne (by omega)
  have nm : m ≠ [] := pos_ne (by omega)
  have G1 := Lib.hid F1'
  have G2 := Lib.hid F2'
  have G3 := Lib.hid F3'
  have hL := Lib.hid (sumI_app l m)
  have hLe := Lib.hid (least_app nl nm)
  have hMo := Lib.hid (most_app nl nm)
  clear F1 F2 F3 F1' F2' F3' HO KO HS5 KS5 LS5 nl nm
  go_wp2_with fail
  go_loopw [8] (fun i wr => ∃ k : Nat, 1 ≤ k ∧ k ≤ 5 ∧ i = .int .i64 (k : Int) ∧ Below w5.heap.size w5 wr) (fun i _ => 5 - (intOf i).toNat)
  case atStart => exact ⟨1, by omega, by omega, rfl, Below.refl _ _⟩
  case round =>
    obtain ⟨k, hk1, hk5, rfl, hbl⟩ := hrel
    rename World => wr
    have HR := Lib.hid hbl
    clear hbl
    by_cases hk : k = 5
    · subst hk
      go_wp2_with fail
      go_ret
      exact ⟨rfl, HB5.out.trans (HR.out.mono HB5.out.size)⟩
    obtain rfl | rfl | rfl | rfl : k = 1 ∨ k = 2 ∨ k = 3 ∨ k = 4 := by omega
    · have HF1 := Lib.hid (G1.out 1 (by omega) (by omega))
      have HF2 := Lib.hid (G2.out 1 (by omega) (by omega))
      have HF3 := Lib.hid (G3.out 1 (by omega) (by omega))
      have t1 : toldB 1 l = rangeB (sumI l) := rfl
      have t2 : toldB 1 m = rangeB (sumI m) := rfl
      have t3 : toldB 1 (l ++ m) = rangeB (sumI l + sumI m) := by rw [← hL.out]; rfl
      rw [t1] at HF1
      rw [t2] at HF2
      rw [t3] at HF3
      clear t1 t2 t3 G1 G2 G3 hL hLe hMo
      have c1 := range_cases (sumI l)
      have c2 := range_cases (sumI m)
      have c3 := range_cases (sumI l + sumI m)
      generalize sumI l = x at *
      generalize sumI m = y at *
      obtain ⟨p1, hp1⟩ : ∃ p, p = rangeB x := ⟨_, rfl⟩
      obtain ⟨p2, hp2⟩ : ∃ p, p = rangeB y := ⟨_, rfl⟩
      obtain ⟨p3, hp3⟩ : ∃ p, p = rangeB (x + y) := ⟨_, rfl⟩
      have hp3' : rangeB (x + y) = (0, 20) → ¬ (-9223372036854775808 ≤ x + y ∧ x + y ≤ 9223372036854775807) := by
        intro h hc
        unfold rangeB at h
        rw [if_pos hc] at h
        injection h with _ h
        exact absurd h (by decide)
      rw [← hp3] at hp3'
      rw [← hp1] at HF1 c1
      rw [← hp2] at HF2 c2
      rw [← hp3] at HF3 c3
      obtain ⟨v1, e1⟩ := p1
      obtain ⟨v2, e2⟩ := p2
      obtain ⟨v3, e3⟩ := p3
      have C1 := Lib.hid c1
      have C2 := Lib.hid c2
      have C3 := Lib.hid c3
      have C4 := Lib.hid hp3'
      clear c1 c2 c3 hp1 hp2 hp3 hp3' hz hz2 hz3 hk hl hm i1 i2 i3 hk1 hk5
      go_wp2_with fail
      refine (HF1.out _ HR.out).mono ?_
      rintro e w6 ⟨rfl, b6⟩
      have HR6 := Lib.hid (HR.out.trans (b6.mono HR.out.size))
      clear b6
      go_wp2_with fail
      refine (HF2.out _ HR6.out).mono ?_
      rintro e w7 ⟨rfl, b7⟩
      have HR7 := Lib.hid (HR6.out.trans (b7.mono HR6.out.size))
      clear b7
      go_wp2_with fail
      refine (HF3.out _ HR7.out).mono ?_
      rintro e w8 ⟨rfl, b8⟩
      have HR8 := Lib.hid (HR7.out.trans (b8.mono HR7.out.size))
      clear b8 HF1 HF2 HF3 HR HR6 HR7
      rcases C1.out with ⟨c1, q1, q2⟩ | c1
      rotate_left
      · injection c1 with c1 c1'
        subst c1 c1'
        clear C1 C2 C3 C4
        go_wp2_with fail
        all_goals go_roundw
        all_goals first
          | exact ⟨2, by omega, by omega, rfl, HR8.out⟩
          | simp [intOf]
      rcases C2.out with ⟨c2, q3, q4⟩ | c2
      rotate_left
      · injection c1 with c1 c1'
        injection c2 with c2 c2'
        subst c1' c2 c2'
        clear C1 C2 C3 C4
        go_wp2_with fail
        all_goals go_roundw
        all_goals first
          | exact ⟨2, by omega, by omega, rfl, HR8.out⟩
          | simp [intOf]
      injection c1 with c1 c1'
      injection c2 with c2 c2'
      subst c1 c1' c2 c2'
      rcases C3.out with ⟨c3, q5, q6⟩ | c3
      · injection c3 with c3 c3'
        subst c3 c3'
        have hw : wrap64 (v1 + v2) = v1 + v2 := by unfold wrap64; omega
        obtain ⟨s, hs⟩ : ∃ s, s = v1 + v2 := ⟨_, rfl⟩
        have hw2 : wrap64 (v1 + v2) = s := hw.trans hs.symm
        rw [← hs]
        by_cases n1 : v1 < 0
        · by_cases n2 : v2 < 0
          · have n3 : s < 0 := by omega
            clear C1 C2 C3 C4 hw hs q1 q2 q3 q4 q5 q6
            go_wp2_with fail
            all_goals go_roundw
            all_goals first
              | exact ⟨2, by omega, by omega, rfl, HR8.out⟩
              | simp [intOf]
          · clear C1 C2 C3 C4 hw hs q1 q2 q3 q4 q5 q6
            go_wp2_with fail
            all_goals go_roundw
            all_goals first
              | exact ⟨2, by omega, by omega, rfl, HR8.out⟩
              | simp [intOf]
        · by_cases n2 : v2 < 0
          · clear C1 C2 C3 C4 hw hs q1 q2 q3 q4 q5 q6
            go_wp2_with fail
            all_goals go_roundw
            all_goals first
              | exact ⟨2, by omega, by omega, rfl, HR8.out⟩
              | simp [intOf]
          · have n3 : ¬ s < 0 := by omega
            clear C1 C2 C3 C4 hw hs q1 q2 q3 q4 q5 q6
            go_wp2_with fail
            all_goals go_roundw
            all_goals first
              | exact ⟨2, by omega, by omega, rfl, HR8.out⟩
              | simp [intOf]
      · have nr := C4.out c3
        injection c3 with c3 c3'
        subst c3 c3'
        obtain ⟨s, hs⟩ : ∃ s, wrap64 (v1 + v2) = s := ⟨_, rfl⟩
        have hs2 := hs
        unfold wrap64 at hs2
        by_cases n1 : v1 < 0
        · have n2 : v2 < 0 := by omega
          have n3 : ¬ s < 0 := by omega
          clear C1 C2 C3 C4 hs2 nr q1 q2 q3 q4
          go_wp2_with fail
          all_goals go_roundw
          all_goals first
            | exact ⟨2, by omega, by omega, rfl, HR8.out⟩
            | simp [intOf]
        · have n2 : ¬ v2 < 0 := by omega
          have n3 : s < 0 := by omega
          clear C1 C2 C3 C4 hs2 nr q1 q2 q3 q4
          go_wp2_with fail
          all_goals go_roundw
          all_goals first
            | exact ⟨2, by omega, by omega, rfl, HR8.out⟩
            | simp [intOf]
    · have HF1 := Lib.hid (G1.out 2 (by omega) (by omega))
      have HF2 := Lib.hid (G2.out 2 (by omega) (by omega))
      have HF3 := Lib.hid (G3.out 2 (by omega) (by omega))
      have t1 : toldB 2 l = ((l.length : Int), 0) := rfl
      have t2 : toldB 2 m = ((m.length : Int), 0) := rfl
      have t3 : toldB 2 (l ++ m) = ((l.length : Int) + (m.length : Int), 0) := by show (((l ++ m).length : Int), (0 : Int)) = _; simp
      rw [t1] at HF1
      rw [t2] at HF2
      rw [t3] at HF3
      clear t1 t2 t3 G1 G2 G3 hL hLe hMo
      have hw : wrap64 ((l.length : Int) + (m.length : Int)) = (l.length : Int) + (m.length : Int) := by unfold wrap64; omega
      clear hz hz2 hz3 hk hl hm i1 i2 i3 hk1 hk5
      go_wp2_with fail
      refine (HF1.out _ HR.out).mono ?_
      rintro e w6 ⟨rfl, b6⟩
      have HR6 := Lib.hid (HR.out.trans (b6.mono HR.out.size))
      clear b6
      go_wp2_with fail
      refine (HF2.out _ HR6.out).mono ?_
      rintro e w7 ⟨rfl, b7⟩
      have HR7 := Lib.hid (HR6.out.trans (b7.mono HR6.out.size))
      clear b7
      go_wp2_with fail
      refine (HF3.out _ HR7.out).mono ?_
      rintro e w8 ⟨rfl, b8⟩
      have HR8 := Lib.hid (HR7.out.trans (b8.mono HR7.out.size))
      clear b8 HF1 HF2 HF3 HR HR6 HR7
      go_wp2_with fail
      all_goals go_roundw
      all_goals first
        | exact ⟨3, by omega, by omega, rfl, HR8.out⟩
        | simp [intOf]
    · have HF1 := Lib.hid (G1.out 3 (by omega) (by omega))
      have HF2 := Lib.hid (G2.out 3 (by omega) (by omega))
      have HF3 := Lib.hid (G3.out 3 (by omega) (by omega))
      have t1 : toldB 3 l = (leastI l, 0) := rfl
      have t2 : toldB 3 m = (leastI m, 0) := rfl
      have t3 : toldB 3 (l ++ m) = (min (leastI l) (leastI m), 0) := by rw [← hLe.out]; rfl
      rw [t1] at HF1
      rw [t2] at HF2
      rw [t3] at HF3
      clear t1 t2 t3 G1 G2 G3 hL hLe hMo
      generalize leastI l = x at *
      generalize leastI m = y at *
      clear hz hz2 hz3 hk hl hm i1 i2 i3 hk1 hk5
      go_wp2_with fail
      refine (HF1.out _ HR.out).mono ?_
      rintro e w6 ⟨rfl, b6⟩
      have HR6 := Lib.hid (HR.out.trans (b6.mono HR.out.size))
      clear b6
      go_wp2_with fail
      refine (HF2.out _ HR6.out).mono ?_
      rintro e w7 ⟨rfl, b7⟩
      have HR7 := Lib.hid (HR6.out.trans (b7.mono HR6.out.size))
      clear b7
      go_wp2_with fail
      refine (HF3.out _ HR7.out).mono ?_
      rintro e w8 ⟨rfl, b8⟩
      have HR8 := Lib.hid (HR7.out.trans (b8.mono HR7.out.size))
      clear b8 HF1 HF2 HF3 HR HR6 HR7
      go_wp2_with fail
      all_goals go_roundw
      all_goals first
        | exact ⟨4, by omega, by omega, rfl, HR8.out⟩
        | simp [intOf]
    · have HF1 := Lib.hid (G1.out 4 (by omega) (by omega))
      have HF2 := Lib.hid (G2.out 4 (by omega) (by omega))
      have HF3 := Lib.hid (G3.out 4 (by omega) (by omega))
      have t1 : toldB 4 l = (mostI l, 0) := rfl
      have t2 : toldB 4 m = (mostI m, 0) := rfl
      have t3 : toldB 4 (l ++ m) = (max (mostI l) (mostI m), 0) := by rw [← hMo.out]; rfl
      rw [t1] at HF1
      rw [t2] at HF2
      rw [t3] at HF3
      clear t1 t2 t3 G1 G2 G3 hL hLe hMo
      generalize mostI l = x at *
      generalize mostI m = y at *
      clear hz hz2 hz3 hk hl hm i1 i2 i3 hk1 hk5
      go_wp2_with fail
      refine (HF1.out _ HR.out).mono ?_
      rintro e w6 ⟨rfl, b6⟩
      have HR6 := Lib.hid (HR.out.trans (b6.mono HR.out.size))
      clear b6
      go_wp2_with fail
      refine (HF2.out _ HR6.out).mono ?_
      rintro e w7 ⟨rfl, b7⟩
      have HR7 := Lib.hid (HR6.out.trans (b7.mono HR6.out.size))
      clear b7
      go_wp2_with fail
      refine (HF3.out _ HR7.out).mono ?_
      rintro e w8 ⟨rfl, b8⟩
      have HR8 := Lib.hid (HR7.out.trans (b8.mono HR7.out.size))
      clear b8 HF1 HF2 HF3 HR HR6 HR7
      go_wp2_with fail
      all_goals go_roundw
      all_goals first
        | exact ⟨5, by omega, by omega, rfl, HR8.out⟩
        | simp [intOf]
end Go.Proofs.Ytckbpajphfbaoaa
