/- The document's Fold: its walk. -/
import Derived.Test.YtcfbcidakddhfaaGreatDoorPr22
import Derived.Deep.CutBlock
namespace Go.Proofs.YtcfbcidakddhfaaGreatDoor
open Go.RowKit Go.BigFrame

theorem info_i64 : (Tryz.prog.info? 2).map (fun i => (i.zero, i.size, i.bytes)) = some (some (.int .i64 0), 1, 8) := by kernel_rfl
def RFoldP (w : World) (p : Int × Bool × Int) (e : Ending) (w' : World) : Prop := e = .returned (.tuple #[.int .i64 p.1, .bool p.2.1, .int .i64 p.2.2]) ∧ Below w.heap.size w w'
theorem sum_map (l : List Smp) : sumZ (l.map (·.2)) = sumI l := by
  induction l with
  | nil => rfl
  | cons x l ih => simp only [List.map_cons, sumZ, sumI, ih]
set_option maxRecDepth 100000 in
set_option maxHeartbeats 3200000 in
theorem rfold_any (op : Int) (K : Nat) (A : Option Addr) (n cap : Nat) (l : List Smp) (w : World) (hln : l.length = n) (hp : Sr encSm 2 w K A cap l) (hK : K ≤ w.heap.size) (hok : ∀ x ∈ l, Sok x) :
    Calls Tryz.prog 47 #[.int .i64 op, .slice A n cap] w (RFoldP w (foldB op l)) := by
  subst hln
  have hle := hp.le
  have hmax := hp.max
  unfold maxLen at hmax
  by_cases h1 : op < 1
  · have e : foldB op l = (0, false, 1) := if_pos (by unfold badB; rw [decide_eq_false (show ¬ 1 ≤ op by omega)]; rfl)
    rw [e]
    clear e hp hok
    go_enter Tryz.func47, Tryz.ntmps47
    go_wp2
    go_ret3
    exact ⟨rfl, Below.refl _ _⟩
  by_cases h5 : 5 < op
  · have e : foldB op l = (0, false, 1) := if_pos (by unfold badB; rw [decide_eq_false (show ¬ op ≤ 5 by omega)]; simp)
    rw [e]
    clear e hp hok
    go_enter Tryz.func47, Tryz.ntmps47
    go_wp2
    go_ret3
    exact ⟨rfl, Below.refl _ _⟩
  by_cases hbig : 65536 < l.length
  · have i1 : (65536 : Int) < l.length := by omega
    have e : foldB op l = (0, false, 1) := if_pos (by unfold badB; rw [decide_eq_false (show ¬ (l.length : Int) ≤ 65536 by omega)]; simp)
    rw [e]
    clear e hp hok
    go_enter Tryz.func47, Tryz.ntmps47
    go_wp2
    go_ret3
    exact ⟨rfl, Below.refl _ _⟩
  have i1 : ¬ (65536 : Int) < l.length := by omega
  have hnb : ¬ badB op l = true := by unfold badB; simp; omega
  by_cases h0 : l = []
  · subst h0
    have e : foldB op [] = (0, (op == 2), 0) := by unfold foldB; rw [if_neg hnb, if_pos rfl]
    rw [e]
    clear e hp hok hnb
    go_enter Tryz.func47, Tryz.ntmps47
    go_wp2
    all_goals go_ret3
    all_goals exact ⟨by simp_all, Below.refl _ _⟩
  have hpos : 0 < l.length := by cases l with | nil => exact absurd rfl h0 | cons x r => simp
  have i0 : ((l.length : Int) == 0) = false := beq_eq_false_iff_ne.2 (by omega)
  have i00 : ¬ l.length = 0 := by omega
  have e : foldB op l = ((toldB op l).1, ((toldB op l).2 == 0), (toldB op l).2) := by unfold foldB; rw [if_neg hnb, if_neg h0]
  rw [e]
  have HP := Lib.hid hp
  have HO := Lib.hid hok
  clear e hnb hbig hp hok h0
  obtain rfl | rfl | rfl | rfl | rfl : op = 1 ∨ op = 2 ∨ op = 3 ∨ op = 4 ∨ op = 5 := by omega
  · have e : toldB 1 l = rangeB (sumI l) := rfl
    rw [e]
    clear e h1 h5
    go_enter Tryz.func47, Tryz.ntmps47
    go_wp2
    go_loopw [9, 11] (fun v i wr => ∃ (k c : Nat) (B : Option Addr), k ≤ l.length ∧ i = .int .i64 k ∧ v = .slice B k c ∧ So encI 1 wr w.heap.size 2 (.slice B k c) ((l.take k).map (·.2)) ∧ Below w.heap.size w wr) (fun _ i _ => l.length - (intOf i).toNat)
    case atStart => exact ⟨0, 0, none, Nat.zero_le _, rfl, rfl, by simpa using So.empty _ _ _ _ _, Below.refl _ _⟩
    case round =>
      obtain ⟨k, c, B, hk, rfl, rfl, hps, hbl⟩ := hrel
      rename World => wr
      have z := hbl.size
      by_cases hlt : k < l.length
      · obtain ⟨ad, rfl, hadK, d0, d1⟩ := s_cells (HP.out.below (hbl.mono hK)) hlt
        have htk : (l.take (k + 1)).map (·.2) = (l.take k).map (·.2) ++ [l[k].2] := by rw [List.take_succ_eq_append_getElem hlt, List.map_append]; rfl
        have hln : ((l.take k).map (·.2)).length = k := by simp; omega
        generalize l[k] = x at *
        obtain ⟨xn, xv⟩ := x
        simp only at d0 d1 htk
        have HT := Lib.hid htk
        have HL := Lib.hid hln
        clear htk hln
        go_wp2_with (at_builtin; refine wpList_pushE Tryz.underlying142 info_i64 rfl (by decide) wr rfl (.tmp 99) (.tmp 105) rfl w.heap.size (.slice B k c) _ rfl hps xv _ rfl rfl (encI_one _) _ wr.heap.size rfl rfl (k + 1) (by rw [HL.out]) (by unfold maxLen; omega) (by omega) (by omega) ?_; intro A2 cap2 w2 hps2 hgrow2 hat2; have B2 : Below w.heap.size w w2 := grown_belowT hbl hgrow2 z (fun _ h => (hps.lt _ h).1))
        go_roundw
        case rel => exact ⟨k + 1, cap2, A2, by omega, by go_num, rfl, by rw [HT.out]; exact hps2, B2⟩
        case measure => simp [intOf]; omega
      · have hkl : k = l.length := by omega
        subst hkl
        rw [List.take_length] at hps
        have HTt := Lib.hid (fun W (h : W = wr) => total_any wr.heap.size B none l.length 0 c 0 (l.map (·.2)) [] W (by simp) rfl (h ▸ (hps.sr encI_len).1) (h ▸ Sr.none_ _ _) (h ▸ Nat.le_refl _) (by simp; omega) (by simp) (by
          intro x hx
          obtain ⟨y, hy, rfl⟩ := List.mem_map.1 hx
          have := HO.out y hy
          exact ⟨this.n0, this.n1⟩) (by simp))
        rw [sum_map, show sumI l - sumZ [] = sumI l by simp [sumZ]] at HTt
        have HC0 : Hid ((rangeB (sumI l)).2 = 0 ∨ ((rangeB (sumI l)).1 = 0 ∧ (rangeB (sumI l)).2 = 20)) := Lib.hid (by rcases range_cases (sumI l) with ⟨h, _⟩ | h <;> rw [h] <;> simp)
        generalize rangeB (sumI l) = p at *
        obtain ⟨p1, p2⟩ := p
        simp only at HTt ⊢
        cases hp2 : (p2 == 0) with
        | true =>
          rw [hp2] at HTt
          obtain rfl : p2 = 0 := by simpa using hp2
          clear hp2
          go_wp2_with (go_at_call 65; refine (HTt.out _ rfl).mono ?_; rintro e w3 ⟨rfl, hb3⟩)
          go_ret3
          exact ⟨rfl, hbl.trans (hb3.mono z)⟩
        | false =>
          rw [hp2] at HTt
          have HC := Lib.hid (HC0.out.resolve_left (by simpa using hp2))
          clear hp2
          go_wp2_with (go_at_call 65; refine (HTt.out _ rfl).mono ?_; rintro e w3 ⟨rfl, hb3⟩)
          go_ret3
          exact ⟨by rw [HC.out.1, HC.out.2] <;> rfl, hbl.trans (hb3.mono z)⟩
  · have e : toldB 2 l = ((l.length : Int), 0) := rfl
    rw [e]
    clear e h1 h5
    go_enter Tryz.func47, Tryz.ntmps47
    go_wp2
    go_ret3
    exact ⟨rfl, Below.refl _ _⟩
  · have e : toldB 3 l = ((bestN ltI l).2, 0) := rfl
    rw [e]
    clear e h1 h5
    obtain ⟨ad, rfl, hadK, c0, c1⟩ := s_cells HP.out hpos
    rw [Nat.zero_mul, el_add_zero] at c0 c1
    have hadW : ad.block < w.heap.size := by omega
    have H1 : Hid ((bestN ltI (l.take 1)).2 = l[0].2) := Lib.hid (by cases l with | nil => simp at hpos | cons x r => rfl)
    generalize l[0] = x at *
    obtain ⟨x0, x1⟩ := x
    simp only at c0 c1
    go_enter Tryz.func47, Tryz.ntmps47
    go_wp2
    go_loopw [7, 8] (fun bv i wr => ∃ t : Nat, 0 < t ∧ t ≤ l.length ∧ i = .int .i64 (t : Int) ∧ bv = .int .i64 (bestN ltI (l.take t)).2 ∧ wr = w) (fun _ i _ => l.length - (intOf i).toNat)
    case atStart => exact ⟨1, by omega, by omega, rfl, by rw [H1.out], rfl⟩
    case round =>
      obtain ⟨t, ht0, ht, rfl, rfl, rfl⟩ := hrel
      by_cases hlt : t < l.length
      · obtain ⟨ad2, e2, _, d0, d1⟩ := s_cells HP.out hlt
        cases e2
        have HX := Lib.hid (bestN_next ltI ht0 hlt)
        generalize bestN ltI (l.take t) = m at *
        generalize l[t] = y at *
        obtain ⟨y0, y1⟩ := y
        obtain ⟨m0, m1⟩ := m
        simp only at d0 d1 HX ⊢
        have i3 : (t : Int) < l.length := by omega
        by_cases hc : y1 < m1
        · have HN : Hid ((bestN ltI (l.take (t + 1))).2 = y1) := Lib.hid (by rw [HX.out, if_pos (show ltI y1 m1 = true from decide_eq_true hc)])
          clear HX
          go_wp2_with fail
          go_roundw
          case rel => exact ⟨t + 1, by omega, by omega, by go_num, by rw [HN.out], trivial⟩
          case measure => simp [intOf]; omega
        · have HN : Hid ((bestN ltI (l.take (t + 1))).2 = m1) := Lib.hid (by rw [HX.out, if_neg (by unfold ltI; rw [decide_eq_false hc]; decide)])
          clear HX
          go_wp2_with fail
          go_roundw
          case rel => exact ⟨t + 1, by omega, by omega, by go_num, by rw [HN.out], trivial⟩
          case measure => simp [intOf]; omega
      · obtain rfl : t = l.length := by omega
        obtain ⟨m, hm⟩ : ∃ m, m = bestN ltI l := ⟨_, rfl⟩
        have HM := Lib.hid hm
        rw [List.take_length, ← hm]
        clear hm
        go_wp2_with fail
        go_ret3
        exact ⟨by rw [HM.out] <;> rfl, Below.refl _ _⟩
  · have e : toldB 4 l = ((bestN gtI l).2, 0) := rfl
    rw [e]
    clear e h1 h5
    obtain ⟨ad, rfl, hadK, c0, c1⟩ := s_cells HP.out hpos
    rw [Nat.zero_mul, el_add_zero] at c0 c1
    have hadW : ad.block < w.heap.size := by omega
    have H1 : Hid ((bestN gtI (l.take 1)).2 = l[0].2) := Lib.hid (by cases l with | nil => simp at hpos | cons x r => rfl)
    generalize l[0] = x at *
    obtain ⟨x0, x1⟩ := x
    simp only at c0 c1
    go_enter Tryz.func47, Tryz.ntmps47
    go_wp2
    go_loopw [7, 8] (fun bv i wr => ∃ t : Nat, 0 < t ∧ t ≤ l.length ∧ i = .int .i64 (t : Int) ∧ bv = .int .i64 (bestN gtI (l.take t)).2 ∧ wr = w) (fun _ i _ => l.length - (intOf i).toNat)
    case atStart => exact ⟨1, by omega, by omega, rfl, by rw [H1.out], rfl⟩
    case round =>
      obtain ⟨t, ht0, ht, rfl, rfl, rfl⟩ := hrel
      by_cases hlt : t < l.length
      · obtain ⟨ad2, e2, _, d0, d1⟩ := s_cells HP.out hlt
        cases e2
        have HX := Lib.hid (bestN_next gtI ht0 hlt)
        generalize bestN gtI (l.take t) = m at *
        generalize l[t] = y at *
        obtain ⟨y0, y1⟩ := y
        obtain ⟨m0, m1⟩ := m
        simp only at d0 d1 HX ⊢
        have i3 : (t : Int) < l.length := by omega
        by_cases hc : m1 < y1
        · have HN : Hid ((bestN gtI (l.take (t + 1))).2 = y1) := Lib.hid (by rw [HX.out, if_pos (show gtI y1 m1 = true from decide_eq_true hc)])
          clear HX
          go_wp2_with fail
          go_roundw
          case rel => exact ⟨t + 1, by omega, by omega, by go_num, by rw [HN.out], trivial⟩
          case measure => simp [intOf]; omega
        · have HN : Hid ((bestN gtI (l.take (t + 1))).2 = m1) := Lib.hid (by rw [HX.out, if_neg (by unfold gtI; rw [decide_eq_false hc]; decide)])
          clear HX
          go_wp2_with fail
          go_roundw
          case rel => exact ⟨t + 1, by omega, by omega, by go_num, by rw [HN.out], trivial⟩
          case measure => simp [intOf]; omega
      · obtain rfl : t = l.length := by omega
        obtain ⟨m, hm⟩ : ∃ m, m = bestN gtI l := ⟨_, rfl⟩
        have HM := Lib.hid hm
        rw [List.take_length, ← hm]
        clear hm
        go_wp2_with fail
        go_ret3
        exact ⟨by rw [HM.out] <;> rfl, Below.refl _ _⟩
  · have e : toldB 5 l = rangeB (lastI l - firstI l) := rfl
    rw [e]
    clear e h1 h5
    obtain ⟨ad, rfl, hadK, c0, c1⟩ := s_cells HP.out hpos
    obtain ⟨ad2, e2, _, d0, d1⟩ := s_cells HP.out (i := l.length - 1) (by omega)
    cases e2
    rw [Nat.zero_mul, el_add_zero] at c0 c1
    have hadW : ad.block < w.heap.size := by omega
    have hf : firstI l = l[0].2 := by unfold firstI; rw [List.getD_eq_getElem?_getD, List.getElem?_eq_getElem hpos]; rfl
    have hla : lastI l = l[l.length - 1].2 := by unfold lastI; rw [List.getD_eq_getElem?_getD, List.getElem?_eq_getElem (by omega)]; rfl
    have ok0 := HO.out _ (List.getElem_mem hpos)
    have ok1 := HO.out _ (List.getElem_mem (show l.length - 1 < l.length by omega))
    rw [hf, hla]
    clear hf hla
    generalize l[0] = x at *
    generalize l[l.length - 1] = y at *
    obtain ⟨x0, x1⟩ := x
    obtain ⟨y0, y1⟩ := y
    simp only at c0 c1 d0 d1 ⊢
    obtain ⟨n, hn⟩ : ∃ n : Nat, n = l.length - 1 := ⟨_, rfl⟩
    rw [← hn] at d0 d1
    have i2 : (l.length : Int) - 1 = (n : Int) := by omega
    have iw : IntKind.i64.wrap (n : Int) = (n : Int) := wrapI _ (by omega) (by omega)
    have i3 : (n : Int) < l.length := by omega
    have HTt := Lib.hid (fun W (h : W = (w.alloc (.cells #[.int .i64 y1] 2)).alloc (.cells #[.int .i64 x1] 2)) => total_any W.heap.size (some ⟨w.heap.size, 0, none⟩) (some ⟨w.heap.size + 1, 0, none⟩) 1 1 1 1 [y1] [x1] W rfl rfl
      (by rw [h]; exact (((lit_so w w.heap.size 2 w.heap.size rfl (Nat.le_refl _) _ 1 [y1] encI_len rfl rfl (by decide)).alloc _).sr encI_len).1)
      (by rw [h]; exact ((lit_so (w.alloc (.cells #[.int .i64 y1] 2)) (w.alloc (.cells #[.int .i64 y1] 2)).heap.size 2 (w.heap.size + 1) (by simp) (by simp) _ 1 [x1] encI_len rfl rfl (by decide)).sr encI_len).1)
      (Nat.le_refl _) (by simp) (by simp) (by intro u hu; simp at hu; subst hu; exact ⟨ok1.n0, ok1.n1⟩) (by intro u hu; simp at hu; subst hu; exact ⟨ok0.n0, ok0.n1⟩))
    rw [show sumZ [y1] - sumZ [x1] = y1 - x1 by simp [sumZ]] at HTt
    have HC0 : Hid ((rangeB (y1 - x1)).2 = 0 ∨ ((rangeB (y1 - x1)).1 = 0 ∧ (rangeB (y1 - x1)).2 = 20)) := Lib.hid (by rcases range_cases (y1 - x1) with ⟨h, _⟩ | h <;> rw [h] <;> simp)
    generalize rangeB (y1 - x1) = p at *
    clear hn ok0 ok1 HO HP
    obtain ⟨p1, p2⟩ := p
    simp only at HTt HC0 ⊢
    cases hp2 : (p2 == 0) with
    | true =>
      rw [hp2] at HTt
      obtain rfl : p2 = 0 := by simpa using hp2
      clear hp2
      go_enter Tryz.func47, Tryz.ntmps47
      go_wp2_with (go_at_call 65; refine (HTt.out _ rfl).mono ?_; rintro e w3 ⟨rfl, hb3⟩)
      go_ret3
      exact ⟨rfl, via hb3 (by go_grown) (by simp; omega)⟩
    | false =>
      rw [hp2] at HTt
      have HC := Lib.hid (HC0.out.resolve_left (by simpa using hp2))
      clear hp2
      go_enter Tryz.func47, Tryz.ntmps47
      go_wp2_with (go_at_call 65; refine (HTt.out _ rfl).mono ?_; rintro e w3 ⟨rfl, hb3⟩)
      go_ret3
      exact ⟨by rw [HC.out.1, HC.out.2] <;> rfl, via hb3 (by go_grown) (by simp; omega)⟩
end Go.Proofs.YtcfbcidakddhfaaGreatDoor
