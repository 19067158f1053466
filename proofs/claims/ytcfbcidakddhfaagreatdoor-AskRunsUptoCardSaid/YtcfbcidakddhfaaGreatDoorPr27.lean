/- The document's Windows: its walk. -/
import Derived.Test.YtcfbcidakddhfaaGreatDoorPr26
import Derived.Test.YtcfbcidakddhfaaGreatDoorPr24
import Derived.Deep.CutBlock
namespace Go.Proofs.YtcfbcidakddhfaaGreatDoor
open Go.RowKit Go.BigFrame

theorem info_rs : (Tryz.prog.info? 81).map (fun i => (i.zero, i.size, i.bytes)) = some (some (.agg #[.int .i64 0, .int .i64 0]), 2, 16) := by kernel_rfl
theorem info_rc : (Tryz.prog.info? 83).map (fun i => (i.zero, i.size, i.bytes)) = some (some (.agg #[.int .i64 0, .int .i64 0]), 2, 16) := by kernel_rfl
def RWinP (w : World) (p : Int × List Smp) (e : Ending) (w' : World) : Prop :=
  ∃ A c, e = .returned (.tuple #[.slice A p.2.length c, .int .i64 p.1]) ∧ So encSm 2 w' w.heap.size 83 (.slice A p.2.length c) p.2 ∧ Below w.heap.size w w'
theorem rwin_none (w : World) {w' : World} (x : Int) (h : Below w.heap.size w w') : RWinP w (x, []) (.returned (.tuple #[.slice none 0 0, .int .i64 x])) w' := ⟨none, 0, rfl, So.empty _ _ _ _ _, h⟩
theorem inK_next {a b st k : Int} {l : List Smp} {i : Nat} (h : i < l.length) : inK a b st k (l.take (i + 1)) = inK a b st k (l.take i) ++ (if inB a b st k l[i] = true then [l[i]] else []) := by
  unfold inK
  rw [List.take_succ_eq_append_getElem h, List.filter_append]
  congr 1
  rw [List.filter_cons]
  rfl
set_option maxRecDepth 100000 in
set_option maxHeartbeats 3200000 in
theorem rwindows_any (op : Int) (K : Nat) (A : Option Addr) (n cap : Nat) (l : List Smp) (a b st : Int) (w : World) (hln : l.length = n) (hp : Sr encSm 2 w K A cap l) (hK : K ≤ w.heap.size) (hok : ∀ x ∈ l, Sok x) (hs2 : st ≤ 9223372036854775807) :
    Calls Tryz.prog 25 #[.int .i64 op, .slice A n cap, .int .i64 a, .int .i64 b, .int .i64 st] w (RWinP w (rwinB op l a b st)) := by
  subst hln
  have hle := hp.le
  have hmax := hp.max
  unfold maxLen at hmax
  have HP := Lib.hid hp
  have HO := Lib.hid hok
  clear hp hok
  by_cases g1 : op < 1
  · have e : rwinB op l a b st = (1, []) := if_pos (by rw [show okB op l.length = false by unfold okB; rw [decide_eq_false (show ¬ 1 ≤ op by omega)]; rfl]; rfl)
    rw [e]
    clear e HP HO
    go_enter Tryz.func25, Tryz.ntmps25
    go_wp2
    go_ret2
    exact rwin_none _ _ (Below.refl _ _)
  by_cases g2 : 5 < op
  · have e : rwinB op l a b st = (1, []) := if_pos (by rw [show okB op l.length = false by unfold okB; rw [decide_eq_false (show ¬ op ≤ 5 by omega)]; simp]; rfl)
    rw [e]
    clear e HP HO
    go_enter Tryz.func25, Tryz.ntmps25
    go_wp2
    go_ret2
    exact rwin_none _ _ (Below.refl _ _)
  by_cases g3 : 65536 < l.length
  · have e : rwinB op l a b st = (1, []) := if_pos (by rw [show okB op l.length = false by unfold okB; rw [decide_eq_false (show ¬ (l.length : Int) ≤ 65536 by omega)]; simp]; rfl)
    rw [e]
    clear e HP HO
    have g33 : (65536 : Int) < l.length := by omega
    go_enter Tryz.func25, Tryz.ntmps25
    go_wp2
    go_ret2
    exact rwin_none _ _ (Below.refl _ _)
  have g33 : ¬ (65536 : Int) < l.length := by omega
  by_cases g4 : a < 0
  · have e : rwinB op l a b st = (1, []) := if_pos (by rw [show spanB a b = false by unfold spanB; rw [decide_eq_false (show ¬ 0 ≤ a by omega)]; rfl]; simp)
    rw [e]
    clear e HP HO
    go_enter Tryz.func25, Tryz.ntmps25
    go_wp2
    go_ret2
    exact rwin_none _ _ (Below.refl _ _)
  by_cases g5 : b < a
  · have e : rwinB op l a b st = (1, []) := if_pos (by rw [show spanB a b = false by unfold spanB; rw [decide_eq_false (show ¬ a ≤ b by omega)]; simp]; simp)
    rw [e]
    clear e HP HO
    go_enter Tryz.func25, Tryz.ntmps25
    go_wp2
    go_ret2
    exact rwin_none _ _ (Below.refl _ _)
  by_cases g6 : 4611686018427387904 < b
  · have e : rwinB op l a b st = (1, []) := if_pos (by rw [show spanB a b = false by unfold spanB; rw [decide_eq_false (show ¬ b ≤ 4611686018427387904 by omega)]; simp]; simp)
    rw [e]
    clear e HP HO
    go_enter Tryz.func25, Tryz.ntmps25
    go_wp2
    go_ret2
    exact rwin_none _ _ (Below.refl _ _)
  by_cases g7 : st < 1
  · have e : rwinB op l a b st = (1, []) := if_pos (by rw [decide_eq_true g7]; simp)
    rw [e]
    clear e HP HO
    go_enter Tryz.func25, Tryz.ntmps25
    go_wp2
    go_ret2
    exact rwin_none _ _ (Below.refl _ _)
  have hok1 : okB op l.length = true := by unfold okB; simp; omega
  have hok2 : spanB a b = true := by unfold spanB; simp; omega
  have hnb : ¬ (!okB op l.length || !spanB a b || decide (st < 1)) = true := by rw [hok1, hok2, decide_eq_false g7]; decide
  have hm := many_is (a := a) (b := b) (st := st) (by omega)
  obtain ⟨M, hM⟩ : ∃ M, M = manyI a b st := ⟨_, rfl⟩
  have hlt := fun k => many_lt (a := a) (b := b) (k := k) (show 1 ≤ st by omega)
  have hlt : ∀ k, k < M ↔ a + k * st < b := by rw [hM]; exact hlt
  have hM0 := many_ge (a := a) (b := b) (show a ≤ b by omega) (show 1 ≤ st by omega)
  rw [← hM] at hm hM0
  have hst0 : (st == 0) = false := beq_eq_false_iff_ne.2 (by omega)
  have hst00 : ¬ st = 0 := by omega
  have hqq : (b - a).tdiv st = (b - a) / st := Int.tdiv_eq_ediv_of_nonneg (by omega)
  have hrr : (b - a).tmod st = (b - a) % st := Int.tmod_eq_emod_of_nonneg (by omega)
  have hq0 := Int.ediv_nonneg (show 0 ≤ b - a by omega) (show 0 ≤ st by omega)
  have hq1 := Int.ediv_le_self st (show 0 ≤ b - a by omega)
  have hwd : wrap64 (b - a) = b - a := by unfold wrap64; omega
  obtain ⟨q, hq⟩ : ∃ q, q = (b - a) / st := ⟨_, rfl⟩
  rw [← hq] at hm hqq hq0 hq1
  obtain ⟨rm, hrm⟩ : ∃ rm, rm = (b - a) % st := ⟨_, rfl⟩
  rw [← hrm] at hm hrr
  have HLt := Lib.hid hlt
  have HRw : Hid (rwinB op l a b st = if 1024 < M then (8, []) else rGo op a b st l M.toNat 0 []) := Lib.hid (by rw [hM]; exact if_neg hnb)
  obtain ⟨res, hres⟩ : ∃ res, res = rwinB op l a b st := ⟨_, rfl⟩
  rw [← hres]
  rw [← hres] at HRw
  clear hok1 hok2 hnb hlt hM hq hrm hres
  obtain ⟨Mn, rfl⟩ : ∃ Mn : Nat, M = (Mn : Int) := ⟨M.toNat, by omega⟩
  rw [Int.toNat_natCast] at HRw
  go_enter Tryz.func25, Tryz.ntmps25
  go_upto_region 4 with fail
  by_cases hr : rm = 0
  focus
    subst hr
    rw [if_pos rfl] at hm
    obtain rfl : q = (Mn : Int) := by omega
    clear hm
    go_upto_region 6 with fail
  rotate_left
  focus
    rw [if_neg hr] at hm
    have b1 : (rm != 0) = true := bne_iff_ne.2 hr
    have hqe : q + 1 = (Mn : Int) := hm
    have hqb : q ≤ 4611686018427387904 := by omega
    clear hr hm
    go_upto_region 6 with fail
    clear hqe b1 hqb
  all_goals
    clear hqq hrr hq0 hq1
    by_cases hbg : 1024 < (Mn : Int)
    focus
      have HE : Hid (res = (8, [])) := Lib.hid (by rw [HRw.out, if_pos hbg])
      go_wp2_with fail
      go_ret2
      rw [HE.out]
      exact rwin_none _ _ (Below.refl _ _)
    have HRG : Hid (rGo op a b st l Mn 0 [] = res) := Lib.hid (by rw [HRw.out, if_neg hbg])
    clear HRw
    go_wp2_with fail
    go_loopw [13, 14] (fun ov kv wr => ∃ (k : Nat) (B : Option Addr) (cc m' : Nat) (acc : List Smp), k ≤ Mn ∧ kv = .int .i64 (k : Int) ∧ ov = .slice B m' cc ∧ acc.length = m' ∧ Hid (rGo op a b st l (Mn - k) k acc = res) ∧ So encSm 2 wr w.heap.size 83 (.slice B m' cc) acc ∧ m' ≤ k ∧ Below w.heap.size w wr) (fun _ kv _ => Mn - (intOf kv).toNat)
    case atStart => exact ⟨0, none, 0, 0, [], Nat.zero_le _, rfl, rfl, rfl, Lib.hid (by rw [Nat.sub_zero]; exact HRG.out), So.empty _ _ _ _ _, Nat.le_refl _, Below.refl _ _⟩
    case round =>
      clear HRG
      obtain ⟨k, B, cc, m', acc, hk, rfl, rfl, hm', HG, hC, hmk, hbl⟩ := hrel
      rename World => wr
      have HC := Lib.hid hC
      have HB := Lib.hid hbl
      have HM' := Lib.hid hm'
      have z := hbl.size
      clear hC hbl hm'
      by_cases hkM : k < Mn
      · obtain ⟨r, hr⟩ : ∃ r, Mn - k = r + 1 := ⟨Mn - k - 1, by omega⟩
        have hG := HG.out
        rw [hr] at hG
        unfold rGo at hG
        have hr2 : Mn - (k + 1) = r := by omega
        rw [← hr2, show (k : Int) + 1 = ((k + 1 : Nat) : Int) by omega] at hG
        obtain ⟨ks, hks⟩ : ∃ ks, (k : Int) * st = ks := ⟨_, rfl⟩
        have hkb := (HLt.out (k : Int)).1 (by omega)
        rw [hks] at hG hkb
        have hks0 : 0 ≤ ks := by rw [← hks]; exact Int.mul_nonneg (by omega) (by omega)
        have HGG := Lib.hid hG
        have i1 : (k : Int) < (Mn : Int) := by omega
        clear hG HG hr hr2
        go_wp2_with fail
        go_loopw [15, 16] (fun iv jv wx => ∃ (i : Nat) (C : Option Addr) (c2 n2 : Nat), i ≤ l.length ∧ jv = .int .i64 (i : Int) ∧ iv = .slice C n2 c2 ∧ Hid ((inK a b st k (l.take i)).length = n2) ∧ So encSm 2 wx wr.heap.size 81 (.slice C n2 c2) (inK a b st k (l.take i)) ∧ n2 ≤ i ∧ Below wr.heap.size wr wx) (fun _ jv _ => l.length - (intOf jv).toNat)
        case atStart => exact ⟨0, none, 0, 0, Nat.zero_le _, rfl, rfl, Lib.hid rfl, So.empty _ _ _ _ _, Nat.le_refl _, Below.refl _ _⟩
        case round =>
          obtain ⟨i, C, c2, n2, hi, rfl, rfl, HN2, hI, hni, hbx⟩ := hrel
          rename World => wx
          have zx := hbx.size
          by_cases hil : i < l.length
          · obtain ⟨ad, rfl, hadK, d0, d1⟩ := s_cells (HP.out.below ((HB.out.trans (hbx.mono z)).mono hK)) hil
            have hx := HO.out _ (List.getElem_mem hil)
            have hnx := inK_next (a := a) (b := b) (st := st) (k := (k : Int)) hil
            unfold inB at hnx
            generalize l[i] = x at *
            obtain ⟨x0, x1⟩ := x
            simp only at d0 d1 hnx
            have hxa := hx.t0
            have hxb := hx.t1
            have i2 : (i : Int) < l.length := by omega
            clear hx
            by_cases ga : a ≤ x0
            · by_cases gb : x0 < b
              · have hw : wrap64 (x0 - a) = x0 - a := by unfold wrap64; omega
                have htd : (x0 - a).tdiv st = (x0 - a) / st := Int.tdiv_eq_ediv_of_nonneg (by omega)
                have hQ0 := Int.ediv_nonneg (show 0 ≤ x0 - a by omega) (show 0 ≤ st by omega)
                have hQ1 := Int.ediv_le_self st (show 0 ≤ x0 - a by omega)
                obtain ⟨Q, hQ⟩ : ∃ Q, Q = (x0 - a) / st := ⟨_, rfl⟩
                rw [← hQ] at htd hnx hQ0 hQ1
                by_cases gk : Q = (k : Int)
                · have bk : (Q == (k : Int)) = true := beq_iff_eq.2 gk
                  have HNX : Hid (inK a b st k (l.take (i + 1)) = inK a b st k (l.take i) ++ [(x0, x1)]) := Lib.hid (by rw [hnx]; simp [ga, gb, gk])
                  have HIw := Lib.hid hI
                  clear hnx hQ gk hI
                  go_wp2_with (at_builtin; refine wpList_pushE Tryz.underlying78 info_rs rfl (by decide) wx rfl (.tmp 103) (.tmp 108) rfl wr.heap.size (.slice C n2 c2) _ rfl HIw.out (x0, x1) _ rfl rfl (encSm_one _) _ wx.heap.size rfl rfl (n2 + 1) (by rw [HN2.out]) (by unfold maxLen; omega) (by omega) (by omega) ?_; intro A5 cap5 w5 hps5 hgrow5 hat5; have B5 : Below wr.heap.size wr w5 := grown_belowT hbx hgrow5 (by omega) (fun _ h => (HIw.out.lt _ h).1))
                  go_roundw
                  case rel => exact ⟨i + 1, A5, cap5, n2 + 1, by omega, by go_num, rfl, Lib.hid (by rw [HNX.out, List.length_append, HN2.out]; rfl), by rw [HNX.out]; exact hps5, by omega, B5⟩
                  case measure => simp [intOf]; omega
                · have bk : (Q == (k : Int)) = false := beq_eq_false_iff_ne.2 gk
                  have HNX : Hid (inK a b st k (l.take (i + 1)) = inK a b st k (l.take i)) := Lib.hid (by rw [hnx]; simp [gk])
                  clear hnx hQ gk
                  go_wp2_with fail
                  go_roundw
                  case rel => exact ⟨i + 1, C, c2, n2, by omega, by go_num, rfl, Lib.hid (by rw [HNX.out]; exact HN2.out), by rw [HNX.out]; exact hI, by omega, hbx⟩
                  case measure => simp [intOf]; omega
              · have HNX : Hid (inK a b st k (l.take (i + 1)) = inK a b st k (l.take i)) := Lib.hid (by rw [hnx]; simp [gb])
                clear hnx
                go_wp2_with fail
                go_roundw
                case rel => exact ⟨i + 1, C, c2, n2, by omega, by go_num, rfl, Lib.hid (by rw [HNX.out]; exact HN2.out), by rw [HNX.out]; exact hI, by omega, hbx⟩
                case measure => simp [intOf]; omega
            · have HNX : Hid (inK a b st k (l.take (i + 1)) = inK a b st k (l.take i)) := Lib.hid (by rw [hnx]; simp [ga])
              clear hnx
              go_wp2_with fail
              go_roundw
              case rel => exact ⟨i + 1, C, c2, n2, by omega, by go_num, rfl, Lib.hid (by rw [HNX.out]; exact HN2.out), by rw [HNX.out]; exact hI, by omega, hbx⟩
              case measure => simp [intOf]; omega
          · obtain rfl : i = l.length := by omega
            rw [List.take_length] at HN2 hI
            have HIS := Lib.hid (hI.sr encSm_len).1
            have HBX := Lib.hid hbx
            have HC2 := Lib.hid (HC.out.below hbx)
            have hoI : ∀ u ∈ inK a b st k l, Sok u := fun u hu => HO.out u (List.mem_filter.1 hu).1
            have HF := Lib.hid (fun W (h : W = wx) => rfold_any op wx.heap.size C n2 c2 (inK a b st k l) W HN2.out (h ▸ HIS.out) (h ▸ Nat.le_refl _) hoI)
            clear hI hbx hoI
            by_cases hn0 : n2 = 0
            · subst hn0
              have hnil : inK a b st k l = [] := List.eq_nil_of_length_eq_zero HN2.out
              have HGN : Hid (rGo op a b st l (Mn - (k + 1)) ((k + 1 : Nat) : Int) acc = res) := Lib.hid (by have h := HGG.out; rwa [if_pos hnil] at h)
              clear hnil HGG
              go_wp2_with fail
              go_roundw
              case rel => exact ⟨k + 1, B, cc, m', acc, by omega, by go_num, rfl, HM'.out, Lib.hid HGN.out, HC2.out, by omega, HB.out.trans (HBX.out.mono z)⟩
              case measure => simp [intOf]; omega
            · have hnil : ¬ inK a b st k l = [] := by
                intro h
                have := HN2.out
                rw [h] at this
                exact hn0 this.symm
              have hG := HGG.out
              rw [if_neg hnil] at hG
              generalize foldB op (inK a b st k l) = p at *
              obtain ⟨p1, p2, p3⟩ := p
              simp only at hG
              have i0 : ((n2 : Int) == 0) = false := beq_eq_false_iff_ne.2 (by omega)
              clear hnil HGG
              by_cases hp3 : p3 = 0
              · subst hp3
                rw [if_pos rfl] at hG
                have HGN := Lib.hid hG
                clear hG
                go_wp2_with (first
                  | (go_at_call 47; refine (HF.out _ rfl).mono ?_; rintro e w4 ⟨rfl, hb4⟩; have hC4 := HC2.out.below hb4; have z4 := hb4.size; have hB4 := (HB.out.trans (HBX.out.mono z)).trans (hb4.mono (Nat.le_trans z zx)))
                  | (at_builtin; refine wpList_pushE Tryz.underlying79 info_rc rfl (by decide) w4 rfl (.tmp 123) (.tmp 131) rfl w.heap.size (.slice B m' cc) acc rfl hC4 (a + ks, p1) _ rfl rfl (encSm_one _) _ w4.heap.size rfl rfl (m' + 1) (by rw [HM'.out]) (by unfold maxLen; omega) (by omega) (by omega) ?_; intro A5 cap5 w5 hps5 hgrow5 hat5; have B5 : Below w.heap.size w w5 := grown_belowT hB4 hgrow5 (by omega) (fun _ h => (hC4.lt _ h).1)))
                go_roundw
                case rel => exact ⟨k + 1, A5, cap5, m' + 1, _, by omega, by go_num, rfl, by rw [List.length_append, HM'.out]; rfl, Lib.hid HGN.out, hps5, by omega, B5⟩
                case measure => simp [intOf]; omega
              · have hp3' : (p3 != 0) = true := bne_iff_ne.2 hp3
                rw [if_neg hp3] at hG
                have HE := Lib.hid hG.symm
                clear hG hp3
                go_wp2_with (go_at_call 47; refine (HF.out _ rfl).mono ?_; rintro e w4 ⟨rfl, hb4⟩)
                go_ret2
                rw [HE.out]
                exact rwin_none _ _ ((HB.out.trans (HBX.out.mono z)).trans (hb4.mono (Nat.le_trans z zx)))
      · obtain rfl : k = Mn := by omega
        have HE : Hid (res = (0, acc)) := Lib.hid (by rw [← HG.out, Nat.sub_self]; rfl)
        go_wp2_with fail
        go_ret2
        rw [HE.out]
        exact ⟨B, cc, by rw [HM'.out] <;> rfl, by rw [HM'.out]; exact HC.out, HB.out⟩
end Go.Proofs.YtcfbcidakddhfaaGreatDoor
