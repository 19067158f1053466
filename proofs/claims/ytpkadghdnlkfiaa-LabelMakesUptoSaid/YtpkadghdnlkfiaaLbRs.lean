/- The document's Sorted. -/
import Derived.Test.YtpkadghdnlkfiaaLbSM
import Derived.Test.YtpkadghdnlkfiaaLbRr
import Derived.Test.YtpkadghdnlkfiaaEl2
namespace Go.Proofs.Ytpkadghdnlkfiaa
open Go.RowKit

theorem ins_front {x : Pp} {l : List Pp} {p : Nat} (h : p = posP x l l.length) : insP x l = (l.take p ++ [x]) ++ (l.drop p).take (l.length - p) := by
  have e : (l.drop p).take (l.length - p) = l.drop p := List.take_of_length_le (by simp)
  unfold insP
  rw [← h, e, List.append_assoc]
  rfl

set_option maxHeartbeats 6400000 in
set_option maxRecDepth 100000 in
theorem rSorted_any (K : Nat) (A : Option Addr) (n cap : Nat) (l : List Pp) (w : World) (hln : l.length = n) (hp : Lr w K A cap l) (hK : K ≤ w.heap.size) (hl : l.length ≤ 1048576) :
    Calls Try.prog 38 #[.slice A n cap] w (NewD w (srt l)) := by
  subst hln
  have hle := hp.le
  have hmax := hp.max
  unfold maxLen at hmax
  go_enter Try.func38, Try.ntmps38
  go_wp2
  go_loopw [3, 4] (fun v i wr => ∃ (k c : Nat) (B : Option Addr), k ≤ l.length ∧ i = .int .i64 k ∧ v = .slice B k c ∧ Ld wr w.heap.size (.slice B k c) (srtTo l k) ∧ Below w.heap.size w wr) (fun _ i _ => l.length - (intOf i).toNat)
  case atStart => exact ⟨0, 0, none, Nat.zero_le _, rfl, rfl, by rw [srtTo_zero]; exact So.empty _ _ _ _ _, Below.refl _ _⟩
  case round =>
    rename World => W0
    obtain ⟨k, c, B, hk, rfl, rfl, hout, hbl⟩ := hrel
    have z := hbl.size
    by_cases hlt : k < l.length
    · obtain ⟨ad, rfl, hadK, h1, h2⟩ := lr_at (hp.below (hbl.mono hK)) hlt
      have hso := (So.sr encP_len hout).1
      have hol := srtTo_length (l := l) k hk
      have hnext := srtTo_succ hlt
      have hb := hbl.mono hK
      have hlx : l.getD k nilP = ((l.getD k nilP).1, (l.getD k nilP).2) := rfl
      rw [hlx] at hnext
      generalize hxn : (l.getD k nilP).1 = xn at *
      generalize hxv : (l.getD k nilP).2 = xv at *
      have HXN := Lib.hid hxn
      have HXV := Lib.hid hxv
      clear hxn hxv
      have hci := hso.le
      have hcm := hso.max
      unfold maxLen at hcm
      generalize hO : srtTo l k = O at *
      have HNX := Lib.hid hnext
      have HO := Lib.hid hol
      clear hnext hlx hO hol
      go_wp2_with fail
      go_loopw [5] (fun i wx => ∃ j q : Nat, j ≤ k ∧ i = .int .i64 j ∧ Hid (posP (xn, xv) O k = posP (xn, xv) O j) ∧ wx = W0.drewN q) (fun i _ => (intOf i).toNat)
      case atStart => exact ⟨k, 0, Nat.le_refl _, rfl, Lib.hid rfl, rfl⟩
      case round =>
        obtain ⟨j, q, hj, rfl, HP, rfl⟩ := hrel
        have hstep : 0 < j → posP (xn, xv) O j = if Op.bytesLess xn.toList (O.getD (j - 1) nilP).1.toList = true then posP (xn, xv) O (j - 1) else j := by
          intro h0
          have e : j = (j - 1) + 1 := by omega
          rw [e, posP]
          rfl
        have hprev : 0 < j → ∃ bd : Addr, B = some bd ∧ W0.cell? (bd.add ((j - 1) * 2)) = some (.string (O.getD (j - 1) nilP).1) := by
          intro h0
          have hjl : j - 1 < O.length := by rw [HO.out]; omega
          obtain ⟨bd, e', _, h3, _⟩ := lr_at hso hjl
          exact ⟨bd, e', h3⟩
        by_cases hgo : 0 < j ∧ Op.bytesLess xn.toList (O.getD (j - 1) nilP).1.toList = true
        · obtain ⟨h0, hl⟩ := hgo
          obtain ⟨bd, rfl, h3⟩ := hprev h0
          have HN : Hid (posP (xn, xv) O k = posP (xn, xv) O (j - 1)) := Lib.hid (by rw [HP.out, hstep h0, if_pos hl])
          generalize (O.getD (j - 1) nilP).1 = pn at *
          have hg0 : decide (0 < j) = true := by simpa using h0
          have i0 : (0 : Int) ≤ (j : Int) - 1 := by omega
          have i1 : (j : Int) - 1 < k := by omega
          have i2 : (k : Int) < l.length := by omega
          have iw : IntKind.i64.wrap ((j : Int) - 1) = (j : Int) - 1 := IntWalk.i64_in _ (by omega)
          have it : ((j : Int) - 1).toNat = j - 1 := by omega
          clear hstep hprev
          go_wp2_with fail
          go_quiet (fail)
          clear iw it
          go_wp2_with fail
          go_roundw
          case rel => exact ⟨j - 1, _, by omega, by go_num, HN, rfl⟩
          case measure => simp [intOf]; omega
        · have hpj : posP (xn, xv) O k = j := by
            rw [HP.out]
            rcases Nat.eq_zero_or_pos j with h0 | h0
            · subst h0; rfl
            · rw [hstep h0, if_neg (fun h => hgo ⟨h0, h⟩)]
          have hins := ins_front (x := (xn, xv)) (l := O) (p := j) (by rw [HO.out]; exact hpj.symm)
          have HINS := Lib.hid hins
          have HPJ := Lib.hid hpj
          clear hpj hins
          have i2 : (k : Int) < l.length := by omega
          by_cases h0 : j = 0
          focus
            have hg0 : decide (0 < j) = false := by simp; omega
            have H0 := Lib.hid h0
            clear hstep hprev hgo h0
            go_wp2_with fail
            go_quiet (fail)
            go_wp2_with fail
          rotate_left
          focus
            have hj0 : 0 < j := by omega
            obtain ⟨bd, rfl, h3⟩ := hprev hj0
            have hl : Op.bytesLess xn.toList (O.getD (j - 1) nilP).1.toList = false := by
              cases e : Op.bytesLess xn.toList (O.getD (j - 1) nilP).1.toList with
              | false => rfl
              | true => exact absurd ⟨hj0, e⟩ hgo
            generalize (O.getD (j - 1) nilP).1 = pn at *
            have hg0 : decide (0 < j) = true := by simpa using hj0
            have i0 : (0 : Int) ≤ (j : Int) - 1 := by omega
            have i1 : (j : Int) - 1 < k := by omega
            have iw : IntKind.i64.wrap ((j : Int) - 1) = (j : Int) - 1 := IntWalk.i64_in _ (by omega)
            have it : ((j : Int) - 1).toNat = j - 1 := by omega
            clear hstep hprev hgo h0
            go_wp2_with fail
            go_quiet (fail)
            clear iw it
            go_wp2_with fail
          all_goals
            go_loopw [6, 7] (fun v i wx => ∃ (j2 c2 : Nat) (C2 : Option Addr), j2 ≤ j ∧ i = .int .i64 j2 ∧ v = .slice C2 j2 c2 ∧ Ld wx W0.heap.size (.slice C2 j2 c2) (O.take j2) ∧ Below W0.heap.size W0 wx) (fun _ i _ => j - (intOf i).toNat)
            case atStart => exact ⟨0, 0, none, Nat.zero_le _, rfl, rfl, by simpa using So.empty _ _ _ _ _, by (repeat (first | exact Below.refl _ _ | apply below_drewN))⟩
            case round =>
              rename World => wx
              obtain ⟨j2, c2, C2, hj2, rfl, rfl, hne, hbx⟩ := hrel
              have zx := hbx.size
              by_cases hlt2 : j2 < j
              · have hjl : j2 < O.length := by rw [HO.out]; omega
                obtain ⟨bd, e', _, h3, h4⟩ := lr_at (hso.below hbx) hjl
                cases e'
                have htk : O.take (j2 + 1) = O.take j2 ++ [O.getD j2 nilP] := by rw [getD_get hjl]; exact List.take_succ_eq_append_getElem hjl
                have hln : (O.take j2).length = j2 := by simp; omega
                have hox : O.getD j2 nilP = ((O.getD j2 nilP).1, (O.getD j2 nilP).2) := rfl
                rw [hox] at htk
                generalize (O.getD j2 nilP).1 = on at *
                generalize (O.getD j2 nilP).2 = ov at *
                have HT := Lib.hid htk
                have HL := Lib.hid hln
                have i3 : (j2 : Int) < k := by omega
                clear htk hln hox
                go_wp2_with (at_builtin; refine wpList_pushE Try.underlying24 info_rp rfl (by decide) wx rfl (.tmp 40) (.tmp 45) rfl W0.heap.size (.slice C2 j2 c2) (O.take j2) rfl hne (on, ov) _ rfl rfl (encP_one _) _ wx.heap.size rfl rfl (j2 + 1) (by rw [HL.out]) (by unfold maxLen; omega) (by omega) (by omega) ?_; intro A2 cap2 w2 hps2 hgrow2 hat2; have B2 : Below W0.heap.size W0 w2 := grown_belowE hbx hgrow2 (by omega) (fun _ h => (hne.lt _ h).1))
                go_roundw
                case rel => exact ⟨j2 + 1, cap2, A2, by omega, by go_num, rfl, by rw [HT.out]; exact hps2, B2⟩
                case measure => simp [intOf]; omega
              · have hj2e : j2 = j := by omega
                subst hj2e
                have hbK : Below K w wx := hb.trans (hbx.mono (Nat.le_trans hK z))
                obtain ⟨ad', e1, _, g1, g2⟩ := lr_at (hp.below hbK) hlt
                cases e1
                rw [HXN.out] at g1
                rw [HXV.out] at g2
                have hln : (O.take j2).length = j2 := by rw [List.length_take, HO.out]; omega
                have HL := Lib.hid hln
                clear hln
                go_wp2_with (at_builtin; refine wpList_pushE Try.underlying24 info_rp rfl (by decide) wx rfl (.tmp 47) (.tmp 52) rfl W0.heap.size (.slice C2 j2 c2) (O.take j2) rfl hne (xn, xv) _ rfl rfl (encP_one _) _ wx.heap.size rfl rfl (j2 + 1) (by rw [HL.out]) (by unfold maxLen; omega) (by omega) (by omega) ?_; intro A3 cap3 w3 hps3 hgrow3 hat3; have B3 : Below W0.heap.size W0 w3 := grown_belowE hbx hgrow3 (by omega) (fun _ h => (hne.lt _ h).1))
                clear hgrow3 hat3 hne hbx g1 g2 hbK
                go_loopw [6, 8] (fun v i wy => ∃ (j3 c3 : Nat) (C3 : Option Addr), j2 ≤ j3 ∧ j3 ≤ k ∧ i = .int .i64 j3 ∧ v = .slice C3 (j3 + 1) c3 ∧ Ld wy W0.heap.size (.slice C3 (j3 + 1) c3) ((O.take j2 ++ [(xn, xv)]) ++ (O.drop j2).take (j3 - j2)) ∧ Below W0.heap.size W0 wy) (fun _ i _ => k - (intOf i).toNat)
                case atStart => exact ⟨j2, cap3, A3, Nat.le_refl _, by omega, rfl, rfl, by rw [Nat.sub_self, List.take_zero, List.append_nil]; exact hps3, B3⟩
                case round =>
                  rename World => wy
                  obtain ⟨j3, c3, C3, hj3, hj3k, rfl, rfl, hne, hbx⟩ := hrel
                  clear hps3 B3
                  have zy := hbx.size
                  by_cases hlt3 : j3 < k
                  · have hjl : j3 < O.length := by rw [HO.out]; omega
                    obtain ⟨bd, e', _, h3, h4⟩ := lr_at (hso.below hbx) hjl
                    cases e'
                    have htk : (O.drop j2).take (j3 + 1 - j2) = (O.drop j2).take (j3 - j2) ++ [O.getD j3 nilP] := by
                      have hd : j3 - j2 < (O.drop j2).length := by rw [List.length_drop]; omega
                      rw [show j3 + 1 - j2 = (j3 - j2) + 1 by omega, List.take_succ_eq_append_getElem hd, getD_get hjl, List.getElem_drop]
                      congr 2
                      congr 1
                      omega
                    have hln : ((O.take j2 ++ [(xn, xv)]) ++ (O.drop j2).take (j3 - j2)).length = j3 + 1 := by
                      simp only [List.length_append, List.length_take, List.length_drop, List.length_singleton]
                      omega
                    have hox : O.getD j3 nilP = ((O.getD j3 nilP).1, (O.getD j3 nilP).2) := rfl
                    rw [hox] at htk
                    generalize (O.getD j3 nilP).1 = on at *
                    generalize (O.getD j3 nilP).2 = ov at *
                    have HT := Lib.hid htk
                    have HL3 := Lib.hid hln
                    have i3 : (j3 : Int) < k := by omega
                    clear htk hln hox
                    go_wp2_with (at_builtin; refine wpList_pushE Try.underlying24 info_rp rfl (by decide) wy rfl (.tmp 61) (.tmp 66) rfl W0.heap.size (.slice C3 (j3 + 1) c3) ((O.take j2 ++ [(xn, xv)]) ++ (O.drop j2).take (j3 - j2)) rfl hne (on, ov) _ rfl rfl (encP_one _) _ wy.heap.size rfl rfl (j3 + 1 + 1) (by rw [HL3.out]) (by unfold maxLen; omega) (by omega) (by omega) ?_; intro A4 cap4 w4 hps4 hgrow4 hat4; have B4 : Below W0.heap.size W0 w4 := grown_belowE hbx hgrow4 (by omega) (fun _ h => (hne.lt _ h).1))
                    go_roundw
                    case rel => exact ⟨j3 + 1, cap4, A4, by omega, by omega, by go_num, rfl, by rw [HT.out, ← List.append_assoc]; exact hps4, B4⟩
                    case measure => simp [intOf]; omega
                  · have hj3e : j3 = k := by omega
                    subst hj3e
                    have hfin : Ld wy w.heap.size (.slice C3 (j3 + 1) c3) (srtTo l (j3 + 1)) := by
                      have e : srtTo l (j3 + 1) = (O.take j2 ++ [(xn, xv)]) ++ (O.drop j2).take (j3 - j2) := by rw [HNX.out, HINS.out, HO.out]
                      rw [e]
                      exact hne.more z
                    go_wp2_with fail
                    go_roundw
                    case rel => exact ⟨j3 + 1, c3, C3, by omega, by go_num, rfl, hfin, hbl.trans (hbx.mono z)⟩
                    case measure => simp [intOf]; omega
    · have hks : k = l.length := by omega
      have hfin : srt l = srtTo l l.length := rfl
      subst hks
      have hln : (srt l).length = l.length := srt_length l
      rw [← hfin] at hout
      go_wp2_with fail
      go_ret
      refine ⟨B, c, by rw [hln]; rfl, ?_, hbl⟩
      rw [hln]
      exact hout
end Go.Proofs.Ytpkadghdnlkfiaa
