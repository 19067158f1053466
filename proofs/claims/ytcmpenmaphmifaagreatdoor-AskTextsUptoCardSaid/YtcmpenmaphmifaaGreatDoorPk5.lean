/- Rules in memory; the law's To and From. -/
import Derived.Test.YtcmpenmaphmifaaGreatDoorPk3
import Derived.Test.YtcmpenmaphmifaaGreatDoorPk4
import Derived.Deep.CutBlock
import Derived.Test.YtcmpenmaphmifaaGreatDoorPk0
import Derived.Test.YtcmpenmaphmifaaGreatDoorProg
import Derived.Maps.AppendAt
import Derived.OwnWalk
import Derived.Laws.OwnMore
import Derived.Laws.Rows
import Derived.Deep.AppendLies
import Derived.Laws.BytesArg
import Derived.Lib.ItoaNum
import Derived.Lib.Hide
import Derived.Test.YtcmpenmaphmifaaGreatDoorPk1
import Derived.Test.YtcmpenmaphmifaaGreatDoorRows
import Derived.LoopTactic
namespace Go.Proofs.YtcmpenmaphmifaaGreatDoor
open Go.RowKit Go.BigFrame

theorem info_rs : (Tryz.prog.info? 127).map (fun i => (i.zero, i.size, i.bytes)) = some (some (.agg #[.int .i64 0, .int .i64 0]), 2, 16) := by kernel_rfl
theorem info_rc : (Tryz.prog.info? 129).map (fun i => (i.zero, i.size, i.bytes)) = some (some (.agg #[.int .i64 0, .int .i64 0]), 2, 16) := by kernel_rfl
def RWinP (w : World) (p : Int × List Smp) (e : Ending) (w' : World) : Prop :=
  ∃ A c, e = .returned (.tuple #[.slice A p.2.length c, .int .i64 p.1]) ∧ So encSm 2 w' w.heap.size 129 (.slice A p.2.length c) p.2 ∧ Below w.heap.size w w'
theorem rwin_none (w : World) {w' : World} (x : Int) (h : Below w.heap.size w w') : RWinP w (x, []) (.returned (.tuple #[.slice none 0 0, .int .i64 x])) w' := ⟨none, 0, rfl, So.empty _ _ _ _ _, h⟩
theorem inK_next {a b st k : Int} {l : List Smp} {i : Nat} (h : i < l.length) : inK a b st k (l.take (i + 1)) = inK a b st k (l.take i) ++ (if inB a b st k l[i] = true then [l[i]] else []) := by
  unfold inK
  rw [List.take_succ_eq_append_getElem h, List.filter_append]
  congr 1
  rw [List.filter_cons]
  rfl
set_option maxRecDepth 100000 in
set_option maxHeartbeats 3200000 in
theorem rwindows_any (op : Int) (K : Nat) (A : Option Addr) (n cap : Nat) (l : List Smp) (a b st : Int) (w : World) (hln : l.length = n) (hp : Sr encSm 2 w K A cap l) (hK : K ≤ w.heap.size) (hok : ∀ x ∈ l, Sok x) (hs2 : st ≤ 9223372036854775807) :
    Calls Tryz.prog 39 #[.int .i64 op, .slice A n cap, .int .i64 a, .int .i64 b, .int .i64 st] w (RWinP w (rwinB op l a b st)) := by
  subst hln
  have hle := hp.le
  have hmax := hp.max
  unfold maxLen at hmax
  have HP := Lib.hid hp
  have HO := Lib.hid hok
  clear hp hok
  by_cases g1 : op < 1
  · have e : rwinB op l a b st = (1, []) := if_pos (by rw [show okB op l.length = false by unfold okB; rw [decide_eq_false (show ¬ 1 ≤ op by omega)]; rfl]; rfl)
    rw [e]
    clear e HP HO
    go_enter Tryz.func39, Tryz.ntmps39
    go_wp2
    go_ret2
    exact rwin_none _ _ (Below.refl _ _)
  by_cases g2 : 5 < op
  · have e : rwinB op l a b st = (1, []) := if_pos (by rw [show okB op l.length = false by unfold okB; rw [decide_eq_false (show ¬ op ≤ 5 by omega)]; simp]; rfl)
    rw [e]
    clear e HP HO
    go_enter Tryz.func39, Tryz.ntmps39
    go_wp2
    go_ret2
    exact rwin_none _ _ (Below.refl _ _)
  by_cases g3 : 65536 < l.length
  · have e : rwinB op l a b st = (1, []) := if_pos (by rw [show okB op l.length = false by unfold okB; rw [decide_eq_false (show ¬ (l.length : Int) ≤ 65536 by omega)]; simp]; rfl)
    rw [e]
    clear e HP HO
    have g33 : (65536 : Int) < l.length := by omega
    go_enter Tryz.func39, Tryz.ntmps39
    go_wp2
    go_ret2
    exact rwin_none _ _ (Below.refl _ _)
  have g33 : ¬ (65536 : Int) < l.length := by omega
  by_cases g4 : a < 0
  · have e : rwinB op l a b st = (1, []) := if_pos (by rw [show spanB a b = false by unfold spanB; rw [decide_eq_false (show ¬ 0 ≤ a by omega)]; rfl]; simp)
    rw [e]
    clear e HP HO
    go_enter Tryz.func39, Tryz.ntmps39
    go_wp2
    go_ret2
    exact rwin_none _ _ (Below.refl _ _)
  by_cases g5 : b < a
  · have e : rwinB op l a b st = (1, []) := if_pos (by rw [show spanB a b = false by unfold spanB; rw [decide_eq_false (show ¬ a ≤ b by omega)]; simp]; simp)
    rw [e]
    clear e HP HO
    go_enter Tryz.func39, Tryz.ntmps39
    go_wp2
    go_ret2
    exact rwin_none _ _ (Below.refl _ _)
  by_cases g6 : 4611686018427387904 < b
  · have e : rwinB op l a b st = (1, []) := if_pos (by rw [show spanB a b = false by unfold spanB; rw [decide_eq_false (show ¬ b ≤ 4611686018427387904 by omega)]; simp]; simp)
    rw [e]
    clear e HP HO
    go_enter Tryz.func39, Tryz.ntmps39
    go_wp2
    go_ret2
    exact rwin_none _ _ (Below.refl _ _)
  by_cases g7 : st < 1
  · have e : rwinB op l a b st = (1, []) := if_pos (by rw [decide_eq_true g7]; simp)
    rw [e]
    clear e HP HO
    go_enter Tryz.func39, Tryz.ntmps39
    go_wp2
    go_ret2
    exact rwin_none _ _ (Below.refl _ _)
  have hok1 : okB op l.length = true := by unfold okB; simp; omega
  have hok2 : spanB a b = true := by unfold spanB; simp; omega
  have hnb : ¬ (!okB op l.length || !spanB a b || decide (st < 1)) = true := by rw [hok1, hok2, decide_eq_false g7]; decide
  have hm := many_is (a := a) (b := b) (st := st) (by omega)
  obtain ⟨M, hM⟩ : ∃ M, M = manyI a b st := ⟨_, rfl⟩
  have hlt := fun k => many_lt (a := a) (b := b) (k := k) (show 1 ≤ st by omega)
  have hlt : ∀ k, k < M ↔ a + k * st < b := by rw [hM]; exact hlt
  have hM0 := many_ge (a := a) (b := b) (show a ≤ b by omega) (show 1 ≤ st by omega)
  rw [← hM] at hm hM0
  have hst0 : (st == 0) = false := beq_eq_false_iff_ne.2 (by omega)
  have hst00 : ¬ st = 0 := by omega
  have hqq : (b - a).tdiv st = (b - a) / st := Int.tdiv_eq_ediv_of_nonneg (by omega)
  have hrr : (b - a).tmod st = (b - a) % st := Int.tmod_eq_emod_of_nonneg (by omega)
  have hq0 := Int.ediv_nonneg (show 0 ≤ b - a by omega) (show 0 ≤ st by omega)
  have hq1 := Int.ediv_le_self st (show 0 ≤ b - a by omega)
  have hwd : wrap64 (b - a) = b - a := by unfold wrap64; omega
  obtain ⟨q, hq⟩ : ∃ q, q = (b - a) / st := ⟨_, rfl⟩
  rw [← hq] at hm hqq hq0 hq1
  obtain ⟨rm, hrm⟩ : ∃ rm, rm = (b - a) % st := ⟨_, rfl⟩
  rw [← hrm] at hm hrr
  have HLt := Lib.hid hlt
  have HRw : Hid (rwinB op l a b st = if 1024 < M then (8, []) else rGo op a b st l M.toNat 0 []) := Lib.hid (by rw [hM]; exact if_neg hnb)
  obtain ⟨res, hres⟩ : ∃ res, res = rwinB op l a b st := ⟨_, rfl⟩
  rw [← hres]
  rw [← hres] at HRw
  clear hok1 hok2 hnb hlt hM hq hrm hres
  obtain ⟨Mn, rfl⟩ : ∃ Mn : Nat, M = (Mn : Int) := ⟨M.toNat, by omega⟩
  rw [Int.toNat_natCast] at HRw
  go_enter Tryz.func39, Tryz.ntmps39
  go_upto_region 4 with fail
  by_cases hr : rm = 0
  focus
    subst hr
    rw [if_pos rfl] at hm
    obtain rfl : q = (Mn : Int) := by omega
    clear hm
    go_upto_region 6 with fail
  rotate_left
  focus
    rw [if_neg hr] at hm
    have b1 : (rm != 0) = true := bne_iff_ne.2 hr
    have hqe : q + 1 = (Mn : Int) := hm
    have hqb : q ≤ 4611686018427387904 := by omega
    clear hr hm
    go_upto_region 6 with fail
    clear hqe b1 hqb
  all_goals
    clear hqq hrr hq0 hq1
    by_cases hbg : 1024 < (Mn : Int)
    focus
      have HE : Hid (res = (8, [])) := Lib.hid (by rw [HRw.out, if_pos hbg])
      go_wp2_with fail
      go_ret2
      rw [HE.out]
      exact rwin_none _ _ (Below.refl _ _)
    have HRG : Hid (rGo op a b st l Mn 0 [] = res) := Lib.hid (by rw [HRw.out, if_neg hbg])
    clear HRw
    go_wp2_with fail
    go_loopw [13, 14] (fun ov kv wr => ∃ (k : Nat) (B : Option Addr) (cc m' : Nat) (acc : List Smp), k ≤ Mn ∧ kv = .int .i64 (k : Int) ∧ ov = .slice B m' cc ∧ acc.length = m' ∧ Hid (rGo op a b st l (Mn - k) k acc = res) ∧ So encSm 2 wr w.heap.size 129 (.slice B m' cc) acc ∧ m' ≤ k ∧ Below w.heap.size w wr) (fun _ kv _ => Mn - (intOf kv).toNat)
    case atStart => exact ⟨0, none, 0, 0, [], Nat.zero_le _, rfl, rfl, rfl, Lib.hid (by rw [Nat.sub_zero]; exact HRG.out), So.empty _ _ _ _ _, Nat.le_refl _, Below.refl _ _⟩
    case round =>
      clear HRG
      obtain ⟨k, B, cc, m', acc, hk, rfl, rfl, hm', HG, hC, hmk, hbl⟩ := hrel
      rename World => wr
      have HC := Lib.hid hC
      have HB := Lib.hid hbl
      have HM' := Lib.hid hm'
      have z := hbl.size
      clear hC hbl hm'
      by_cases hkM : k < Mn
      · obtain ⟨r, hr⟩ : ∃ r, Mn - k = r + 1 := ⟨Mn - k - 1, by omega⟩
        have hG := HG.out
        rw [hr] at hG
        unfold rGo at hG
        have hr2 : Mn - (k + 1) = r := by omega
        rw [← hr2, show (k : Int) + 1 = ((k + 1 : Nat) : Int) by omega] at hG
        obtain ⟨ks, hks⟩ : ∃ ks, (k : Int) * st = ks := ⟨_, rfl⟩
        have hkb := (HLt.out (k : Int)).1 (by omega)
        rw [hks] at hG hkb
        have hks0 : 0 ≤ ks := by rw [← hks]; exact Int.mul_nonneg (by omega) (by omega)
        have HGG := Lib.hid hG
        have i1 : (k : Int) < (Mn : Int) := by omega
        clear hG HG hr hr2
        go_wp2_with fail
        go_loopw [15, 16] (fun iv jv wx => ∃ (i : Nat) (C : Option Addr) (c2 n2 : Nat), i ≤ l.length ∧ jv = .int .i64 (i : Int) ∧ iv = .slice C n2 c2 ∧ Hid ((inK a b st k (l.take i)).length = n2) ∧ So encSm 2 wx wr.heap.size 127 (.slice C n2 c2) (inK a b st k (l.take i)) ∧ n2 ≤ i ∧ Below wr.heap.size wr wx) (fun _ jv _ => l.length - (intOf jv).toNat)
        case atStart => exact ⟨0, none, 0, 0, Nat.zero_le _, rfl, rfl, Lib.hid rfl, So.empty _ _ _ _ _, Nat.le_refl _, Below.refl _ _⟩
        case round =>
          obtain ⟨i, C, c2, n2, hi, rfl, rfl, HN2, hI, hni, hbx⟩ := hrel
          rename World => wx
          have zx := hbx.size
          by_cases hil : i < l.length
          · obtain ⟨ad, rfl, hadK, d0, d1⟩ := s_cells (HP.out.below ((HB.out.trans (hbx.mono z)).mono hK)) hil
            have hx := HO.out _ (List.getElem_mem hil)
            have hnx := inK_next (a := a) (b := b) (st := st) (k := (k : Int)) hil
            unfold inB at hnx
            generalize l[i] = x at *
            obtain ⟨x0, x1⟩ := x
            simp only at d0 d1 hnx
            have hxa := hx.t0
            have hxb := hx.t1
            have i2 : (i : Int) < l.length := by omega
            clear hx
            by_cases ga : a ≤ x0
            · by_cases gb : x0 < b
              · have hw : wrap64 (x0 - a) = x0 - a := by unfold wrap64; omega
                have htd : (x0 - a).tdiv st = (x0 - a) / st := Int.tdiv_eq_ediv_of_nonneg (by omega)
                have hQ0 := Int.ediv_nonneg (show 0 ≤ x0 - a by omega) (show 0 ≤ st by omega)
                have hQ1 := Int.ediv_le_self st (show 0 ≤ x0 - a by omega)
                obtain ⟨Q, hQ⟩ : ∃ Q, Q = (x0 - a) / st := ⟨_, rfl⟩
                rw [← hQ] at htd hnx hQ0 hQ1
                by_cases gk : Q = (k : Int)
                · have bk : (Q == (k : Int)) = true := beq_iff_eq.2 gk
                  have HNX : Hid (inK a b st k (l.take (i + 1)) = inK a b st k (l.take i) ++ [(x0, x1)]) := Lib.hid (by rw [hnx]; simp [ga, gb, gk])
                  have HIw := Lib.hid hI
                  clear hnx hQ gk hI
                  go_wp2_with (at_builtin; refine wpList_pushE Tryz.underlying125 info_rs rfl (by decide) wx rfl (.tmp 103) (.tmp 108) rfl wr.heap.size (.slice C n2 c2) _ rfl HIw.out (x0, x1) _ rfl rfl (encSm_one _) _ wx.heap.size rfl rfl (n2 + 1) (by rw [HN2.out]) (by unfold maxLen; omega) (by omega) (by omega) ?_; intro A5 cap5 w5 hps5 hgrow5 hat5; have B5 : Below wr.heap.size wr w5 := grown_belowT hbx hgrow5 (by omega) (fun _ h => (HIw.out.lt _ h).1))
                  go_roundw
                  case rel => exact ⟨i + 1, A5, cap5, n2 + 1, by omega, by go_num, rfl, Lib.hid (by rw [HNX.out, List.length_append, HN2.out]; rfl), by rw [HNX.out]; exact hps5, by omega, B5⟩
                  case measure => simp [intOf]; omega
                · have bk : (Q == (k : Int)) = false := beq_eq_false_iff_ne.2 gk
                  have HNX : Hid (inK a b st k (l.take (i + 1)) = inK a b st k (l.take i)) := Lib.hid (by rw [hnx]; simp [gk])
                  clear hnx hQ gk
                  go_wp2_with fail
                  go_roundw
                  case rel => exact ⟨i + 1, C, c2, n2, by omega, by go_num, rfl, Lib.hid (by rw [HNX.out]; exact HN2.out), by rw [HNX.out]; exact hI, by omega, hbx⟩
                  case measure => simp [intOf]; omega
              · have HNX : Hid (inK a b st k (l.take (i + 1)) = inK a b st k (l.take i)) := Lib.hid (by rw [hnx]; simp [gb])
                clear hnx
                go_wp2_with fail
                go_roundw
                case rel => exact ⟨i + 1, C, c2, n2, by omega, by go_num, rfl, Lib.hid (by rw [HNX.out]; exact HN2.out), by rw [HNX.out]; exact hI, by omega, hbx⟩
                case measure => simp [intOf]; omega
            · have HNX : Hid (inK a b st k (l.take (i + 1)) = inK a b st k (l.take i)) := Lib.hid (by rw [hnx]; simp [ga])
              clear hnx
              go_wp2_with fail
              go_roundw
              case rel => exact ⟨i + 1, C, c2, n2, by omega, by go_num, rfl, Lib.hid (by rw [HNX.out]; exact HN2.out), by rw [HNX.out]; exact hI, by omega, hbx⟩
              case measure => simp [intOf]; omega
          · obtain rfl : i = l.length := by omega
            rw [List.take_length] at HN2 hI
            have HIS := Lib.hid (hI.sr encSm_len).1
            have HBX := Lib.hid hbx
            have HC2 := Lib.hid (HC.out.below hbx)
            have hoI : ∀ u ∈ inK a b st k l, Sok u := fun u hu => HO.out u (List.mem_filter.1 hu).1
            have HF := Lib.hid (fun W (h : W = wx) => rfold_any op wx.heap.size C n2 c2 (inK a b st k l) W HN2.out (h ▸ HIS.out) (h ▸ Nat.le_refl _) hoI)
            clear hI hbx hoI
            by_cases hn0 : n2 = 0
            · subst hn0
              have hnil : inK a b st k l = [] := List.eq_nil_of_length_eq_zero HN2.out
              have HGN : Hid (rGo op a b st l (Mn - (k + 1)) ((k + 1 : Nat) : Int) acc = res) := Lib.hid (by have h := HGG.out; rwa [if_pos hnil] at h)
              clear hnil HGG
              go_wp2_with fail
              go_roundw
              case rel => exact ⟨k + 1, B, cc, m', acc, by omega, by go_num, rfl, HM'.out, Lib.hid HGN.out, HC2.out, by omega, HB.out.trans (HBX.out.mono z)⟩
              case measure => simp [intOf]; omega
            · have hnil : ¬ inK a b st k l = [] := by
                intro h
                have := HN2.out
                rw [h] at this
                exact hn0 this.symm
              have hG := HGG.out
              rw [if_neg hnil] at hG
              generalize foldB op (inK a b st k l) = p at *
              obtain ⟨p1, p2, p3⟩ := p
              simp only at hG
              have i0 : ((n2 : Int) == 0) = false := beq_eq_false_iff_ne.2 (by omega)
              clear hnil HGG
              by_cases hp3 : p3 = 0
              · subst hp3
                rw [if_pos rfl] at hG
                have HGN := Lib.hid hG
                clear hG
                go_wp2_with (first
                  | (go_at_call 74; refine (HF.out _ rfl).mono ?_; rintro e w4 ⟨rfl, hb4⟩; have hC4 := HC2.out.below hb4; have z4 := hb4.size; have hB4 := (HB.out.trans (HBX.out.mono z)).trans (hb4.mono (Nat.le_trans z zx)))
                  | (at_builtin; refine wpList_pushE Tryz.underlying96 info_rc rfl (by decide) w4 rfl (.tmp 123) (.tmp 131) rfl w.heap.size (.slice B m' cc) acc rfl hC4 (a + ks, p1) _ rfl rfl (encSm_one _) _ w4.heap.size rfl rfl (m' + 1) (by rw [HM'.out]) (by unfold maxLen; omega) (by omega) (by omega) ?_; intro A5 cap5 w5 hps5 hgrow5 hat5; have B5 : Below w.heap.size w w5 := grown_belowT hB4 hgrow5 (by omega) (fun _ h => (hC4.lt _ h).1)))
                go_roundw
                case rel => exact ⟨k + 1, A5, cap5, m' + 1, _, by omega, by go_num, rfl, by rw [List.length_append, HM'.out]; rfl, Lib.hid HGN.out, hps5, by omega, B5⟩
                case measure => simp [intOf]; omega
              · have hp3' : (p3 != 0) = true := bne_iff_ne.2 hp3
                rw [if_neg hp3] at hG
                have HE := Lib.hid hG.symm
                clear hG hp3
                go_wp2_with (go_at_call 74; refine (HF.out _ rfl).mono ?_; rintro e w4 ⟨rfl, hb4⟩)
                go_ret2
                rw [HE.out]
                exact rwin_none _ _ ((HB.out.trans (HBX.out.mono z)).trans (hb4.mono (Nat.le_trans z zx)))
      · obtain rfl : k = Mn := by omega
        have HE : Hid (res = (0, acc)) := Lib.hid (by rw [← HG.out, Nat.sub_self]; rfl)
        go_wp2_with fail
        go_ret2
        rw [HE.out]
        exact ⟨B, cc, by rw [HM'.out] <;> rfl, by rw [HM'.out]; exact HC.out, HB.out⟩
end Go.Proofs.YtcmpenmaphmifaaGreatDoor
namespace Go.Proofs.YtcmpenmaphmifaaGreatDoor
open Go.RowKit

theorem block_of_add (a : Addr) (n : Nat) : (a.add n).block = a.block := by unfold Addr.add; split <;> rfl
theorem add_of_add (a : Addr) (i j : Nat) : (a.add i).add j = a.add (i + j) := by
  unfold Addr.add
  by_cases hi : i = 0 <;> by_cases hj : j = 0 <;> simp [hi, hj, Nat.add_assoc]

/-- The slice with address A, length n and capacity cap reads as the bytes l, in memory below block K. -/
structure Bs (w : World) (K : Nat) (A : Option Addr) (cap : Nat) (l : List UInt8) : Prop where
  le : l.length ≤ cap
  max : cap ≤ maxLen
  nil : A = none → cap = 0
  at_ : 0 < l.length → ∃ ad : Addr, A = some ad ∧ ad.block < K ∧ ∀ k c, l[k]? = some c → w.cell? (ad.add k) = some (.int .u8 (c.toNat : Int))

section
variable {w w' : World} {K K' cap : Nat} {A : Option Addr} {l : List UInt8}
theorem Bs.get (h : Bs w K A cap l) {k : Nat} (hk : k < l.length) : ∃ ad : Addr, A = some ad ∧ ad.block < K ∧ w.cell? (ad.add k) = some (.int .u8 (l[k].toNat : Int)) := by
  obtain ⟨ad, e, hb, hc⟩ := h.at_ (by omega)
  exact ⟨ad, e, hb, hc k _ (List.getElem?_eq_getElem hk)⟩
theorem Bs.keep (h : Bs w K A cap l) (hk : ∀ p : Addr, p.block < K → w'.cell? p = w.cell? p) : Bs w' K A cap l :=
  ⟨h.le, h.max, h.nil, fun hn => by
    obtain ⟨ad, e, hb, hc⟩ := h.at_ hn
    exact ⟨ad, e, hb, fun j u hu => (hk _ (by rw [block_of_add]; exact hb)).trans (hc j u hu)⟩⟩
theorem Bs.cut (h : Bs w K A cap l) {i j : Nat} (hij : i ≤ j) (hj : j ≤ l.length) : Bs w K (if cap = i then A else A.map (·.add i)) (cap - i) ((l.drop i).take (j - i)) := by
  have hle := h.le
  have hmax := h.max
  have hlen : ((l.drop i).take (j - i)).length = j - i := by simp; omega
  refine ⟨by rw [hlen]; omega, by omega, fun hn => ?_, fun hn => ?_⟩
  · by_cases e : cap = i
    · omega
    · rw [if_neg e] at hn
      have : A = none := by cases A <;> simp_all
      have := h.nil this
      omega
  · rw [hlen] at hn
    obtain ⟨ad, rfl, hb, hc⟩ := h.at_ (by omega)
    rw [if_neg (by omega)]
    refine ⟨_, rfl, by rw [block_of_add]; exact hb, fun k c hk => ?_⟩
    rw [add_of_add]
    refine hc _ c ?_
    rw [List.getElem?_take] at hk
    split at hk
    · rwa [List.getElem?_drop] at hk
    · cases hk
theorem Bs.some_ (h : Bs w K A cap l) (hl : 0 < l.length) : ∃ ad : Addr, A = some ad ∧ ad.block < K := by
  obtain ⟨ad, e, hb, _⟩ := h.at_ hl
  exact ⟨ad, e, hb⟩
theorem Bs.cutS {ad : Addr} (h : Bs w K (some ad) cap l) {i j : Nat} (hi : 0 < i) (hij : i ≤ j) (hj : j ≤ l.length) (hc : i < cap) : Bs w K (some ⟨ad.block, ad.off + i, none⟩) (cap - i) ((l.drop i).take (j - i)) := by
  have := h.cut hij hj
  rw [if_neg (by omega)] at this
  have e : ad.add i = ⟨ad.block, ad.off + i, none⟩ := by unfold Addr.add; rw [if_neg (by omega)]
  rwa [Option.map_some, e] at this
theorem Bs.c {ad : Addr} (h : Bs w K (some ad) cap l) (i : Nat) (hi : 0 < i) (hil : i < l.length) : w.cell? ⟨ad.block, ad.off + i, none⟩ = some (.int .u8 ((l.getD i 0).toNat : Int)) := by
  obtain ⟨ad', e, _, hc⟩ := h.get hil
  cases e
  have e : ad.add i = ⟨ad.block, ad.off + i, none⟩ := by unfold Addr.add; rw [if_neg (by omega)]
  rw [e] at hc
  rw [hc]; simp [hil]
theorem Bs.c0 {ad : Addr} (h : Bs w K (some ad) cap l) (hil : 0 < l.length) : w.cell? ad = some (.int .u8 ((l.getD 0 0).toNat : Int)) := by
  obtain ⟨ad', e, _, hc⟩ := h.get hil
  cases e
  have e : ad.add 0 = ad := by unfold Addr.add; rw [if_pos rfl]
  rw [e] at hc
  rw [hc]; simp [hil]
theorem Bs.drew (h : Bs w K A cap l) : Bs w.drew K A cap l := ⟨h.le, h.max, h.nil, h.at_⟩
theorem Bs.drewN (h : Bs w K A cap l) (n : Nat) : Bs (w.drewN n) K A cap l := ⟨h.le, h.max, h.nil, h.at_⟩
theorem Bs.more (h : Bs w K A cap l) (hB : K ≤ K') : Bs w K' A cap l :=
  ⟨h.le, h.max, h.nil, fun hn => by
    obtain ⟨ad, e, hb, hc⟩ := h.at_ hn
    exact ⟨ad, e, by omega, hc⟩⟩
theorem Bs.alloc (h : Bs w K A cap l) (hK : K ≤ w.heap.size) (o : Obj) : Bs (w.alloc o) K A cap l := h.keep fun _ hp => World.cell?_alloc_lt _ _ _ (by omega)
theorem Bs.below (h : Bs w K A cap l) (hb : Below K w w') : Bs w' K A cap l := h.keep fun _ hp => hb.cell hp
end

end Go.Proofs.YtcmpenmaphmifaaGreatDoor
namespace Go.Proofs.YtcmpenmaphmifaaGreatDoor
open Go.RowKit

abbrev bv (c : UInt8) : Value := .int .u8 (c.toNat : Int)
/-- v is a slice of the call's own (blocks from K on) that holds the bytes l. -/
def Ob (w : World) (K : Nat) (v : Value) (l : List UInt8) : Prop := w.ownsRow K 5 1 v l.length (l.map bv)

theorem info_u8 : (Tryz.prog.info? 5).map (fun i => (i.zero, i.size, i.bytes)) = some (some (.int .u8 0), 1, 1) := by kernel_rfl

section
variable {w w' : World} {K : Nat} {l : List UInt8} {v : Value}
theorem Ob.empty (w : World) (K : Nat) : Ob w K (.slice none 0 0) [] := World.ownsRow_nil w K _ _
theorem Ob.bs {A : Option Addr} {n cap : Nat} (h : Ob w K (.slice A n cap) l) : Bs w w.heap.size A cap l ∧ n = l.length := by
  rcases h.2 with ⟨he, h0⟩ | ⟨g, cap', cur, he, hb, hg, hn, hc, hs, ht⟩
  · injection he with h1 h2 h3
    subst h1 h2 h3
    have : l = [] := List.eq_nil_of_length_eq_zero h0
    subst this
    exact ⟨⟨Nat.le_refl _, by unfold maxLen; omega, fun _ => rfl, fun h => absurd h (by simp)⟩, rfl⟩
  · injection he with h1 h2 h3
    subst h1 h2 h3
    refine ⟨⟨hn, hc, (fun h => by cases h), fun hl => ⟨_, rfl, ?_, fun k c hk => ?_⟩⟩, rfl⟩
    · rcases Nat.lt_or_ge g w.heap.size with hlt | hge
      · exact hlt
      · rw [Array.getElem?_eq_none hge] at hg; cases hg
    · exact h.cells (g := g) rfl k _ (by simp [hk])
theorem Ob.keep (h : Ob w K v l) {row : Option Nat} (hg : w.grownBy w' row) (hne : v.ownBlock = none ∨ v.ownBlock ≠ row) : Ob w' K v l := World.ownsRow.kept h hg hne
theorem Ob.below (h : Ob w K v l) (hb : Below w.heap.size w w') : Ob w' K v l :=
  World.ownsRow.kept (row := none) h ⟨hb.os, hb.tape, hb.output, hb.size, fun k hk _ => hb.block k hk⟩ (by cases h' : v.ownBlock <;> simp)
theorem Ob.alloc (h : Ob w K v l) (o : Obj) : Ob (w.alloc o) K v l := World.ownsRow.alloc h o
theorem Ob.drew (h : Ob w K v l) : Ob w.drew K v l := h
theorem Ob.lt (h : Ob w K v l) : ∀ k, v.ownBlock = some k → K ≤ k ∧ k < w.heap.size := World.ownsRow.lt h
theorem Ob.more {K' : Nat} (h : Ob w K v l) (hK : K' ≤ K) : Ob w K' v l := by
  rcases h.2 with ⟨he, h0⟩ | ⟨g, cap', cur, he, hb, hg⟩
  · exact ⟨h.1, .inl ⟨he, h0⟩⟩
  · exact ⟨h.1, .inr ⟨g, cap', cur, he, by omega, hg⟩⟩
theorem Ob.made {w1 : World} {n : Nat} (h : w1.ownsRow K 5 1 v n []) : Ob w1 K v [] := by
  have : n = 0 := by have := h.1; simp at this; omega
  subst this; exact h

theorem lit_bs (w : World) (T : TypeId) (cs : Array Value) (l : List UInt8) (h : cs.toList = l.map bv) (hl : l.length ≤ maxLen) : Bs (w.alloc (.cells cs T)) (w.heap.size + 1) (some ⟨w.heap.size, 0, none⟩) l.length l :=
  ⟨Nat.le_refl _, hl, (fun h => by cases h), fun _ => ⟨_, rfl, Nat.lt_succ_self _, fun k c hk => by
    have hadd : (⟨w.heap.size, 0, none⟩ : Addr).add k = ⟨w.heap.size, k, none⟩ := by unfold Addr.add; split <;> simp_all
    rw [hadd, cell_of_row (w.alloc (.cells cs T)) w.heap.size k cs T (0, 0) (heap_alloc_new w _), ← Array.getElem?_toList, h]
    simp [hk]⟩⟩

theorem lit_ob (w : World) (K H : Nat) (hH : w.heap.size = H) (hK : K ≤ H) (cs : Array Value) (n : Nat) (l : List UInt8) (h : cs.toList = l.map bv) (hn : l.length = n) (hm : n ≤ maxLen) : Ob (w.alloc (.cells cs 5)) K (.slice (some ⟨H, 0, none⟩) n n) l := by
  subst hH hn
  have := World.ownsRow_lit (e := 5) (size := 1) w cs l.length hK hm (by rw [← Array.length_toList, h]; simp)
  rw [h] at this
  exact this
theorem lit_bsH (w : World) (T : TypeId) (H : Nat) (hH : w.heap.size = H) (cs : Array Value) (n : Nat) (l : List UInt8) (h : cs.toList = l.map bv) (hn : l.length = n) (hm : n ≤ maxLen) : Bs (w.alloc (.cells cs T)) (H + 1) (some ⟨H, 0, none⟩) n l := by
  subst hH hn
  exact lit_bs w T cs l h hm

theorem lit_bsF (w : World) (T : TypeId) (fr : Nat × Nat) (H : Nat) (hH : w.heap.size = H) (cs : Array Value) (n : Nat) (l : List UInt8) (h : cs.toList = l.map bv) (hn : l.length = n) (hm : n ≤ maxLen) : Bs (w.alloc (.cells cs T fr)) (H + 1) (some ⟨H, 0, none⟩) n l := by
  subst hH hn
  refine ⟨Nat.le_refl _, hm, (fun h => by cases h), fun _ => ⟨_, rfl, Nat.lt_succ_self _, fun k c hk => ?_⟩⟩
  have hadd : (⟨w.heap.size, 0, none⟩ : Addr).add k = ⟨w.heap.size, k, none⟩ := by unfold Addr.add; split <;> simp_all
  rw [hadd, cell_of_row (w.alloc (.cells cs T fr)) w.heap.size k cs T fr (heap_alloc_new w _), ← Array.getElem?_toList, h]
  simp [hk]

theorem run_app (w : World) (ty : TypeId) {K K' : Nat} {v : Value} {l m : List UInt8} (hown : Ob w K v l) {A : Option Addr} {cap : Nat} (hsrc : Bs w K' A cap m)
    (hsz : l.length + m.length ≤ 140737488355328) (hbase : K ≤ w.heap.size) :
    ∃ A' cap' w', (Builtin.append_ #[100, 100] ty #[v, .slice A m.length cap]).run Tryz.prog w = .ok (.slice A' (l.length + m.length) cap') w' ∧ Ob w' K (.slice A' (l.length + m.length) cap') (l ++ m) ∧ w.grownBy w' v.ownBlock ∧
      ((Value.slice A' (l.length + m.length) cap').ownBlock = v.ownBlock ∨ (Value.slice A' (l.length + m.length) cap').ownBlock = some w.heap.size) := by
  have form : ∀ {w' : World} {v' : Value} {k : List UInt8}, Ob w' K v' k → ∃ A' cap', v' = .slice A' k.length cap' := fun h => by
    rcases h.2 with ⟨he, h0⟩ | ⟨g, cap', cur, he, _⟩
    · exact ⟨none, 0, by rw [he, h0]⟩
    · exact ⟨_, _, he⟩
  have hml : m.length ≤ maxLen := Nat.le_trans hsrc.le hsrc.max
  rcases A with _ | ad
  · have hc := hsrc.nil rfl
    have hm0 : m = [] := List.eq_nil_of_length_eq_zero (by have := hsrc.le; omega)
    subst hm0
    subst hc
    obtain ⟨A', cap', hv⟩ := form hown
    obtain ⟨i0, hi, _, _, _⟩ := info_parts info_u8
    have hrun := run_append_owned_none (P := Tryz.prog) w K 100 ty 5 i0 1 Tryz.underlying100 hi v _ _ hown
    exact ⟨A', cap', w, by rw [hv] at hrun ⊢; exact hrun, by rw [List.append_nil]; exact hv ▸ hown, ⟨rfl, rfl, rfl, Nat.le_refl _, fun _ _ _ => rfl⟩, .inl (by rw [hv]; rfl)⟩
  · obtain ⟨i0, hi, hz0, hz1, hz2⟩ := info_parts info_u8
    obtain ⟨v', w', hr, h2, h3, _, h5⟩ := run_append_own_at (P := Tryz.prog) w K 100 ty 5 i0 (.int .u8 0) 1 1 Tryz.underlying100 hi hz0 hz1 hz2 rfl (by decide) v _ _ hown ad m.length cap (m.map bv) (by simp)
      (fun j u hj => by
        simp only [List.getElem?_map, Option.map_eq_some_iff] at hj
        obtain ⟨c, hc, rfl⟩ := hj
        have hpos : 0 < m.length := by have := (List.getElem?_eq_some_iff.1 hc).1; omega
        obtain ⟨ad', he, _, hcell⟩ := hsrc.at_ hpos
        cases he
        exact hcell j c hc)
      (fun u hu => by
        simp only [List.mem_map] at hu
        obtain ⟨c, _, rfl⟩ := hu; rfl) (by unfold maxLen; omega) (by omega) hbase
    have h2' : Ob w' K v' (l ++ m) := by unfold Ob; rw [List.length_append, List.map_append]; exact h2
    obtain ⟨A', cap', hv⟩ := form h2'
    rw [List.length_append] at hv
    subst hv
    exact ⟨A', cap', w', hr, h2', h3, h5⟩

theorem wpList_app {ops : Array Oper} {rest : List Oper} {o : Oper} {a : Act} {Q : Exit → Act → World → Prop} (w : World) (hgd : o.guard = none) (s x : Operand)
    (ho : o.op = .call { callee := .builtin .append, args := #[s, x], argTypes := #[100, 100] })
    (K : Nat) (v : Value) (l : List UInt8) (hs : a.eval s = v) (hown : Ob w K v l) (A : Option Addr) (M cap : Nat) (m : List UInt8) (hx : a.eval x = .slice A M cap) (hM : m.length = M) (K' : Nat) (hsrc : Bs w K' A cap m)
    (N : Nat) (hN : l.length + m.length = N) (hsz : l.length + m.length ≤ 140737488355328) (hbase : K ≤ w.heap.size)
    (h : ∀ A' cap' w', Ob w' K (.slice A' N cap') (l ++ m) → w.grownBy w' v.ownBlock → ((Value.slice A' N cap').ownBlock = v.ownBlock ∨ (Value.slice A' N cap').ownBlock = some w.heap.size) → wpList Tryz.prog ops Q rest (a.put o.dst (.slice A' N cap')) w') : wpList Tryz.prog ops Q (o :: rest) a w := by
  subst hN hM
  refine wpList_plain hgd fun _ hK => ?_
  obtain ⟨A', cap', w', hr, h2, h3, h4⟩ := run_app w o.type hown hsrc hsz hbase
  unfold Oper.wp execOp
  simp only [ho, resolve, invoke, builtin, Sem.run_bind, Sem.run_pure, Result.andThen_ok, List.map_toArray, List.map_cons, List.map_nil, hs, hx, hr]
  exact hK _ _ (h A' cap' w' h2 h3 h4)
end

theorem Ob.stored {w : World} {K g n cap : Nat} {l : List UInt8} (h : Ob w K (.slice (some ⟨g, 0, none⟩) n cap) l) (j : Nat) (c : UInt8) : Ob (w.setCell ⟨g, j, none⟩ (bv c)) K (.slice (some ⟨g, 0, none⟩) n cap) (l.set j c) := by
  have hn := h.bs.2
  subst hn
  have := World.ownsRow.stored h j (bv c)
  unfold Ob
  rw [List.length_set, List.map_set]
  exact this.1
theorem add0 (g j : Nat) : (⟨g, 0, none⟩ : Addr).add j = ⟨g, j, none⟩ := by unfold Addr.add; split <;> simp_all
theorem Ob.addr {w : World} {K n cap : Nat} {A : Option Addr} {l : List UInt8} (h : Ob w K (.slice A n cap) l) (hn : 0 < n) : ∃ g, A = some ⟨g, 0, none⟩ ∧ K ≤ g ∧ g < w.heap.size := by
  have e := h.bs.2
  obtain ⟨g, cap', he, hg, hl⟩ := World.ownsRow.form (h := h) (by omega)
  injection he with h1 h2 h3
  exact ⟨g, h1, hg, hl⟩


theorem Ob.slot {w : World} {K g n cap k : Nat} {l : List UInt8} (h : Ob w K (.slice (some ⟨g, 0, none⟩) n cap) l) (hk : k < l.length) : w.cell? ⟨g, k, none⟩ = some (bv l[k]) ∧ w.frozen? ⟨g, k, none⟩ = false ∧ n = l.length ∧ n ≤ cap ∧ cap ≤ maxLen := by
  have h1 : w.ownsRow K 5 1 (.slice (some ⟨g, 0, none⟩) n cap) n (l.map bv) := by
    have h2 := h
    unfold Ob at h2
    rwa [← h.bs.2] at h2
  have hb := h.bs
  refine ⟨?_, h1.frozenAt k, hb.2, by have := hb.1.le; omega, hb.1.max⟩
  rw [h1.cellAt k (by omega)]
  simp [hk]

end Go.Proofs.YtcmpenmaphmifaaGreatDoor
namespace Go.Proofs.YtcmpenmaphmifaaGreatDoor
open Go.RowKit

def strB (l : List UInt8) : ByteArray := ⟨l.toArray⟩
theorem strB_toList (l : List UInt8) : (strB l).data.toList = l := rfl
theorem strB_size (l : List UInt8) : (strB l).size = l.length := by simp [strB, ByteArray.size]

theorem bs_str {w : World} {K cap n : Nat} {A : Option Addr} {l : List UInt8} (h : Bs w K A cap l) (hn : l.length = n) : (convert 100 9 (.slice A n cap)).run Tryz.prog w = .ok (.string (strB l)) w := by
  subst hn
  by_cases hl : l = []
  · subst hl
    rcases A with _ | ad
    · exact run_convert_bytes_nil (P := Tryz.prog) w 100 5 Tryz.underlying100 Tryz.underlying5 0 cap 9 Tryz.underlying9
    · show (convert 100 9 (.slice (some ad) 0 cap)).run Tryz.prog w = _
      rw [run_convert_bytes_string w 100 9 5 _ _ _ Tryz.underlying100 Tryz.underlying5 Tryz.underlying9, run_bytesToString w ad 0 cap [] (by simpa using run_loadCells_list (P := Tryz.prog) w ad [] (fun j v hj => by simp at hj))]
      rfl
  · obtain ⟨ad, rfl, _, hc⟩ := h.at_ (List.length_pos_iff.2 hl)
    have hld : (loadCells ad l.length).run Tryz.prog w = .ok ((l.map fun c => (c.toNat : Int)).map (Value.int .u8)).toArray w := by
      have := run_loadCells_list (P := Tryz.prog) w ad (l.map bv) (fun j v hj => by
        simp only [List.getElem?_map, Option.map_eq_some_iff] at hj
        obtain ⟨c, hc', rfl⟩ := hj
        exact hc j c hc')
      rw [List.length_map] at this
      rw [List.map_map]
      exact this
    rw [run_convert_bytes_string w 100 9 5 _ _ _ Tryz.underlying100 Tryz.underlying5 Tryz.underlying9, run_bytesToString w ad l.length cap _ hld, foldl_push_bytes, List.map_map]
    have e : (l.map ((fun n : Int => UInt8.ofNat n.toNat) ∘ fun c : UInt8 => (c.toNat : Int))) = l := by
      rw [show ((fun n : Int => UInt8.ofNat n.toNat) ∘ fun c : UInt8 => (c.toNat : Int)) = id by funext c; simp, List.map_id]
    rw [e]
    simp [strB, ByteArray.empty, ByteArray.emptyWithCapacity]
    rfl
end Go.Proofs.YtcmpenmaphmifaaGreatDoor
namespace Go.Proofs.YtcmpenmaphmifaaGreatDoor
open Go.RowKit

abbrev dec (n : Nat) : List UInt8 := Lib.decDigits n
/-- The string s, and of what was there nothing has turned. -/
def Str1 (w : World) (l : List UInt8) (e : Ending) (w' : World) : Prop := e = .returned (.string (strB l)) ∧ Below w.heap.size w w'

theorem dec_small {n : Nat} (h : n < 10) : dec n = [UInt8.ofNat (48 + n)] := by unfold dec; rw [Lib.decDigits, dif_pos h]
theorem dec_big {n : Nat} (h : ¬ n < 10) : dec n = dec (n / 10) ++ [UInt8.ofNat (48 + n % 10)] := by unfold dec; rw [Lib.decDigits, dif_neg h]
theorem dec_len {n : Nat} (h : n < 18446744073709551616) : (dec n).length ≤ 20 := by
  unfold dec
  rw [Lib.decDigits_length]
  by_cases h0 : n = 0
  · subst h0; rw [Lib.nDigits_small (by decide)]; decide
  · have := Lib.numDigits_eq n (by omega) h
    split at this <;> omega
theorem dec_pos (n : Nat) : 1 ≤ (dec n).length := by unfold dec; rw [Lib.decDigits_length]; exact Lib.nDigits_pos n
theorem itoa_neg {n : Int} (h : n < 0) : Lib.itoa n = 45 :: dec n.natAbs := by unfold Lib.itoa; rw [if_pos h]
theorem itoa_pos {n : Int} (h : ¬ n < 0) : Lib.itoa n = dec n.toNat := by unfold Lib.itoa; rw [if_neg h]
theorem itoa_len {n : Int} (h0 : -9223372036854775808 ≤ n) (h1 : n ≤ 9223372036854775807) : (Lib.itoa n).length ≤ 21 := by
  by_cases h : n < 0
  · rw [itoa_neg h]; have := dec_len (n := n.natAbs) (by omega); simp; omega
  · rw [itoa_pos h]; have := dec_len (n := n.toNat) (by omega); omega
theorem digit_toNat {n : Nat} (h : n < 10) : ((UInt8.ofNat (48 + n)).toNat : Int) = 48 + (n : Int) := by
  simp [UInt8.toNat_ofNat']; omega
theorem w64 {x : Int} (h0 : 0 ≤ x) (h1 : x < 18446744073709551616) : IntKind.u64.wrap x = x := by rw [IntKind.wrap_u64]; omega
theorem strB_app (l m : List UInt8) : strB l ++ strB m = strB (l ++ m) := by
  unfold strB
  apply ByteArray.ext
  simp [ByteArray.data_append]

/-- string([]byte{c}). -/
theorem conv1 (w : World) (x : Int) (c : UInt8) (h : x = (c.toNat : Int)) :
    (convert 100 9 (.slice (some ⟨w.heap.size, 0, none⟩) 1 1)).run Tryz.prog (w.alloc (.cells #[.int .u8 x] 5)) = .ok (.string (strB [c])) (w.alloc (.cells #[.int .u8 x] 5)) :=
  bs_str (lit_bs w _ #[.int .u8 x] [c] (by subst h; rfl) (by simp [maxLen])) rfl
end Go.Proofs.YtcmpenmaphmifaaGreatDoor
namespace Go.Proofs.YtcmpenmaphmifaaGreatDoor

structure Qr where
  op : Int
  rs : List Rp
  fr : Int
  to_ : Int
  st : Int
  nt : Bool
def Qr.zero : Qr := ⟨0, [], 0, 0, 0, false⟩
def opQ (op : Int) : Bool := decide (0 ≤ op) && decide (op < 6)
def stepQ (op fr to_ st : Int) : Bool := if op = 0 then (st == 0) else ((windowsB op [] fr to_ st).1 == 0) && decide (st ≤ 4611686018427387904)
def rightQ (q : Qr) : Bool := opQ q.op && (rulesL q.rs && (spanB q.fr q.to_ && stepQ q.op q.fr q.to_ q.st))
def wordQ (op : Int) : List UInt8 :=
  if op = 0 then [112, 111, 105, 110, 116, 115] else if op = 1 then [115, 117, 109] else if op = 2 then [99, 111, 117, 110, 116]
  else if op = 3 then [109, 105, 110] else if op = 4 then [109, 97, 120] else if op = 5 then [100, 101, 108, 116, 97] else [63]
def numsQ (q : Qr) : List Int := if q.op = 0 then [q.fr, q.to_] else [q.fr, q.to_, q.st]
def notesL : List UInt8 := [32, 110, 111, 116, 101, 115]
def numsL (l : List Int) : List UInt8 := l.flatMap fun n => 32 :: Lib.itoa n
def textQ (q : Qr) : List UInt8 := wordQ q.op ++ textR q.rs ++ numsL (numsQ q) ++ (if q.nt = true then notesL else [])
theorem win_nil {op fr to_ st : Int} (h1 : 1 ≤ op) (h2 : op ≤ 5) (hs : spanB fr to_ = true) : (windowsB op [] fr to_ st).1 = if st < 1 then 1 else if longB fr to_ st = true then 8 else 0 := by
  unfold windowsB
  have ho : okB op ([] : List Smp).length = true := by simp [okB, h1, h2]
  rw [ho, hs]
  by_cases hst : st < 1
  · rw [if_pos (by simp [hst]), if_pos hst]
  · rw [if_neg (by simp [hst]), if_neg hst]
    by_cases hl : longB fr to_ st = true
    · rw [if_pos hl, if_pos hl]
    · rw [if_neg hl, if_neg hl]
      have key : ∀ (f : Nat) (b : Int), (winGo op to_ st f b [] []).1 = 0 := fun f b => by
        cases f with
        | zero => rfl
        | succ f => simp only [winGo]; split <;> simp
      simp only [List.drop_nil]
      exact key _ _
end Go.Proofs.YtcmpenmaphmifaaGreatDoor
namespace Go.Proofs.YtcmpenmaphmifaaGreatDoor
open Go.RowKit

/-- A rule's three cells. -/
def encR (x : Rp) : List Value := [.string x.1, .int .i64 x.2.1, .string x.2.2]
theorem encR_len (x : Rp) : (encR x).length = 3 := rfl
theorem encR_one (x : Rp) : ∀ u ∈ encR x, u.oneCell' = true := by intro u hu; simp [encR] at hu; rcases hu with rfl | rfl | rfl <;> rfl
theorem info_ar : (Tryz.prog.info? 139).map (fun i => (i.zero, i.size, i.bytes)) = some (some (.agg #[.string ⟨#[]⟩, .int .i64 0, .string ⟨#[]⟩]), 3, 40) := by kernel_rfl
theorem info_dr : (Tryz.prog.info? 147).map (fun i => (i.zero, i.size, i.bytes)) = some (some (.agg #[.string ⟨#[]⟩, .int .i64 0, .string ⟨#[]⟩]), 3, 40) := by kernel_rfl

abbrev Rr (w : World) (K : Nat) (A : Option Addr) (cap : Nat) (l : List Rp) : Prop := Sr encR 3 w K A cap l
abbrev Ra (w : World) (K : Nat) (v : Value) (l : List Rp) : Prop := So encR 3 w K 139 v l
abbrev Rd (w : World) (K : Nat) (v : Value) (l : List Rp) : Prop := So encR 3 w K 147 v l
theorem rr_cells {w : World} {K cap : Nat} {A : Option Addr} {l : List Rp} (h : Rr w K A cap l) {i : Nat} (hi : i < l.length) : ∃ ad : Addr, A = some ad ∧ ad.block < K ∧ w.cell? (ad.add (i * 3)) = some (.string l[i].1) ∧ w.cell? ⟨(ad.add (i * 3)).block, (ad.add (i * 3)).off + 1, none⟩ = some (.int .i64 l[i].2.1) ∧ w.cell? ⟨(ad.add (i * 3)).block, (ad.add (i * 3)).off + 2, none⟩ = some (.string l[i].2.2) := by
  obtain ⟨ad, e, hb, h0, h1⟩ := h.get2 hi
  exact ⟨ad, e, hb, h0 _ rfl, h1 1 _ (by decide) rfl, h1 2 _ (by decide) rfl⟩
theorem rr_at {w : World} {K cap : Nat} {A : Option Addr} {l : List Rp} (h : Rr w K A cap l) {i : Nat} (hi : i < l.length) : ∃ ad : Addr, A = some ad ∧ ad.block < K ∧ w.cell? (ad.add (i * 3)) = some (.string (l.getD i nilR).1) ∧ w.cell? ⟨(ad.add (i * 3)).block, (ad.add (i * 3)).off + 1, none⟩ = some (.int .i64 (l.getD i nilR).2.1) ∧ w.cell? ⟨(ad.add (i * 3)).block, (ad.add (i * 3)).off + 2, none⟩ = some (.string (l.getD i nilR).2.2) := by
  rw [getR_eq hi]
  exact rr_cells h hi

/-- A new slice of the rules l; nothing else has turned. -/
def NewR (w : World) (l : List Rp) (e : Ending) (w' : World) : Prop :=
  ∃ A' cap', e = .returned (.slice A' l.length cap') ∧ Ra w' w.heap.size (.slice A' l.length cap') l ∧ Below w.heap.size w w'
def NewRd (w : World) (l : List Rp) (e : Ending) (w' : World) : Prop :=
  ∃ A' cap', e = .returned (.slice A' l.length cap') ∧ Rd w' w.heap.size (.slice A' l.length cap') l ∧ Below w.heap.size w w'

set_option maxHeartbeats 1600000 in
theorem toR_any (K : Nat) (A : Option Addr) (n cap : Nat) (l : List Rp) (w : World) (hln : l.length = n) (hp : Rr w K A cap l) (hK : K ≤ w.heap.size) (hl : l.length * 40 ≤ 140737488355328) :
    Calls Tryz.prog 37 #[.slice A n cap] w (NewR w l) := by
  subst hln
  have hle := hp.le
  have hmax := hp.max
  unfold maxLen at hmax
  go_enter Tryz.func37, Tryz.ntmps37
  go_wp2
  go_loopw [3, 8] (fun v i wr => ∃ (k c : Nat) (B : Option Addr), k ≤ l.length ∧ i = .int .i64 k ∧ v = .slice B k c ∧ Ra wr w.heap.size (.slice B k c) (l.take k) ∧ Below w.heap.size w wr) (fun _ i _ => l.length - (intOf i).toNat)
  case atStart => exact ⟨0, 0, none, Nat.zero_le _, rfl, rfl, by simpa using So.empty _ _ _ _ _, Below.refl _ _⟩
  case round =>
    obtain ⟨k, c, B, hk, rfl, rfl, hps, hbl⟩ := hrel
    have z := hbl.size
    by_cases hlt : k < l.length
    · obtain ⟨ad, rfl, hadK, h1, h2, h3⟩ := rr_cells (hp.below (hbl.mono hK)) hlt
      have htk : l.take (k + 1) = l.take k ++ [l[k]] := List.take_succ_eq_append_getElem hlt
      have hln : (l.take k).length = k := by simp; omega
      generalize l[k] = x at *
      obtain ⟨xn, xo, xv⟩ := x
      simp only at h1 h2 h3
      have HT := Lib.hid htk
      have HL := Lib.hid hln
      have hps1 := hps.alloc (.cells #[.string xn, .int .i64 xo, .string xv] 147)
      clear htk hln
      go_wp2_with (at_builtin; refine wpList_pushE Tryz.underlying25 info_ar rfl (by decide) (wr.alloc (.cells #[.string xn, .int .i64 xo, .string xv] 147)) rfl (.tmp 12) (.tmp 20) rfl w.heap.size (.slice B k c) (l.take k) rfl hps1 (xn, xo, xv) _ rfl rfl (encR_one _) _ (wr.heap.size + 1) (by simp) rfl (k + 1) (by rw [HL.out]) (by unfold maxLen; omega) (by omega) (by omega) ?_; intro A2 cap2 w2 hps2 hgrow2 hat2; have B2 : Below w.heap.size w w2 := grown_belowE (hbl.alloc z _) hgrow2 (by simp; omega) (fun _ h => (hps1.lt _ h).1))
      go_roundw
      case rel => exact ⟨k + 1, cap2, A2, by omega, by go_num, rfl, by rw [HT.out]; exact hps2, B2⟩
      case measure => simp [intOf]; omega
    · have hkl : k = l.length := by omega
      subst hkl
      rw [List.take_length] at hps
      go_wp2
      go_ret
      exact ⟨B, c, rfl, hps, hbl⟩
end Go.Proofs.YtcmpenmaphmifaaGreatDoor
