/- TallyTurns: its walk. -/
import Derived.Test.YtckbpajphfbaoaaTyS
import Derived.BigQuiet
import Derived.Deep.CutBlock
namespace Go.Proofs.Ytckbpajphfbaoaa
open Go.RowKit Go.BigFrame

/-- A slice of ints that came in. -/
def Ti (w : World) (K : Nat) (A : Option Addr) (cap : Nat) (ts : List Int) : Prop := ts.length ≤ cap ∧ cap ≤ maxLen ∧ ∀ k, k < ts.length → ∃ ad : Addr, A = some ad ∧ ad.block < K ∧ w.cell? (ad.add k) = some (.int .i64 (ts.getD k 0)) ∧ -9223372036854775808 ≤ ts.getD k 0 ∧ ts.getD k 0 ≤ 9223372036854775807
theorem Ti.below {w w' : World} {K cap : Nat} {A : Option Addr} {ts : List Int} (h : Ti w K A cap ts) (hb : Below K w w') : Ti w' K A cap ts :=
  ⟨h.1, h.2.1, fun k hk => by
    obtain ⟨ad, e, hl, hc, hr⟩ := h.2.2 k hk
    exact ⟨ad, e, hl, (hb.cell (by rw [el_block_of_add]; exact hl)).trans hc, hr⟩⟩
theorem below_drewN2 {B : Nat} {a w : World} (h : Below B a w) (n : Nat) : Below B a (w.drewN n) := ⟨h.os, h.tape, h.output, h.size, h.block⟩
theorem fold_perm {op : Int} (h : op ≤ 4) {a b : List Smp} (hp : a.Perm b) : foldB op a = foldB op b := by
  have hb : badB op a = badB op b := by unfold badB; rw [hp.length_eq]
  by_cases h0 : a = []
  · subst h0
    have e : b = [] := by simpa using hp
    rw [e]
  · have h1 := perm_ne hp h0
    by_cases hnb : badB op a = true
    · unfold foldB
      rw [← hb, if_pos hnb, if_pos hnb]
    have ht : toldB op a = toldB op b := by
      by_cases h5 : op = 1 ∨ op = 2 ∨ op = 3 ∨ op = 4
      · unfold toldB
        rw [sumI_perm hp, hp.length_eq, least_perm hp h0, most_perm hp h0]
        rcases h5 with rfl | rfl | rfl | rfl <;> rfl
      · have hbad : badB op a = true := by unfold badB; simp; omega
        exact absurd hbad hnb
    unfold foldB
    rw [hb, ht, if_neg h0, if_neg h1]
set_option maxRecDepth 100000 in
set_option maxHeartbeats 6400000 in
theorem tyturns_any (A0 : Option Addr) (cap0 : Nat) (l : List Smp) (TA : Option Addr) (tc : Nat) (ts : List Int) (w : World) (h0 : Sr encS 2 w w.heap.size A0 cap0 l) (ho : ∀ u ∈ l, Sok u) (hl : l.length * 16 ≤ 140737488355328) (ht : Ti w w.heap.size TA tc ts) :
    Calls Try.prog 6 #[.slice A0 l.length cap0, .slice TA ts.length tc] w (Ok0 w) := by
  have HT := Lib.hid ht
  have htl := ht.1
  have htm := ht.2.1
  unfold maxLen at htm
  have HTo := Lib.hid (to_any w.heap.size A0 l.length cap0 l w rfl h0 (Nat.le_refl _) hl)
  have HO := Lib.hid ho
  clear h0 ho ht
  go_enter Try.func6, Try.ntmps6
  go_wp2_with fail
  refine HTo.out.mono ?_
  rintro e w2 ⟨A, cap, rfl, so1, b1⟩
  have HS2 := Lib.hid (so1.sr encS_len).1
  have HB2 := Lib.hid b1
  have hz2 := b1.size
  have hle := HS2.out.le
  have hmax := HS2.out.max
  unfold maxLen at hmax
  clear so1 b1 HTo
  go_upto_block 0 with (at_builtin; refine wpList_appE Try.underlying26 info_ts rfl (by decide) encS_len encS_one _ rfl (.tmp 20) (.tmp 21) rfl w2.heap.size (.slice (some ⟨w2.heap.size, 0, none⟩) 0 0) [] rfl (lit_so w2 w2.heap.size _ w2.heap.size rfl (Nat.le_refl _) _ 0 [] encS_len rfl rfl (by decide)) A l.length cap l rfl rfl w2.heap.size (HS2.out.alloc (Nat.le_refl _) _) l.length (by simp) (by unfold maxLen; omega) (by omega) (by simp) ?_; intro A3 c3 w3 hown3 hgrow3 hat3; have B3 : Below w2.heap.size w2 w3 := grown_belowE ((Below.refl _ _).alloc (Nat.le_refl _) _) hgrow3 (by simp) (by simp [Value.ownBlock]))
  rw [List.nil_append] at hown3
  have HO3 := Lib.hid hown3
  have HB3 := Lib.hid B3
  clear hown3 hgrow3 hat3 B3
  go_cut [6] (fun mv wr => mv = .slice A3 l.length c3 ∧ ∃ q : List Smp, So encS 2 wr w2.heap.size 46 (.slice A3 l.length c3) q ∧ q.Perm l ∧ Below w2.heap.size w2 wr)
  case first =>
    go_wp2_with fail
    go_loopw [25] (fun i wr => ∃ (k : Nat) (q : List Smp), k ≤ ts.length ∧ i = .int .i64 (k : Int) ∧ So encS 2 wr w2.heap.size 46 (.slice A3 l.length c3) q ∧ q.Perm l ∧ Below w2.heap.size w2 wr) (fun i _ => ts.length - (intOf i).toNat)
    case atStart => exact ⟨0, l, Nat.zero_le _, rfl, HO3.out, List.Perm.refl _, HB3.out⟩
    case round =>
      obtain ⟨k, q, hk, rfl, hq, hperm, hbl⟩ := hrel
      rename World => wr
      clear HO3 HB3
      have hql := hperm.length_eq
      have HQL := Lib.hid hql
      clear hql
      by_cases hgo : k < ts.length ∧ k < 50 ∧ 0 < l.length
      · obtain ⟨hk1, hk2, hn0⟩ := hgo
        rcases so_addr hq with ⟨_, _, e0⟩ | ⟨g, rfl, hgK, hgl⟩
        · have h0 : l.length = 0 := by rw [← HQL.out, e0]; rfl
          omega
        obtain ⟨td, rfl, _, htc, htr⟩ := (HT.out.below (HB2.out.trans (hbl.mono hz2))).2.2 k hk1
        generalize ts.getD k 0 = t at *
        obtain ⟨U, hu, huB⟩ := u64_of t
        obtain ⟨ia, hia, hab⟩ : ∃ ia : Nat, (k : Int) % (l.length : Int) = (ia : Int) ∧ ia < l.length := ⟨k % l.length, (Int.natCast_emod k l.length).symm, Nat.mod_lt _ hn0⟩
        obtain ⟨ib, hib, hbb⟩ : ∃ ib : Nat, (U : Int) % (l.length : Int) = (ib : Int) ∧ ib < l.length := ⟨U % l.length, (Int.natCast_emod U l.length).symm, Nat.mod_lt _ hn0⟩
        have i0 : ¬ (50 : Int) ≤ k := by omega
        have i1 : (k : Int) < ts.length := by omega
        have i2 : ((l.length : Int) == 0) = false := beq_eq_false_iff_ne.2 (by omega)
        have i3 : ¬ l.length = 0 := by omega
        obtain ⟨xa0, xa1, fa0, fa1⟩ := sm_slot hq (i := ia) (by rw [HQL.out]; exact hab)
        obtain ⟨xb0, xb1, fb0, fb1⟩ := sm_slot hq (i := ib) (by rw [HQL.out]; exact hbb)
        have hsw := fun n => sm_set (sm_set (So.drewN hq n) ia (q.getD ib nilS)) ib (q.getD ia nilS)
        have hsp := (swS_perm (l := q) (a := ia) (b := ib) (by rw [HQL.out]; exact hab) (by rw [HQL.out]; exact hbb)).trans hperm
        change ∀ n, So encS 2 _ _ _ _ (swS q ia ib) at hsw
        generalize swS q ia ib = q2 at *
        generalize (q.getD ia nilS).1 = an at *
        generalize (q.getD ia nilS).2 = av at *
        generalize (q.getD ib nilS).1 = bn at *
        generalize (q.getD ib nilS).2 = bv2 at *
        have HSW := Lib.hid hsw
        clear hsw
        have j0 : (ia : Int) < l.length := by omega
        have j1 : (ib : Int) < l.length := by omega
        by_cases hse : ia = ib
        focus
          subst hse
          obtain rfl : an = bn := by
            have h := xa0.symm.trans xb0
            injection h with h
            injection h
          obtain rfl : av = bv2 := by
            have h := xa1.symm.trans xb1
            injection h with h
            injection h
          clear xb0 xb1 fb0 fb1
          go_wp2_with fail
          go_quiet (fail)
          go_wp2_with fail
          go_region
        rotate_left
        focus
          have hse2 : ¬ ib = ia := fun e => hse e.symm
          have d1 : ¬ ia * 2 + 1 = ib * 2 := by omega
          have d2 : ¬ ib * 2 = ia * 2 + 1 := by omega
          have d3 : ¬ ib * 2 + 1 = ia * 2 := by omega
          have d4 : ¬ ia * 2 = ib * 2 + 1 := by omega
          go_wp2_with fail
          go_quiet (fail)
          go_wp2_with fail
          go_region
        all_goals
          generalize hW : (World.setCell _ _ _ : World) = W'
          have hla : So encS 2 W' w2.heap.size 46 (.slice (some ⟨g, 0, none⟩) l.length c3) q2 := by rw [← hW]; exact HSW.out _
          have hB : Below w2.heap.size w2 W' := by rw [← hW]; exact ((((below_drewN2 hbl _).setCell hgK _).setCell hgK _).setCell hgK _).setCell hgK _
          clear hW HSW hbl hq xa0 xa1 fa0 fa1 hia hu huB htc htr
          try clear xb0 xb1 fb0 fb1 hib
          go_wp2_with fail
          go_roundw
          case rel => exact ⟨k + 1, q2, by omega, by go_num, hla, hsp, hB⟩
          case measure => simp [intOf]; omega
      · have HQ := Lib.hid hq
        have HP := Lib.hid hperm
        have HBL := Lib.hid hbl
        have HTX := Lib.hid ((HT.out.below (HB2.out.trans (hbl.mono hz2))).2.2 k)
        clear hq hperm hbl
        by_cases hk1 : k < ts.length
        · obtain ⟨td, rfl, _, htc, htr⟩ := HTX.out hk1
          generalize ts.getD k 0 = t at *
          have i1 : (k : Int) < ts.length := by omega
          by_cases hk2 : 50 ≤ k
          · have i2 : (50 : Int) ≤ k := by omega
            go_wp2_with fail
            go_meet
            exact ⟨rfl, q, HQ.out, HP.out, HBL.out⟩
          · have i2 : ¬ (50 : Int) ≤ k := by omega
            have hz : l.length = 0 := by omega
            have i3 : ((l.length : Int) == 0) = true := by rw [hz]; rfl
            clear hz
            go_wp2_with fail
            go_meet
            exact ⟨rfl, q, HQ.out, HP.out, HBL.out⟩
        · have i1 : ¬ (k : Int) < ts.length := by omega
          go_wp2_with fail
          go_meet
          exact ⟨rfl, q, HQ.out, HP.out, HBL.out⟩
  case rest =>
    obtain ⟨rfl, q, hq, hperm, hbl⟩ := hcut
    rename World => wx
    have hql := hperm.length_eq
    have F1 := fun (op : Int) W (h : Below wx.heap.size wx W) => fold_any op w2.heap.size A l.length cap l W rfl ((HS2.out.below hbl).below (h.mono hbl.size)) (Nat.le_trans hbl.size h.size) HO.out
    have F2 := fun (op : Int) (h4 : op ≤ 4) W (h : Below wx.heap.size wx W) => (fold_perm h4 hperm) ▸ fold_any op wx.heap.size A3 l.length c3 q W hql ((hq.sr encS_len).1.below h) h.size (fun u hu => HO.out u (hperm.subset hu))
    have G1 := Lib.hid F1
    have G2 := Lib.hid F2
    have HBX := Lib.hid (HB2.out.trans (hbl.mono hz2))
    clear F1 F2 hq hql hbl hperm HO3 HB3 HS2 HT HB2 HO
    go_wp2_with fail
    go_loopw [11] (fun i wr => ∃ k : Nat, 1 ≤ k ∧ k ≤ 5 ∧ i = .int .i64 (k : Int) ∧ Below wx.heap.size wx wr) (fun i _ => 5 - (intOf i).toNat)
    case atStart => exact ⟨1, by omega, by omega, rfl, Below.refl _ _⟩
    case round =>
      obtain ⟨k, hk1, hk5, rfl, hbl⟩ := hrel
      rename World => wr
      have HR := Lib.hid hbl
      clear hbl
      by_cases hk : k = 5
      · subst hk
        go_wp2_with fail
        refine (awake_any _).mono ?_
        rintro e w6 ⟨rfl, b6⟩
        go_wp2_with fail
        go_ret
        exact ⟨rfl, HBX.out.trans ((HR.out.trans (b6.mono HR.out.size)).mono HBX.out.size)⟩
      have hk4 : (k : Int) ≤ 4 := by omega
      have HF1 := Lib.hid (G1.out (k : Int))
      have HF2 := Lib.hid (G2.out (k : Int) hk4)
      generalize foldB (k : Int) l = p at *
      obtain ⟨p1, p2, p3⟩ := p
      clear G1 G2
      go_wp2_with fail
      refine (HF1.out _ HR.out).mono ?_
      rintro e w6 ⟨rfl, b6⟩
      have HR6 := Lib.hid (HR.out.trans (b6.mono HR.out.size))
      clear b6
      go_wp2_with fail
      refine (HF2.out _ HR6.out).mono ?_
      rintro e w7 ⟨rfl, b7⟩
      have HR7 := Lib.hid (HR6.out.trans (b7.mono HR6.out.size))
      clear b7 HF1 HF2 HR HR6
      go_wp2_with fail
      go_roundw
      case rel => exact ⟨k + 1, by omega, by omega, by go_num, HR7.out⟩
      case measure => simp [intOf]; omega
end Go.Proofs.Ytckbpajphfbaoaa
