/- ChainOrder: its walk. -/
import Derived.Test.YtbeclajbpfglgaaCoM
import Derived.Deep.CutBlock
namespace Go.Proofs.Ytbeclajbpfglgaa
open Go.RowKit Go.BigFrame

/-- A slice of ints that came in. -/
def Ti (w : World) (K : Nat) (A : Option Addr) (cap : Nat) (ts : List Int) : Prop := ts.length ≤ cap ∧ cap ≤ maxLen ∧ ∀ k, k < ts.length → ∃ ad : Addr, A = some ad ∧ ad.block < K ∧ w.cell? (ad.add k) = some (.int .i64 (ts.getD k 0)) ∧ -9223372036854775808 ≤ ts.getD k 0 ∧ ts.getD k 0 ≤ 9223372036854775807
theorem Ti.below {w w' : World} {K cap : Nat} {A : Option Addr} {ts : List Int} (h : Ti w K A cap ts) (hb : Below K w w') : Ti w' K A cap ts :=
  ⟨h.1, h.2.1, fun k hk => by
    obtain ⟨ad, e, hl, hc, hr⟩ := h.2.2 k hk
    exact ⟨ad, e, hl, (hb.cell (by rw [el_block_of_add]; exact hl)).trans hc, hr⟩⟩
theorem u64_of (t : Int) : ∃ U : Nat, IntKind.u64.wrap t = (U : Int) ∧ U < 18446744073709551616 := by
  refine ⟨(t % 18446744073709551616).toNat, ?_, by omega⟩
  simp [IntKind.wrap, IntKind.bits, IntKind.signed]
  omega
/-- The second chain so far. -/
structure Oq (w2 wr : World) (q : List Ve) (i : Nat) (A : Option Addr) (ca : Nat) (d : List Ve) : Prop where
  sr : Sr encV 6 wr wr.heap.size A ca d
  chn : Chn d
  pm : d.Perm (q.take i)
  bel : Below w2.heap.size w2 wr
theorem Oq.below {w2 wr w' : World} {q d : List Ve} {i ca : Nat} {A : Option Addr} (h : Oq w2 wr q i A ca d) (hb : Below wr.heap.size wr w') : Oq w2 w' q i A ca d :=
  ⟨(h.sr.below hb).more hb.size, h.chn, h.pm, h.bel.trans (hb.mono h.bel.size)⟩
theorem below_drewN2 {B : Nat} {a w : World} (h : Below B a w) (n : Nat) : Below B a (w.drewN n) := ⟨h.os, h.tape, h.output, h.size, h.block⟩
set_option maxRecDepth 100000 in
set_option maxHeartbeats 12800000 in
theorem corder_any (A0 : Option Addr) (cap0 : Nat) (l : List Ve) (TA : Option Addr) (tc : Nat) (ts : List Int) (w : World) (h0 : Sr encV 6 w w.heap.size A0 cap0 l) (ho0 : ∀ u ∈ l, Vok u) (ht : Ti w w.heap.size TA tc ts) :
    Calls Try.prog 5 #[.slice A0 l.length cap0, .slice TA ts.length tc] w (Ok0 w) := by
  have HT := Lib.hid ht
  have htl := ht.1
  have htm := ht.2.1
  unfold maxLen at htm
  have HMD := Lib.hid (made_any A0 cap0 l w h0 ho0)
  clear h0 ho0 ht
  go_enter Try.func5, Try.ntmps5
  go_wp2_with fail
  refine HMD.out.mono ?_
  rintro e w1 ⟨A, cap, B, cap2, c, rfl, hc60, M1⟩
  have HM1 := Lib.hid M1
  clear M1 HMD
  go_wp2_with fail
  refine (cawake_any _).mono ?_
  rintro e w2 ⟨rfl, hb⟩
  have HM2 := Lib.hid (HM1.out.below hb)
  clear hb HM1
  have hz2 : w.heap.size ≤ w2.heap.size := HM2.out.bel.size
  go_upto_block 0 with (at_builtin; refine wpList_appE Try.underlying35 info_cv rfl (by decide) encV_len encV_one _ rfl (.tmp 30) (.tmp 31) rfl w2.heap.size (.slice (some ⟨w2.heap.size, 0, none⟩) 0 0) [] rfl (lit_so w2 w2.heap.size _ w2.heap.size rfl (Nat.le_refl _) _ 0 [] encV_len rfl rfl (by decide)) A c.length cap c rfl rfl w2.heap.size (HM2.out.s1.alloc (Nat.le_refl _) _) c.length (by simp) (by unfold maxLen; omega) (by omega) (by simp) ?_; intro A3 c3 w3 hown3 hgrow3 hat3; have B3 : Below w2.heap.size w2 w3 := grown_belowE ((Below.refl _ _).alloc (Nat.le_refl _) _) hgrow3 (by simp) (by simp [Value.ownBlock]))
  rw [List.nil_append] at hown3
  have HO3 := Lib.hid hown3
  have HB3 := Lib.hid B3
  clear hown3 hgrow3 hat3 B3
  go_cut [8] (fun mv wr => mv = .slice A3 c.length c3 ∧ ∃ q : List Ve, So encV 6 wr w2.heap.size 31 (.slice A3 c.length c3) q ∧ q.Perm c ∧ Below w2.heap.size w2 wr)
  case first =>
    go_wp2_with fail
    go_loopw [35] (fun i wr => ∃ (k : Nat) (q : List Ve), k ≤ ts.length ∧ i = .int .i64 (k : Int) ∧ So encV 6 wr w2.heap.size 31 (.slice A3 c.length c3) q ∧ q.Perm c ∧ Below w2.heap.size w2 wr) (fun i _ => ts.length - (intOf i).toNat)
    case atStart => exact ⟨0, c, Nat.zero_le _, rfl, HO3.out, List.Perm.refl _, HB3.out⟩
    case round =>
      obtain ⟨k, q, hk, rfl, hq, hperm, hbl⟩ := hrel
      rename World => wr
      clear HO3 HB3
      have hql := hperm.length_eq
      have HQL := Lib.hid hql
      clear hql
      by_cases hgo : k < ts.length ∧ k < 50 ∧ 0 < c.length
      · obtain ⟨hk1, hk2, hn0⟩ := hgo
        rcases (vs_addr hq).2 with ⟨_, _, e0⟩ | ⟨g, rfl, hgK, hgl⟩
        · have h0 : c.length = 0 := by rw [← HQL.out, e0]; rfl
          omega
        obtain ⟨td, rfl, _, htc, htr⟩ := (HT.out.below ((HM2.out.bel.trans (hbl.mono HM2.out.bel.size)))).2.2 k hk1
        generalize ts.getD k 0 = t at *
        obtain ⟨U, hu, huB⟩ := u64_of t
        obtain ⟨ia, hia, hab⟩ : ∃ ia : Nat, (k : Int) % (c.length : Int) = (ia : Int) ∧ ia < c.length := ⟨k % c.length, (Int.natCast_emod k c.length).symm, Nat.mod_lt _ hn0⟩
        obtain ⟨ib, hib, hbb⟩ : ∃ ib : Nat, (U : Int) % (c.length : Int) = (ib : Int) ∧ ib < c.length := ⟨U % c.length, (Int.natCast_emod U c.length).symm, Nat.mod_lt _ hn0⟩
        have i0 : ¬ (50 : Int) ≤ k := by omega
        have i1 : (k : Int) < ts.length := by omega
        have i2 : ((c.length : Int) == 0) = false := beq_eq_false_iff_ne.2 (by omega)
        have i3 : ¬ c.length = 0 := by omega
        have hla : ia < q.length := by rw [HQL.out]; exact hab
        have hlb : ib < q.length := by rw [HQL.out]; exact hbb
        have hsw := fun n => vs_set (vs_set (So.drewN hq n) ia (q.getD ib nilV)) ib (q.getD ia nilV)
        have hsp := (swV_perm hla hlb).trans hperm
        change ∀ n, So encV 6 _ _ _ _ (swV q ia ib) at hsw
        have hqxa : q[ia]? = some (q.getD ia nilV) := by rw [getDV hla]; exact List.getElem?_eq_getElem hla
        have hqxb : q[ib]? = some (q.getD ib nilV) := by rw [getDV hlb]; exact List.getElem?_eq_getElem hlb
        generalize swV q ia ib = q2 at *
        generalize q.getD ia nilV = xa at *
        generalize q.getD ib nilV = xb at *
        have HSW := Lib.hid hsw
        clear hsw
        have j0 : (ia : Int) < c.length := by omega
        have j1 : (ib : Int) < c.length := by omega
        by_cases hse : ia = ib
        focus
          subst hse
          obtain rfl : xa = xb := by
            have h := hqxa.symm.trans hqxb
            injection h
          clear hqxb
          have hsxa := vs_slot hq (i := ia) (x := xa) hqxa
          have xa0 : wr.cell? ⟨g, ia * 6, none⟩ = some (.int .i64 xa.w) := hsxa.1 0 _ rfl
          have xa1 := hsxa.1 1 _ rfl
          have xa2 := hsxa.1 2 _ rfl
          have xa3 := hsxa.1 3 _ rfl
          have xa4 := hsxa.1 4 _ rfl
          have xa5 := hsxa.1 5 _ rfl
          have fxa0 := hsxa.2 (ia * 6)
          have fxa1 := hsxa.2 (ia * 6 + 1)
          have fxa2 := hsxa.2 (ia * 6 + 2)
          have fxa3 := hsxa.2 (ia * 6 + 3)
          have fxa4 := hsxa.2 (ia * 6 + 4)
          have fxa5 := hsxa.2 (ia * 6 + 5)
          clear hsxa
          clear hqxa hla hlb
          go_wp2_with fail
          go_quiet (fail)
          go_wp2_with fail
          go_region
        rotate_left
        focus
          have hse2 : ¬ ib = ia := fun e => hse e.symm
          have da01 : ¬ ia * 6 = ib * 6 + 1 := by omega
          have db01 : ¬ ib * 6 = ia * 6 + 1 := by omega
          have da02 : ¬ ia * 6 = ib * 6 + 2 := by omega
          have db02 : ¬ ib * 6 = ia * 6 + 2 := by omega
          have da03 : ¬ ia * 6 = ib * 6 + 3 := by omega
          have db03 : ¬ ib * 6 = ia * 6 + 3 := by omega
          have da04 : ¬ ia * 6 = ib * 6 + 4 := by omega
          have db04 : ¬ ib * 6 = ia * 6 + 4 := by omega
          have da05 : ¬ ia * 6 = ib * 6 + 5 := by omega
          have db05 : ¬ ib * 6 = ia * 6 + 5 := by omega
          have da10 : ¬ ia * 6 + 1 = ib * 6 := by omega
          have db10 : ¬ ib * 6 + 1 = ia * 6 := by omega
          have da12 : ¬ ia * 6 + 1 = ib * 6 + 2 := by omega
          have db12 : ¬ ib * 6 + 1 = ia * 6 + 2 := by omega
          have da13 : ¬ ia * 6 + 1 = ib * 6 + 3 := by omega
          have db13 : ¬ ib * 6 + 1 = ia * 6 + 3 := by omega
          have da14 : ¬ ia * 6 + 1 = ib * 6 + 4 := by omega
          have db14 : ¬ ib * 6 + 1 = ia * 6 + 4 := by omega
          have da15 : ¬ ia * 6 + 1 = ib * 6 + 5 := by omega
          have db15 : ¬ ib * 6 + 1 = ia * 6 + 5 := by omega
          have da20 : ¬ ia * 6 + 2 = ib * 6 := by omega
          have db20 : ¬ ib * 6 + 2 = ia * 6 := by omega
          have da21 : ¬ ia * 6 + 2 = ib * 6 + 1 := by omega
          have db21 : ¬ ib * 6 + 2 = ia * 6 + 1 := by omega
          have da23 : ¬ ia * 6 + 2 = ib * 6 + 3 := by omega
          have db23 : ¬ ib * 6 + 2 = ia * 6 + 3 := by omega
          have da24 : ¬ ia * 6 + 2 = ib * 6 + 4 := by omega
          have db24 : ¬ ib * 6 + 2 = ia * 6 + 4 := by omega
          have da25 : ¬ ia * 6 + 2 = ib * 6 + 5 := by omega
          have db25 : ¬ ib * 6 + 2 = ia * 6 + 5 := by omega
          have da30 : ¬ ia * 6 + 3 = ib * 6 := by omega
          have db30 : ¬ ib * 6 + 3 = ia * 6 := by omega
          have da31 : ¬ ia * 6 + 3 = ib * 6 + 1 := by omega
          have db31 : ¬ ib * 6 + 3 = ia * 6 + 1 := by omega
          have da32 : ¬ ia * 6 + 3 = ib * 6 + 2 := by omega
          have db32 : ¬ ib * 6 + 3 = ia * 6 + 2 := by omega
          have da34 : ¬ ia * 6 + 3 = ib * 6 + 4 := by omega
          have db34 : ¬ ib * 6 + 3 = ia * 6 + 4 := by omega
          have da35 : ¬ ia * 6 + 3 = ib * 6 + 5 := by omega
          have db35 : ¬ ib * 6 + 3 = ia * 6 + 5 := by omega
          have da40 : ¬ ia * 6 + 4 = ib * 6 := by omega
          have db40 : ¬ ib * 6 + 4 = ia * 6 := by omega
          have da41 : ¬ ia * 6 + 4 = ib * 6 + 1 := by omega
          have db41 : ¬ ib * 6 + 4 = ia * 6 + 1 := by omega
          have da42 : ¬ ia * 6 + 4 = ib * 6 + 2 := by omega
          have db42 : ¬ ib * 6 + 4 = ia * 6 + 2 := by omega
          have da43 : ¬ ia * 6 + 4 = ib * 6 + 3 := by omega
          have db43 : ¬ ib * 6 + 4 = ia * 6 + 3 := by omega
          have da45 : ¬ ia * 6 + 4 = ib * 6 + 5 := by omega
          have db45 : ¬ ib * 6 + 4 = ia * 6 + 5 := by omega
          have da50 : ¬ ia * 6 + 5 = ib * 6 := by omega
          have db50 : ¬ ib * 6 + 5 = ia * 6 := by omega
          have da51 : ¬ ia * 6 + 5 = ib * 6 + 1 := by omega
          have db51 : ¬ ib * 6 + 5 = ia * 6 + 1 := by omega
          have da52 : ¬ ia * 6 + 5 = ib * 6 + 2 := by omega
          have db52 : ¬ ib * 6 + 5 = ia * 6 + 2 := by omega
          have da53 : ¬ ia * 6 + 5 = ib * 6 + 3 := by omega
          have db53 : ¬ ib * 6 + 5 = ia * 6 + 3 := by omega
          have da54 : ¬ ia * 6 + 5 = ib * 6 + 4 := by omega
          have db54 : ¬ ib * 6 + 5 = ia * 6 + 4 := by omega
          have hsxa := vs_slot hq (i := ia) (x := xa) hqxa
          have xa0 : wr.cell? ⟨g, ia * 6, none⟩ = some (.int .i64 xa.w) := hsxa.1 0 _ rfl
          have xa1 := hsxa.1 1 _ rfl
          have xa2 := hsxa.1 2 _ rfl
          have xa3 := hsxa.1 3 _ rfl
          have xa4 := hsxa.1 4 _ rfl
          have xa5 := hsxa.1 5 _ rfl
          have fxa0 := hsxa.2 (ia * 6)
          have fxa1 := hsxa.2 (ia * 6 + 1)
          have fxa2 := hsxa.2 (ia * 6 + 2)
          have fxa3 := hsxa.2 (ia * 6 + 3)
          have fxa4 := hsxa.2 (ia * 6 + 4)
          have fxa5 := hsxa.2 (ia * 6 + 5)
          clear hsxa
          have hsxb := vs_slot hq (i := ib) (x := xb) hqxb
          have xb0 : wr.cell? ⟨g, ib * 6, none⟩ = some (.int .i64 xb.w) := hsxb.1 0 _ rfl
          have xb1 := hsxb.1 1 _ rfl
          have xb2 := hsxb.1 2 _ rfl
          have xb3 := hsxb.1 3 _ rfl
          have xb4 := hsxb.1 4 _ rfl
          have xb5 := hsxb.1 5 _ rfl
          have fxb0 := hsxb.2 (ib * 6)
          have fxb1 := hsxb.2 (ib * 6 + 1)
          have fxb2 := hsxb.2 (ib * 6 + 2)
          have fxb3 := hsxb.2 (ib * 6 + 3)
          have fxb4 := hsxb.2 (ib * 6 + 4)
          have fxb5 := hsxb.2 (ib * 6 + 5)
          clear hsxb
          clear hqxa hqxb hla hlb
          go_wp2_with fail
          go_quiet (fail)
          go_wp2_with fail
          go_region
        all_goals
          generalize hW : (World.setCell _ _ _ : World) = W'
          have hla : So encV 6 W' w2.heap.size 31 (.slice (some ⟨g, 0, none⟩) c.length c3) q2 := by rw [← hW]; exact HSW.out _
          have hB : Below w2.heap.size w2 W' := by rw [← hW]; exact put6_below (put6_below (below_drewN2 hbl _) hgK) hgK
          clear hW HSW
          go_wp2_with fail
          go_roundw
          case rel => exact ⟨k + 1, q2, by omega, by go_num, hla, hsp, hB⟩
          case measure => simp [intOf]; omega
      · have HQ := Lib.hid hq
        have HP := Lib.hid hperm
        have HBL := Lib.hid hbl
        have HTX := Lib.hid ((HT.out.below ((HM2.out.bel.trans (hbl.mono HM2.out.bel.size)))).2.2 k)
        clear hq hperm hbl
        by_cases hk1 : k < ts.length
        · obtain ⟨td, rfl, _, htc, htr⟩ := HTX.out hk1
          generalize ts.getD k 0 = t at *
          have i1 : (k : Int) < ts.length := by omega
          by_cases hk2 : 50 ≤ k
          · have i2 : (50 : Int) ≤ k := by omega
            go_wp2_with fail
            go_meet
            exact ⟨rfl, q, HQ.out, HP.out, HBL.out⟩
          · have i2 : ¬ (50 : Int) ≤ k := by omega
            have hz : c.length = 0 := by omega
            have i3 : ((c.length : Int) == 0) = true := by rw [hz]; rfl
            clear hz
            go_wp2_with fail
            go_meet
            exact ⟨rfl, q, HQ.out, HP.out, HBL.out⟩
        · have i1 : ¬ (k : Int) < ts.length := by omega
          go_wp2_with fail
          go_meet
          exact ⟨rfl, q, HQ.out, HP.out, HBL.out⟩
  case rest =>
    obtain ⟨rfl, q, hq, hperm, hbl⟩ := hcut
    rename World => wx
    have hlen := hperm.length_eq
    have hsq := (hq.sr encV_len).1
    have HSQ := Lib.hid hsq
    have HMX := Lib.hid (HM2.out.below hbl)
    have HPM := Lib.hid hperm
    clear hq hsq hbl hperm HO3 HB3 HM2
    go_wp2_with fail
    go_loopw [75, 13] (fun iv dv wr => ∃ (i : Nat) (A5 : Option Addr) (c5 : Nat) (d : List Ve), iv = .int .i64 (i : Int) ∧ dv = .slice A5 d.length c5 ∧ i ≤ c.length ∧ Oq wx wr q i A5 c5 d) (fun iv _ _ => c.length - (intOf iv).toNat)
    case atStart => exact ⟨0, none, 0, [], rfl, rfl, Nat.zero_le _, ⟨Sr.none_ _ _, by simp [Chn], by simp, Below.refl _ _⟩⟩
    case round =>
      obtain ⟨i, A5, c5, d, rfl, rfl, hi, O⟩ := hrel
      rename World => W0
      have hdl : d.length ≤ 60 := by have := O.pm.length_eq; simp at this; omega
      have HO := Lib.hid O
      clear O
      by_cases hlt : i < c.length
      · have hlq : i < q.length := by omega
        obtain ⟨hp, hch, hpm⟩ := next_put HMX.out.chn HPM.out HMX.out.rt hlq HO.out.pm
        have hch2 := hch HO.out.chn
        have hokd : ∀ u ∈ d, Vok u := fun u hu => HMX.out.ok u (HPM.out.subset (List.mem_of_mem_take (HO.out.pm.subset hu)))
        have hokv : Vok q[i] := HMX.out.ok _ (HPM.out.subset (List.getElem_mem hlq))
        obtain ⟨ad, hA, hbK, g0, g1⟩ := (HSQ.out.below HO.out.bel).get2 hlq
        subst hA
        generalize q[i] = v at *
        have u0 := g0 _ rfl
        have u1 := g1 1 (.int .u32 v.t) (by decide) rfl
        have u2 := g1 2 (.int .u32 v.m) (by decide) rfl
        have u3 := g1 3 (.int .i64 v.k) (by decide) rfl
        have u4 := g1 4 (.int .i64 v.n) (by decide) rfl
        have u5 := g1 5 (.string v.x) (by decide) rfl
        obtain ⟨d', hd'⟩ : ∃ d', d' = insV d v := ⟨_, rfl⟩
        rw [← hd'] at hp hch2 hpm
        have HPT := Lib.hid (fun (W : World) (h : Oq wx W q i A5 c5 d) => hp ▸ put_any h.sr (Nat.le_refl _) hokd h.chn (by omega) hokv)
        have HCH := Lib.hid hch2
        have HPP := Lib.hid hpm
        have HO1 := Lib.hid (HO.out.below ((Below.refl W0.heap.size W0).alloc (Nat.le_refl _) (.cells #[.int .i64 v.w, .int .u32 v.t, .int .u32 v.m, .int .i64 v.k, .int .i64 v.n, .string v.x] 31)))
        clear g0 g1 hp hch hch2 hpm hokd hokv hd'
        go_wp2_with fail
        refine (HPT.out _ HO1.out).mono ?_
        rintro e w5 ⟨A6, c6, rfl, s6, hb, _⟩
        have HO2 : Hid (Oq wx w5 q (i + 1) A6 c6 d') := Lib.hid ⟨s6, HCH.out, HPP.out, (HO1.out.below hb).bel⟩
        clear hb s6
        go_wp2
        go_roundw
        case rel => exact ⟨i + 1, A6, c6, d', by go_num, rfl, by omega, HO2.out⟩
        case measure => simp [intOf]; omega
      · obtain rfl : i = c.length := by omega
        have e : d = c := by
          have h1 := HO.out.pm
          rw [← hlen, List.take_length] at h1
          exact chn_perm_eq (h1.trans HPM.out) HO.out.chn HMX.out.chn
        subst e
        have HMW := Lib.hid (HMX.out.below HO.out.bel)
        have HSD := Lib.hid HO.out.sr
        clear HO hi
        go_wp2_with fail
        refine (back_any HMW.out.s1 (Nat.le_refl _) (by omega)).mono ?_
        rintro e w6 ⟨A7, c7, rfl, s7, hb⟩
        have HS7 := Lib.hid (s7.sr encV_len).1
        have HSD6 := Lib.hid ((HSD.out.below hb).more hb.size)
        have HB6 := Lib.hid (HMW.out.bel.trans (hb.mono HMW.out.bel.size))
        clear s7 hb
        go_wp2_with fail
        refine (back_any HSD6.out (Nat.le_refl _) (by omega)).mono ?_
        rintro e w7 ⟨A8, c8, rfl, s8, hb⟩
        have HS77 := Lib.hid ((HS7.out.below hb).more hb.size)
        have HS8 := Lib.hid (s8.sr encV_len).1
        have HB7 := Lib.hid (HB6.out.trans (hb.mono HB6.out.size))
        clear s8 hb
        go_wp2_with fail
        refine (same_any HS77.out HS8.out (Nat.le_refl _)).mono ?_
        rintro e w8 ⟨rfl, hb⟩
        have HB8 := HB7.out.trans (hb.mono HB7.out.size)
        go_wp2
        go_ret
        exact ⟨rfl, HB8⟩
end Go.Proofs.Ytbeclajbpfglgaa
