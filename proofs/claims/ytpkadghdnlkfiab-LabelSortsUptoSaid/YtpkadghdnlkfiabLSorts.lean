/- The law LabelSorts: its walk. -/
import Derived.Test.YtpkadghdnlkfiabLbA
import Derived.Test.YtpkadghdnlkfiabLbK
import Derived.Test.YtpkadghdnlkfiabLbLM
import Derived.Test.YtpkadghdnlkfiabLSw
import Derived.Test.YtpkadghdnlkfiabLSoM
namespace Go.Proofs.Ytpkadghdnlkfiab
open Go.RowKit

/-- A slice of ints that came in. -/
def Ti (w : World) (K : Nat) (A : Option Addr) (cap : Nat) (ts : List Int) : Prop := ts.length ≤ cap ∧ cap ≤ maxLen ∧ ∀ k, k < ts.length → ∃ ad : Addr, A = some ad ∧ ad.block < K ∧ w.cell? (ad.add k) = some (.int .i64 (ts.getD k 0)) ∧ -9223372036854775808 ≤ ts.getD k 0 ∧ ts.getD k 0 ≤ 9223372036854775807
theorem Ti.below {w w' : World} {K cap : Nat} {A : Option Addr} {ts : List Int} (h : Ti w K A cap ts) (hb : Below K w w') : Ti w' K A cap ts :=
  ⟨h.1, h.2.1, fun k hk => by
    obtain ⟨ad, e, hl, hc, hr⟩ := h.2.2 k hk
    exact ⟨ad, e, hl, (hb.cell (by rw [el_block_of_add]; exact hl)).trans hc, hr⟩⟩

theorem tmod_nat (a b : Nat) : ((a : Int)).tmod (b : Int) = ((a % b : Nat) : Int) := by
  rw [Int.tmod_eq_emod_of_nonneg (by omega)]
  exact (Int.natCast_emod a b).symm
theorem u64_of (t : Int) : ∃ U : Nat, IntKind.u64.wrap t = (U : Int) ∧ U < 18446744073709551616 := by
  refine ⟨(t % 18446744073709551616).toNat, ?_, by omega⟩
  simp [IntKind.wrap, IntKind.bits, IntKind.signed]
  omega

set_option maxRecDepth 100000 in
set_option maxHeartbeats 6400000 in
theorem sorts_any (K : Nat) (A B : Option Addr) (ac bc : Nat) (l : List Pp) (ts : List Int) (w : World) (hp : Lr w K A ac l) (ht : Ti w K B bc ts) (hK : K ≤ w.heap.size) (hS : Sm l) (hl : l.length ≤ 1048576) :
    Calls Try.prog 4 #[.slice A l.length ac, .slice B ts.length bc] w fun e w' => e = .returned (.bool true) ∧ Below w.heap.size w w' := by
  have HP := Lib.hid hp
  have HT := Lib.hid ht
  have HS := Lib.hid hS
  have htl := ht.1
  have htm := ht.2.1
  unfold maxLen at htm
  clear hp ht hS
  go_enter Try.func4, Try.ntmps4
  go_wp2_with fail
  refine (to_any K A l.length ac l w rfl HP.out hK (by omega)).mono ?_
  rintro e w1 ⟨A1, c1, rfl, ha1, hb1⟩
  have z1 := hb1.size
  have hx1 := (So.sr encP_len ha1).1
  go_wp2_with fail
  refine (make_any w1.heap.size A1 l.length c1 l w1 rfl hx1 (Nat.le_refl _) HS.out hl).mono ?_
  rintro e w2 ⟨A2, c2, rfl, ha2, hb2⟩
  have B2 := hb1.trans (hb2.mono z1)
  have z2 := B2.size
  clear ha1 hx1 hb1 hb2
  go_wp2_with fail
  refine (to_any K A l.length ac l w2 rfl (HP.out.below (B2.mono hK)) (by omega) (by omega)).mono ?_
  rintro e w3 ⟨A3, c3, rfl, ha3, hb3⟩
  go_wp2_with fail
  go_loopw [28] (fun i wr => ∃ (k : Nat) (q : List Pp), k ≤ ts.length ∧ i = .int .i64 k ∧ La wr w2.heap.size (.slice A3 l.length c3) q ∧ q.Perm l ∧ Below w2.heap.size w2 wr) (fun i _ => ts.length - (intOf i).toNat)
  case atStart => exact ⟨0, l, Nat.zero_le _, rfl, ha3, List.Perm.refl _, hb3⟩
  case round =>
    obtain ⟨k, q, hk, rfl, hq, hperm, hbl⟩ := hrel
    clear ha3 hb3
    have z := hbl.size
    have hql := hperm.length_eq
    have HQL := Lib.hid hql
    clear hql
    by_cases hgo : k < ts.length ∧ k < 50 ∧ 0 < l.length
    · obtain ⟨hk1, hk2, hn0⟩ := hgo
      rcases so_addr hq with ⟨_, _, e0, _⟩ | ⟨g, rfl, hgK, hgl⟩
      · have h0 : l.length = 0 := by rw [← HQL.out, e0]; rfl
        omega
      obtain ⟨td, rfl, _, htc, htr⟩ := (HT.out.below ((B2.mono hK).trans (hbl.mono (Nat.le_trans hK z2)))).2.2 k hk1
      generalize ts.getD k 0 = t at *
      obtain ⟨U, hu, huB⟩ := u64_of t
      obtain ⟨ia, hia, hab⟩ : ∃ ia : Nat, (k : Int) % (l.length : Int) = (ia : Int) ∧ ia < l.length := ⟨k % l.length, (Int.natCast_emod k l.length).symm, Nat.mod_lt _ hn0⟩
      obtain ⟨ib, hib, hbb⟩ : ∃ ib : Nat, (U : Int) % (l.length : Int) = (ib : Int) ∧ ib < l.length := ⟨U % l.length, (Int.natCast_emod U l.length).symm, Nat.mod_lt _ hn0⟩
      have i0 : ¬ (50 : Int) ≤ k := by omega
      have i1 : (k : Int) < ts.length := by omega
      have i2 : ((l.length : Int) == 0) = false := beq_eq_false_iff_ne.2 (by omega)
      have i3 : ¬ l.length = 0 := by omega
      obtain ⟨xa0, xa1, fa0, fa1⟩ := la_slot hq (i := ia) (by rw [HQL.out]; exact hab)
      obtain ⟨xb0, xb1, fb0, fb1⟩ := la_slot hq (i := ib) (by rw [HQL.out]; exact hbb)
      have hsw := fun n => la_set (la_set (So.drewN hq n) ia (q.getD ib nilP)) ib (q.getD ia nilP)
      have hsp := (swL_perm (l := q) (a := ia) (b := ib) (by rw [HQL.out]; exact hab) (by rw [HQL.out]; exact hbb)).trans hperm
      change ∀ n, La _ _ _ (swL q ia ib) at hsw
      generalize swL q ia ib = q2 at *
      generalize (q.getD ia nilP).1 = an at *
      generalize (q.getD ia nilP).2 = av at *
      generalize (q.getD ib nilP).1 = bn at *
      generalize (q.getD ib nilP).2 = bv2 at *
      have HSW := Lib.hid hsw
      clear hsw
      have j0 : (ia : Int) < l.length := by omega
      have j1 : (ib : Int) < l.length := by omega
      by_cases hse : ia = ib
      focus
        subst hse
        obtain rfl : an = bn := by
          have h := xa0.symm.trans xb0
          injection h with h
          injection h
        obtain rfl : av = bv2 := by
          have h := xa1.symm.trans xb1
          injection h with h
          injection h
        clear xb0 xb1 fb0 fb1
        go_wp2_with fail
        go_quiet (fail)
        go_wp2_with fail
        go_region
      rotate_left
      focus
        have hse2 : ¬ ib = ia := fun e => hse e.symm
        have d1 : ¬ ia * 2 + 1 = ib * 2 := by omega
        have d2 : ¬ ib * 2 = ia * 2 + 1 := by omega
        have d3 : ¬ ib * 2 + 1 = ia * 2 := by omega
        have d4 : ¬ ia * 2 = ib * 2 + 1 := by omega
        go_wp2_with fail
        go_quiet (fail)
        go_wp2_with fail
        go_region
      all_goals
        generalize hW : (World.setCell _ _ _ : World) = W'
        have hla : La W' w2.heap.size (.slice (some ⟨g, 0, none⟩) l.length c3) q2 := by rw [← hW]; exact HSW.out _
        have hB : Below w2.heap.size w2 W' := by rw [← hW]; exact ((((below_drewN hbl _).setCell hgK _).setCell hgK _).setCell hgK _).setCell hgK _
        clear hW HSW hbl hq xa0 xa1 fa0 fa1 hia hu huB htc htr
        try clear xb0 xb1 fb0 fb1 hib
        go_wp2_with fail
        go_roundw
        case rel => exact ⟨k + 1, q2, by omega, by go_num, hla, hsp, hB⟩
        case measure => simp [intOf]; omega
    · have hmp := make_perm hperm
      have hmq := make_any wr.heap.size A3 l.length c3 q wr HQL.out (So.sr encP_len hq).1 (Nat.le_refl _) (HS.out.perm hperm) (by rw [HQL.out]; exact hl)
      unfold MakePost at hmq
      rw [hmp.1, hmp.2] at hmq
      have HMQ := Lib.hid hmq
      have HAX := Lib.hid (So.below ha2 hbl)
      have B4 := B2.trans (hbl.mono z2)
      clear hmp hmq hq hperm HQL ha2
      have HB4 := Lib.hid B4
      have HBL := Lib.hid hbl
      have HLL := Lib.hid hl
      clear B4 hbl
      by_cases hk1 : k < ts.length
      focus
        obtain ⟨td, rfl, _, htc, htr⟩ := (HT.out.below ((B2.mono hK).trans (HBL.out.mono (Nat.le_trans hK z2)))).2.2 k hk1
        generalize ts.getD k 0 = t at *
        have i1 : (k : Int) < ts.length := by omega
        by_cases hk2 : 50 ≤ k
        focus
          have i2 : (50 : Int) ≤ k := by omega
          go_wp2_with fail
        rotate_left
        focus
          have i2 : ¬ (50 : Int) ≤ k := by omega
          have hz : l.length = 0 := by omega
          have i3 : ((l.length : Int) == 0) = true := by rw [hz]; rfl
          clear hz
          go_wp2_with fail
          clear i3
      rotate_left
      rotate_left
      focus
        have i1 : ¬ (k : Int) < ts.length := by omega
        go_wp2_with fail
      all_goals
        clear hgo
        have z4 := HB4.out.size
        refine HMQ.out.mono ?_
        rintro e w5 ⟨A5, c5, rfl, ha5, hb5⟩
        have B5 := HB4.out.trans (hb5.mono z4)
        have z5 := B5.size
        have zr5 := hb5.size
        have X5 := Lib.hid (((So.sr encP_len HAX.out).1.below hb5).more (K' := w5.heap.size) zr5)
        have Y5 := Lib.hid ((So.sr encP_len ha5).1)
        have P5 := Lib.hid ((HP.out.below (B5.mono hK)).more (K' := w5.heap.size) (by omega))
        have HSELF := Lib.hid (cmpL_self (makeL l))
        clear ha5 hb5
        go_wp2_with fail
        refine (awake_any _).mono ?_
        rintro e w6 ⟨rfl, hb6⟩
        go_wp2_with fail
        refine (compareL_any w5.heap.size A2 A5 (makeL l).length (makeL l).length c2 c5 (makeL l) (makeL l) w6 rfl rfl (X5.out.below hb6) (Y5.out.below hb6) hb6.size).mono ?_
        rintro e w7 ⟨rfl, hb7⟩
        rw [HSELF.out]
        have B7 := hb6.trans (hb7.mono hb6.size)
        have z7 := B7.size
        clear hb6 hb7
        by_cases hE : makeE l = 0
        · have HID := Lib.hid (make_idem hE)
          have HGET := Lib.hid (fun x hx => make_get (l := l) hE (x := x) hx)
          have HRI := Lib.hid (make_right hE)
          have HSM : Hid (Sm (makeL l)) := Lib.hid (by rw [(make_ok hE).2.2]; exact HS.out.perm (srt_perm l))
          rw [hE]
          have HE := Lib.hid hE
          clear hE
          have hmz := make_any w5.heap.size A2 (makeL l).length c2 (makeL l) w7 rfl (X5.out.below B7) z7 HSM.out (by rw [HRI.out.2]; exact HLL.out)
          unfold MakePost at hmz
          rw [HID.out.1, HID.out.2] at hmz
          have HMZ := Lib.hid hmz
          clear hmz
          go_wp2_with fail
          refine HMZ.out.mono ?_
          rintro e w8 ⟨A8, c8, rfl, ha8, hb8⟩
          have B8 := B7.trans (hb8.mono z7)
          have z8 := B8.size
          have Z8 := Lib.hid ((So.sr encP_len ha8).1)
          clear ha8 hb8 HMZ
          generalize hM : makeL l = M at *
          clear hM
          go_wp2_with fail
          go_loopw [93] (fun i wy => ∃ j : Nat, j ≤ l.length ∧ i = .int .i64 j ∧ Below w8.heap.size w8 wy) (fun i _ => l.length - (intOf i).toNat)
          case atStart => exact ⟨0, Nat.zero_le _, rfl, Below.refl _ _⟩
          case round =>
            rename World => wy
            obtain ⟨j, hj, rfl, hby⟩ := hrel
            have zy := hby.size
            have By := B8.trans (hby.mono z8)
            by_cases hlt : j < l.length
            · obtain ⟨ad, rfl, hadK, h1, h2⟩ := lr_at (P5.out.below By) hlt
              have hg := HGET.out (l.getD j nilP) (by rw [getD_get hlt]; exact List.getElem_mem hlt)
              have hgv := fun W (hW : Below w5.heap.size w5 W) => getv_any w5.heap.size A2 M.length c2 M (l.getD j nilP).1 W rfl (X5.out.below hW) hW.size
              rw [hg] at hgv
              generalize (l.getD j nilP).1 = pn at *
              generalize (l.getD j nilP).2 = pv at *
              have HGV := Lib.hid hgv
              have i1 : (j : Int) < l.length := by omega
              clear hgv hg
              have hb0 : Below w5.heap.size w5 (wy.alloc (.cells #[.string pn, .string pv] 36)) := By.alloc (by omega) _
              have hb1 : Below w8.heap.size w8 (wy.alloc (.cells #[.string pn, .string pv] 36)) := hby.alloc zy _
              go_wp2_with fail
              go_region_held3 (fun w' => w'.cell? ⟨wy.heap.size, 0, none⟩ = some (.string pn) ∧ w'.cell? ⟨wy.heap.size, 1, none⟩ = some (.string pv) ∧ Below w5.heap.size w5 w' ∧ Below w8.heap.size w8 w')
                (((try dsimp only); go_split_ands; (repeat' apply And.intro) <;> first | assumption | (apply kept; assumption; assumption) | (apply via; assumption; assumption; apply Below.size; assumption) | (apply Below.drew; assumption) | (go_grown; done) | (repeat' first | assumption | (simp; done) | apply keptD | apply keptA | (apply kept; assumption))))
                (first | (go_at_call 10; go_split_ands; refine (HGV.out _ (by assumption)).mono ?_; rintro e w9 ⟨rfl, hb9⟩))
              all_goals
                go_split_ands
                go_wp2_with fail
                go_roundw
                case rel => exact ⟨j + 1, by omega, by go_num, by assumption⟩
                case measure => simp [intOf]; omega
            · have i1 : ¬ (j : Int) < l.length := by omega
              have cz := fun W (hW : Below w5.heap.size w5 W) (hW8 : Below w8.heap.size w8 W) => compareL_any w8.heap.size A2 A8 M.length M.length c2 c8 M M W rfl rfl ((X5.out.below hW).more z8) (Z8.out.below hW8) hW8.size
              rw [HSELF.out] at cz
              have CZ := Lib.hid cz
              have cr := fun W (hW : Below w5.heap.size w5 W) => right_any w5.heap.size A2 M.length c2 M W rfl (X5.out.below hW) hW.size HSM.out
              rw [HRI.out.1] at cr
              have CR := Lib.hid cr
              clear cz cr
              go_wp2_with fail
              refine (CZ.out _ By hby).mono ?_
              rintro e w10 ⟨rfl, hb10⟩
              have B10 := By.trans (hb10.mono By.size)
              clear hb10
              go_wp2_with fail
              refine (CR.out _ B10).mono ?_
              rintro e w11 ⟨rfl, hb11⟩
              have B11 := B10.trans (hb11.mono B10.size)
              go_wp2_with fail
              go_ret
              exact ⟨ret_bool (by rw [HRI.out.2]; simp), B5.trans (B11.mono z5)⟩
        · have hE1 : (makeE l == 0) = false := by simpa using hE
          have hE2 : (makeE l != 0) = true := by simpa using hE
          have HE := Lib.hid hE
          clear hE
          go_wp2_with fail
          go_ret
          exact ⟨rfl, B5.trans (B7.mono z5)⟩
end Go.Proofs.Ytpkadghdnlkfiab
