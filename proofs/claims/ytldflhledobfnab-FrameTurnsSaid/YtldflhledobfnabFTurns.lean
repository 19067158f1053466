/- The law FrameTurns: its walk. -/
import Derived.Test.YtldflhledobfnabAwk
import Derived.Test.YtldflhledobfnabFrom
import Derived.Test.YtldflhledobfnabSame
import Derived.Test.YtldflhledobfnabFJoins
import Derived.Test.YtldflhledobfnabTurnM
import Derived.Test.YtldflhledobfnabOi
namespace Go.Proofs.Ytldflhledobfnab
open Go.RowKit

/-- What is known in the law's first loop. -/
structure Built (w : World) (l : List Pc) (m : Nat) (A5 : Option Addr) (n5 c5 : Nat) (A8 : Option Addr) (n8 c8 : Nat) (wr : World) : Prop where
  hml : m ≤ l.length
  short : ∀ x ∈ l.take m, x.2.length ≤ 2000
  ob : Ob wr w.heap.size (.slice A5 n5 c5) (catB (l.take m))
  oi : Oi wr w.heap.size (.slice A8 n8 c8) (endsB (l.take m))
  bl : Below w.heap.size w wr

theorem types_ne : (5 : Nat) ≠ 3 := by decide

theorem Built.next {w wr w3 w4 : World} {m n5 c5 n8 c8 : Nat} {l : List Pc} {A5 A3 A8 A4 : Option Addr} {c3 n3 c4 n4 : Nat} {kk : UInt8} {p : List UInt8} (J : Built w l m A5 n5 c5 A8 n8 c8 wr) (hlt : m < l.length) (hp : p.length ≤ 2000)
    (ht : l.take (m + 1) = l.take m ++ [(kk, p)]) (hob3 : Ob w3 w.heap.size (.slice A3 n3 c3) (catB (l.take m) ++ sealB kk p)) (hoi3 : Oi w3 w.heap.size (.slice A8 n8 c8) (endsB (l.take m)))
    (hoi4 : Oi w4 w.heap.size (.slice A4 n4 c4) (endsB (l.take m) ++ [n3])) (hg : w3.grownBy w4 (Value.slice A8 n8 c8).ownBlock) (hbl : Below w.heap.size w w4) : Built w l (m + 1) A3 n3 c3 A4 n4 c4 w4 := by
  refine ⟨by omega, fun x hx => ?_, ?_, ?_, hbl⟩
  · rw [ht] at hx
    rcases List.mem_append.1 hx with h | h
    · exact J.short x h
    · simp at h; subst h; exact hp
  · rw [ht, catB_snoc]
    exact hob3.keep hg (own_ne hob3 hoi3 types_ne)
  · rw [ht, endsB_snoc, catB_snoc, ← hob3.bs.2]
    exact hoi4

theorem at_mod (ai : Int) {n : Nat} (hn : 0 < n) : ∃ a : Nat, a < n ∧ (IntKind.u64.wrap ai).tmod (n : Int) = (a : Int) := by
  have h0 : 0 ≤ IntKind.u64.wrap ai := by simp [IntKind.wrap, IntKind.bits, IntKind.signed]; omega
  generalize IntKind.u64.wrap ai = u at *
  refine ⟨(u % n).toNat, ?_, ?_⟩
  · have := Int.emod_lt_of_pos u (show (0 : Int) < n by omega)
    have := Int.emod_nonneg u (show (n : Int) ≠ 0 by omega)
    omega
  · rw [Int.tmod_eq_emod_of_nonneg h0]
    have := Int.emod_nonneg u (show (n : Int) ≠ 0 by omega)
    omega
theorem turn_byte {x : Nat} {t : UInt8} (hx : x < 256) (ht : t ≠ 0) : ∃ y : UInt8, bits .xor .u8 (x : Int) (t.toNat : Int) = (y.toNat : Int) ∧ y.toNat ≠ x := by
  have hl : x ^^^ t.toNat < 2 ^ 8 := Nat.xor_lt_two_pow (by omega) t.toNat_lt
  refine ⟨UInt8.ofNat (x ^^^ t.toNat), ?_, ?_⟩
  · rw [u8_xor_nat x t.toNat hx (by have := t.toNat_lt; omega)]
    generalize x ^^^ t.toNat = z at *
    simp; omega
  · intro e
    have e2 : x ^^^ t.toNat = x := by
      generalize hz : x ^^^ t.toNat = z at *
      simp at e; omega
    have e3 := congrArg (x ^^^ ·) e2
    simp only [← Nat.xor_assoc, Nat.xor_self, Nat.zero_xor] at e3
    exact ht (UInt8.toNat_inj.1 (by simpa using e3))

set_option maxRecDepth 100000 in
set_option maxHeartbeats 3200000 in
theorem turns_any (K : Nat) (A : Option Addr) (cap : Nat) (l : List Pc) (ai : Int) (t : UInt8) (w : World) (hl : Pr w K A cap l) (hK : K ≤ w.heap.size) (hl12 : l.length ≤ 12) (ht : t ≠ 0) :
    Calls Try.prog 3 #[.slice A l.length cap, .int .i64 ai, bv t] w fun e w' => e = .returned (.bool true) ∧ Below w.heap.size w w' := by
  have hle := hl.le
  have hmax := hl.max
  unfold maxLen at hmax
  have ht0 : ((t.toNat : Int) == 0) = false := by
    rw [beq_eq_false_iff_ne]; intro e; exact ht (UInt8.toNat_inj.1 (by simpa using e))
  go_enter Try.func3, Try.ntmps3
  go_wp2_with (go_at_call 6; refine (awake_any _).mono ?_; rintro e w1 ⟨rfl, B1⟩)
  have z1 := B1.size
  go_loopw [7, 8, 35] (fun v u i wr => ∃ (m n5 c5 n8 c8 : Nat) (A5 A8 : Option Addr), i = .int .i64 (m : Nat) ∧ v = .slice A5 n5 c5 ∧ u = .slice A8 n8 c8 ∧ Built w l m A5 n5 c5 A8 n8 c8 wr) (fun _ _ i _ => l.length - (intOf i).toNat)
  case atStart => exact ⟨0, 0, 0, 0, 0, none, none, rfl, rfl, rfl, by omega, by simp, Ob.empty _ _, Oi.empty _ _, B1⟩
  case round =>
    obtain ⟨m, n5, c5, n8, c8, A5, A8, rfl, rfl, rfl, J⟩ := hrel
    have hml := J.hml
    have z := J.bl.size
    by_cases hlt : m < l.length
    · obtain ⟨ad, rfl, hadK, h1, A1, c1, h2, hbs⟩ := (hl.below (J.bl.mono hK)).get2 hlt
      have htk : l.take (m + 1) = l.take m ++ [l[m]] := List.take_succ_eq_append_getElem hlt
      generalize l[m] = x at *
      obtain ⟨kk, p⟩ := x
      simp only at h1 h2 hbs
      have hpl : p.length ≤ 9223372036854775807 := Nat.le_trans hbs.le hbs.max
      have HT := Lib.hid htk
      clear htk
      by_cases hp : 2000 < p.length
      · have B2 := J.bl.alloc z (.cells #[bv kk, .slice A1 p.length c1] 27)
        clear J
        go_wp2
        go_ret
        exact ⟨rfl, B2⟩
      · have hcl := catB_len (l.take m) J.short
        have htl : (l.take m).length = m := by simp; omega
        have hn5 := J.ob.bs.2
        have hn8 : n8 = m := by
          have : n8 = (endsB (l.take m)).length := by
            rcases J.oi.2 with ⟨he, h0⟩ | ⟨g, cap', cur, he, _⟩
            · injection he with _ h2 _; omega
            · injection he
          rw [this, endsB_length, htl]
        subst hn8
        rw [htl] at hcl
        have hb5 : n5 ≤ 24108 := by rw [hn5]; omega
        have hel : (endsB (l.take n8)).length = n8 := by rw [endsB_length, htl]
        have HN := Lib.hid hn5
        have HEL := Lib.hid hel
        clear htl hn5 hel
        have J1 := J.ob.alloc (.cells #[bv kk, .slice A1 p.length c1] 27)
        have J2 := J.oi.alloc (.cells #[bv kk, .slice A1 p.length c1] 27)
        have hbs1 := hbs.alloc (by omega) (.cells #[bv kk, .slice A1 p.length c1] 27)
        have B2 := J.bl.alloc z (.cells #[bv kk, .slice A1 p.length c1] 27)
        go_wp2_with (first
          | (go_at_call 7; refine (seal_ok kk K A1 c1 p _ hbs1 (by simp; omega) (by omega)).mono ?_; rintro e w2 ⟨A2, c2, rfl, hown2, hb2⟩; have ho5 := J1.below hb2; have ho8 := J2.below hb2; have B3 : Below w.heap.size w w2 := B2.trans (hb2.mono (by simp; omega)); have z2 := B3.size)
          | (at_builtin; refine wpList_app _ rfl (.tmp 53) (.tmp 54) rfl w.heap.size (.slice A5 n5 c5) (catB (l.take n8)) rfl ho5 A2 _ c2 (sealB kk p) rfl hown2.bs.2.symm _ hown2.bs.1 (n5 + (9 + p.length)) (by rw [HN.out, sealB_length]) (by rw [sealB_length]; omega) z2 ?_; intro A3 c3 w3 hown3 hgrow3 hat3; have B4 : Below w.heap.size w w3 := grown_below B3 hgrow3 z2 (fun _ h => (ho5.lt _ h).1); have z3 := B4.size; have ho83 := ho8.keep hgrow3 (own_ne ho8 ho5 types_ne.symm))
          | (at_builtin; refine wpList_pushi _ rfl (.tmp 56) (.tmp 59) rfl w.heap.size (.slice A8 n8 c8) (endsB (l.take n8)) rfl ho83 (n5 + (9 + p.length)) _ rfl rfl (n8 + 1) (by rw [HEL.out]) (by omega) z3 ?_; intro A4 c4 w4 hown4 hgrow4; have B5 : Below w.heap.size w w4 := grown_below B4 hgrow4 z3 (fun _ h => (ho83.lt _ h).1)))
        go_roundw
        case rel => exact ⟨n8 + 1, _, c3, _, c4, A3, A4, by go_num, rfl, rfl, J.next hlt (by omega) HT.out hown3 ho83 hown4 hgrow4 B5⟩
        case measure => simp [intOf]; omega
    · have hml2 : m = l.length := by omega
      subst hml2
      have hob := J.ob
      have hoi := J.oi
      have hbl := J.bl
      have hshort := J.short
      rw [List.take_length] at hob hoi hshort
      clear J hml
      have hcl := catB_len l hshort
      have hn5 := hob.bs.2
      have hb5 : n5 ≤ 24108 := by rw [hn5]; omega
      have HSH := Lib.hid hshort
      have HN := Lib.hid hn5
      clear hshort hn5
      by_cases h0 : n5 = 0
      · subst h0
        clear hob hoi
        go_wp2
        go_ret
        exact ⟨rfl, hbl⟩
      · have hpos : 0 < n5 := by omega
        clear h0
        obtain ⟨g, rfl, hg, hgl⟩ := hob.addr hpos
        obtain ⟨a, han, hae⟩ := at_mod ai hpos
        obtain ⟨ad', e', hx⟩ := hob.bs.1.g (k := a) (by have := HN.out; omega)
        cases e'
        rw [add0] at hx
        have hobr : wr.ownsRow w.heap.size 5 1 (.slice (some ⟨g, 0, none⟩) n5 c5) n5 ((catB l).map bv) := by
          have h1 := hob
          unfold Ob at h1
          rwa [← hob.bs.2] at h1
        have hfr := hobr.frozenAt a
        obtain ⟨y, hy, hyne⟩ := turn_byte (at0_lt (catB l) a) ht
        have hob2 := hob.stored a y
        have hgw := (hobr.stored a (bv y)).2
        have hoi2 := hoi.keep hgw (own_ne hoi hob types_ne.symm)
        have hbl2 := hbl.setCell (p := ⟨g, a, none⟩) hg (bv y)
        have hcy : (catB l)[a]? ≠ some y := fun e => hyne (by simp [at0, List.getD, e])
        have hz2 : (wr.setCell ⟨g, a, none⟩ (bv y)).heap.size = wr.heap.size := by simp
        generalize hW : wr.setCell ⟨g, a, none⟩ (bv y) = w5 at hob2 hgw hoi2 hbl2 hz2
        have HW := Lib.hid hW
        have HCY := Lib.hid hcy
        have HOB := Lib.hid hob2
        have hil : l.length ≤ 9223372036854775807 := by omega
        clear hW hcy hyne hob2 hgw hobr hob hoi hbl hz2 hgl
        go_wp2
        rw [HW.out]
        clear hx hfr hy hae
        have htot : (catB (l.take l.length)).length = n5 := by rw [List.take_length]; exact HN.out.symm
        have HTOT := Lib.hid htot
        clear htot
        have hend : ∀ h, h < l.length → n8 ≤ c8 ∧ h < n8 ∧ c8 ≤ 9223372036854775807 ∧ ∃ g8, A8 = some ⟨g8, 0, none⟩ ∧ w5.cell? ⟨g8, h, none⟩ = some (iv (catB (l.take (h + 1))).length) := fun h hh => by
          obtain ⟨e1, e2, e3, g8, e4, e5⟩ := hoi2.get (k := h) (by rw [endsB_length]; exact hh)
          rw [endsB_length] at e1
          have := endsB_get hh
          rw [List.getElem?_eq_getElem (by rw [endsB_length]; exact hh)] at this
          injection this with this
          rw [this] at e5
          exact ⟨e2, by omega, e3, g8, e4, e5⟩
        have HEND := Lib.hid hend
        clear hend
        go_loop [13, 14] (fun hv fv => ∃ h f : Nat, h < l.length ∧ hv = .int .i64 h ∧ fv = .int .i64 f ∧ f = (catB (l.take h)).length ∧ f ≤ a) (fun hv _ => l.length - (intOf hv).toNat)
        case atStart =>
          refine ⟨0, 0, ?_, rfl, rfl, by simp [catB], by omega⟩
          rcases Nat.eq_zero_or_pos l.length with h | h
          · have h1 := HTOT.out
            rw [h] at h1
            simp [catB] at h1
            omega
          · exact h
        case round =>
          obtain ⟨h, f, hh, rfl, rfl, hf, hfa⟩ := hrel
          obtain ⟨e2, e1, e3, g8, rfl, hcell⟩ := HEND.out h hh
          have hnx : h + 1 = l.length → (catB (l.take (h + 1))).length = n5 := fun e => by rw [e]; exact HTOT.out
          have hb2 : (catB (l.take (h + 1))).length ≤ 24108 := by
            have := catB_len (l.take (h + 1)) (fun x hx => HSH.out x (List.mem_of_mem_take hx))
            simp at this
            omega
          generalize hed : (catB (l.take (h + 1))).length = ed at *
          have HF := Lib.hid hf
          have HED := Lib.hid hed
          clear hf hed
          by_cases hle2 : ed ≤ a
          · have hh1 : h + 1 < l.length := by
              rcases Nat.lt_or_ge (h + 1) l.length with h' | h'
              · exact h'
              · have := hnx (by omega); omega
            clear hnx
            go_wp2
            go_round
            case rel => exact ⟨h + 1, ed, hh1, by go_num, rfl, HED.out.symm, hle2⟩
            case measure => simp [intOf]; omega
          · clear hnx
            have hcut : ∃ rest, (scanB ((catB l).set a y)).1 = l.take h ++ rest ∧ ((openB (((catB l).set a y).drop f)).2.2.2 ≠ 0 ∨ (openB (((catB l).set a y).drop f)).2.2.1 ≠ ed - f) := by
              have := turned_cat (h := h) (at' := a) (c := y) (fun x hx => Nat.le_trans (HSH.out x hx) (by decide)) hh (by rw [← HF.out]; exact hfa) (by rw [HED.out]; omega) HCY.out
              rw [HED.out, ← HF.out] at this
              exact this
            have hbl5 : ((catB l).set a y).length = n5 := by rw [List.length_set]; exact HN.out.symm
            have hsn := scanB_len ((catB l).set a y)
            have hsc := scan_any w5.heap.size (some ⟨g, 0, none⟩) c5 ((catB l).set a y) w5 (HOB.out.bs.1) (Nat.le_refl _) (by omega)
            rw [hbl5] at hsc hsn
            have HC := Lib.hid hcut
            have HB5 := Lib.hid hbl5
            have HSC := Lib.hid hsc
            clear hcut hbl5 hsc
            go_wp2_with fail
            refine HSC.out.mono ?_
            rintro e w6 ⟨A6, c6, rfl, hps6, hb6⟩
            have B6 : Below w.heap.size w w6 := hbl2.trans (hb6.mono hbl2.size)
            have z6 := B6.size
            have hcell6 := hb6.cell (p := ⟨g8, h, none⟩) (World.block_lt_of_cell? w5 _ hcell)
            rw [hcell] at hcell6
            have hob6 := HOB.out.below hb6
            clear hcell
            obtain ⟨rest, hr1, hr2⟩ := HC.out
            have htl : (l.take h).length = h := by simp; omega
            have hgl : (scanB ((catB l).set a y)).1.length = h + rest.length := by rw [hr1, List.length_append, htl]
            rw [hgl] at hps6 hsn ⊢
            have hp6 := hps6.pr.1
            have hle6 := hp6.le
            rw [hr1] at hp6
            rw [hr1, List.length_append, htl] at hle6
            have hto := hp6.to (j := h) (by rw [List.length_append, htl]; omega)
            have e1' : (l.take h ++ rest).take h = l.take h := by rw [List.take_append_of_le_length (by omega), List.take_take, Nat.min_self]
            rw [e1'] at hto
            have s1 := slice_to2 (P := Try.prog) (ST := 32) Try.underlying32 size_pc A6 (h + rest.length) c6 h (by omega)
            have s2 := slice_to2 (P := Try.prog) (ST := 22) Try.underlying22 size_rpc A l.length cap h (by omega)
            have HTL := Lib.hid htl
            have HR2 := Lib.hid hr2
            have hrl := hsn
            clear e1' htl hr1 hr2 hp6 hgl hps6 hb6 hsn
            have hlh : Pr w6 K A cap (l.take h) := (hl.below (B6.mono hK)).to (by omega)
            have z6k : K ≤ w6.heap.size := by omega
            go_wp2
            have hg0 : decide ((h : Int) + (rest.length : Int) < (h : Int)) = false := by simp; omega
            have hg1 : decide (((h + rest.length : Nat) : Int) < (h : Int)) = false := by simp; omega
            have i0 : (0 : Int) ≤ (h : Int) := by omega
            have i1 : (h : Int) ≤ (c6 : Int) := by omega
            have i2 : (h : Int) ≤ (cap : Int) := by omega
            have hto' : Pr w6.drew w6.heap.size A6 c6 (l.take h) := hto.keep fun _ _ => rfl
            have hm32 : (l.take h).length * 32 ≤ 140737488355328 := by rw [HTL.out]; omega
            have HM32 := Lib.hid hm32
            clear hto hm32
            go_region_held3 (fun _ => True) (trivial) (first
              | (go_at_call 10; refine (from_n w6.heap.size A6 h c6 (l.take h) w6.drew HTL.out hto' (Nat.le_refl _) HM32.out).mono ?_; rintro e w7 ⟨A7, c7, rfl, hps7, hb7⟩)
              | (go_at_call 9; refine (same_any w7.heap.size A7 A h h c7 cap (l.take h) w7 HTL.out HTL.out hps7.pr.1 ((hlh.below (((Below.refl _ _).drew.trans hb7).mono z6k)).more (Nat.le_trans z6k hb7.size)) (Nat.le_refl _)).mono ?_; rintro e w8 ⟨rfl, hb8⟩))
            have hb68 : Below w6.heap.size w6 w8 := ((Below.refl _ w6).drew.trans hb7).trans (hb8.mono hb7.size)
            have B8 : Below w.heap.size w w8 := B6.trans (hb68.mono z6)
            have z8 := B8.size
            have hcell8 := hb68.cell (p := ⟨g8, h, none⟩) (World.block_lt_of_cell? w6 _ hcell6)
            rw [hcell6] at hcell8
            have hob8 := hob6.below hb68
            have hbcut := hob8.bs.1.cut (i := f) (j := n5) (by omega) (by rw [HB5.out]; omega)
            have hdt : (((catB l).set a y).drop f).take (n5 - f) = ((catB l).set a y).drop f := List.take_of_length_le (by rw [List.length_drop, HB5.out]; omega)
            rw [hdt] at hbcut
            have s3 := slice_from (some ⟨g, 0, none⟩) n5 c5 f (by omega)
            have hdl : (((catB l).set a y).drop f).length = n5 - f := by rw [List.length_drop, HB5.out]
            generalize (if c5 = f then some (⟨g, 0, none⟩ : Addr) else (some (⟨g, 0, none⟩ : Addr)).map (·.add f)) = AJ at *
            have hop := open_any w8.heap.size (c5 - f) (((catB l).set a y).drop f) w8 AJ hbcut (Nat.le_refl _)
            rw [hdl] at hop
            have HOP := Lib.hid hop
            clear hop hdl hdt hbcut hob8 hob6 hps7 hb7 hb8 hb68 hto' hlh s1 s2 hcell6 hg0 hg1
            go_wp2_with fail
            refine HOP.out.mono ?_
            rintro e w9 ⟨A9, c9, rfl, hob9, hb9⟩
            have B9 : Below w.heap.size w w9 := B8.trans (hb9.mono z8)
            have hcell9 := hb9.cell (p := ⟨g8, h, none⟩) (World.block_lt_of_cell? w8 _ hcell8)
            rw [hcell8] at hcell9
            have hr2 := HR2.out
            clear HOP hcell8 hb9 hob9 s3
            generalize openB (((catB l).set a y).drop f) = o at *
            obtain ⟨k9, p9, u9, e9⟩ := o
            simp only at hr2
            by_cases he9 : e9 = 0
            · have hu9 : u9 ≠ ed - f := by
                rcases hr2 with h' | h'
                · exact absurd he9 h'
                · exact h'
              subst he9
              have hne : ((u9 : Int) != (ed : Int) - (f : Int)) = true := by rw [bne_iff_ne]; omega
              clear hr2 hu9
              go_wp2
              go_ret
              exact ⟨rfl, B9⟩
            · have hne : ((e9 : Int) != 0) = true := by rw [bne_iff_ne]; omega
              clear hr2
              go_wp2
              go_ret
              exact ⟨rfl, B9⟩

set_option maxRecDepth 100000 in
theorem turns_none (v : Value) (n cap : Nat) (A : Option Addr) (t : Int) (w : World) (hn : n ≤ maxLen) (h : t = 0 ∨ 12 < n) :
    Calls Try.prog 3 #[.slice A n cap, v, .int .u8 t] w fun e w' => e = .returned (.bool true) ∧ Below w.heap.size w w' := by
  unfold maxLen at hn
  by_cases ht : t = 0
  · subst ht
    clear h
    go_enter Try.func3, Try.ntmps3
    go_wp2_with fail
    refine (awake_any _).mono ?_
    rintro e w1 ⟨rfl, B1⟩
    go_wp2_with fail
    refine (awake_any _).mono ?_
    rintro e w2 ⟨rfl, hb2⟩
    have B2 : Below w.heap.size w w2 := B1.trans (hb2.mono B1.size)
    go_wp2
    go_ret
    exact ⟨rfl, B2⟩
  · have h12 : 12 < n := by omega
    have ht0 : (t == 0) = false := by rw [beq_eq_false_iff_ne]; exact ht
    clear h ht
    go_enter Try.func3, Try.ntmps3
    go_wp2_with fail
    refine (awake_any _).mono ?_
    rintro e w1 ⟨rfl, B1⟩
    go_wp2_with fail
    refine (awake_any _).mono ?_
    rintro e w2 ⟨rfl, hb2⟩
    have B2 : Below w.heap.size w w2 := B1.trans (hb2.mono B1.size)
    go_wp2
    go_ret
    exact ⟨rfl, B2⟩
end Go.Proofs.Ytldflhledobfnab
