/- The law FrameJoins: its walk. -/
import Derived.Test.YtldflhledobfnabAwk
import Derived.Test.YtldflhledobfnabFrom
import Derived.Test.YtldflhledobfnabSame
import Derived.Deep.CutBlock
namespace Go.Proofs.Ytldflhledobfnab
open Go.RowKit

theorem size_pc (w : World) : (sizeOf (Try.prog.elem 32)).run Try.prog w = .ok 2 w := by
  obtain ⟨i0, hi, hz0, hz1, hz2⟩ := info_parts info_pc
  show (sizeOf 44).run Try.prog w = _
  simp [sizeOf, typeInfo, hi, hz1]
theorem size_rpc (w : World) : (sizeOf (Try.prog.elem 22)).run Try.prog w = .ok 2 w := by
  obtain ⟨i0, hi, hz0, hz1, hz2⟩ := info_parts info_rpc
  show (sizeOf 27).run Try.prog w = _
  simp [sizeOf, typeInfo, hi, hz1]

/-- What is known behind the law's loop: m pieces, their frames. -/
structure Joined (w : World) (K : Nat) (l : List Pc) (m : Nat) (A0 : Option Addr) (c0 : Nat) (A5 : Option Addr) (n5 c5 : Nat) (wr : World) : Prop where
  hm : m ≤ 12
  hml : m ≤ l.length
  short : ∀ x ∈ l.take m, x.2.length ≤ 2000
  pr : Pr wr K A0 c0 (l.take m)
  ob : Ob wr w.heap.size (.slice A5 n5 c5) (catB (l.take m))
  bl : Below w.heap.size w wr

theorem Joined.next {w wr w3 : World} {K m n5 c5 cap : Nat} {l : List Pc} {A A5 A3 : Option Addr} {c3 n3 : Nat} {kk : UInt8} {p : List UInt8} (J : Joined w K l m A cap A5 n5 c5 wr) (hK : K ≤ w.heap.size) (hm : m < 12) (hlt : m < l.length) (hp : p.length ≤ 2000)
    (ht : l.take (m + 1) = l.take m ++ [(kk, p)]) (hl : Pr w K A cap l) (hob : Ob w3 w.heap.size (.slice A3 n3 c3) (catB (l.take m) ++ sealB kk p)) (hbl : Below w.heap.size w w3) : Joined w K l (m + 1) A cap A3 n3 c3 w3 := by
  refine ⟨by omega, by omega, fun x hx => ?_, (hl.below (hbl.mono hK)).to (by omega), ?_, hbl⟩
  · rw [ht] at hx
    rcases List.mem_append.1 hx with h | h
    · exact J.short x h
    · simp at h; subst h; exact hp
  · rw [ht, catB_snoc]; exact hob

set_option maxRecDepth 100000 in
set_option maxHeartbeats 3200000 in
theorem joins_any (K : Nat) (A : Option Addr) (cap : Nat) (l : List Pc) (A' : Option Addr) (cap' : Nat) (q : List UInt8) (w : World) (hl : Pr w K A cap l) (hq : Bs w K A' cap' q) (hK : K ≤ w.heap.size) (hs : q.length ≤ 1048576) :
    Calls Try.prog 5 #[.slice A l.length cap, .slice A' q.length cap'] w fun e w' => e = .returned (.bool true) ∧ Below w.heap.size w w' := by
  have hle := hl.le
  have hmax := hl.max
  unfold maxLen at hmax
  go_enter Try.func5, Try.ntmps5
  go_upto_block 0 with (fail)
  go_cut [0, 5] (fun a v wr => ∃ (m n5 c5 : Nat) (A5 : Option Addr), a = .slice A m cap ∧ v = .slice A5 n5 c5 ∧ Joined w K l m A cap A5 n5 c5 wr)
  case first =>
    go_wp2
    go_loopw [0, 5, 16] (fun a v i wr => ∃ (m n5 c5 : Nat) (A5 : Option Addr), a = .slice A l.length cap ∧ i = .int .i64 (m : Nat) ∧ v = .slice A5 n5 c5 ∧ Joined w K l m A cap A5 n5 c5 wr) (fun _ _ i _ => l.length - (intOf i).toNat)
    case atStart => exact ⟨0, 0, 0, none, rfl, rfl, rfl, by omega, by omega, by simp, by simpa using hl.to (Nat.zero_le _), Ob.empty _ _, Below.refl _ _⟩
    case round =>
      obtain ⟨m, n5, c5, A5, rfl, rfl, rfl, J⟩ := hrel
      have hml := J.hml
      have hm := J.hm
      have z := J.bl.size
      by_cases hlt : m < l.length
      · obtain ⟨ad, rfl, hadK, h1, A1, c1, h2, hbs⟩ := (hl.below (J.bl.mono hK)).get2 hlt
        have hsl := slice_to2 (P := Try.prog) (ST := 22) Try.underlying22 size_rpc (some ad) l.length cap m (by omega)
        have htk : l.take (m + 1) = l.take m ++ [l[m]] := List.take_succ_eq_append_getElem hlt
        generalize l[m] = x at *
        obtain ⟨kk, p⟩ := x
        simp only at h1 h2 hbs
        have hpl : p.length ≤ 9223372036854775807 := Nat.le_trans hbs.le hbs.max
        have HT := Lib.hid htk
        clear htk
        have J1 : Joined w K l m (some ad) cap A5 n5 c5 (wr.alloc (.cells #[bv kk, .slice A1 p.length c1] 27)) := ⟨J.hm, J.hml, J.short, J.pr.alloc (by omega) _, J.ob.alloc _, J.bl.alloc z _⟩
        by_cases h12 : 12 ≤ m
        · clear J
          go_wp2
          go_meet
          exact ⟨m, n5, c5, A5, rfl, rfl, J1⟩
        · by_cases hp : 2000 < p.length
          · clear J
            go_wp2
            go_meet
            exact ⟨m, n5, c5, A5, rfl, rfl, J1⟩
          · have hcl := catB_len (l.take m) J.short
            have htl : (l.take m).length = m := by simp; omega
            have hn5 := J.ob.bs.2
            rw [htl] at hcl
            have HN := Lib.hid hn5
            clear htl hn5
            have hbs1 := hbs.alloc (by omega) (.cells #[bv kk, .slice A1 p.length c1] 27)
            go_wp2_with (first
              | (go_at_call 7; refine (seal_ok kk K A1 c1 p _ hbs1 (by simp; omega) (by omega)).mono ?_; rintro e w2 ⟨A2, c2, rfl, hown2, hb2⟩; have ho5 := J1.ob.below hb2; have B2 : Below w.heap.size w w2 := J1.bl.trans (hb2.mono (by simp; omega)); have z2 := B2.size)
              | (at_builtin; refine wpList_app _ rfl (.tmp 40) (.tmp 41) rfl w.heap.size (.slice A5 n5 c5) (catB (l.take m)) rfl ho5 A2 _ c2 (sealB kk p) rfl hown2.bs.2.symm _ hown2.bs.1 (n5 + (9 + p.length)) (by rw [HN.out, sealB_length]) (by rw [sealB_length]; omega) z2 ?_; intro A3 c3 w3 hown3 hgrow3 hat3; have B3 : Below w.heap.size w w3 := grown_below B2 hgrow3 z2 (fun _ h => (ho5.lt _ h).1)))
            go_roundw
            case rel => exact ⟨m + 1, _, c3, A3, rfl, by go_num, rfl, J.next hK (by omega) hlt (by omega) HT.out hl hown3 B3⟩
            case measure => simp [intOf]; omega
      · have hml2 : m = l.length := by omega
        subst hml2
        go_wp2
        go_meet
        exact ⟨_, n5, c5, A5, rfl, rfl, J⟩
  case rest =>
    obtain ⟨m, n5, c5, A5, rfl, rfl, J⟩ := hcut
    have z := J.bl.size
    have hml := J.hml
    have hm := J.hm
    have hcl := catB_len (l.take m) J.short
    have htl : (l.take m).length = m := by simp; omega
    have hn5 := J.ob.bs.2
    have hsc := scan_cat (l.take m) q (fun x hx => Nat.le_trans (J.short x hx) (by decide))
    have hsl := scanB_len q
    have hsu := scanB_used q
    have hscq := scan_any K A' cap' q
    rw [htl] at hcl
    have HTL := Lib.hid htl
    have hn5b : n5 ≤ 24108 := by rw [hn5]; omega
    have HN := Lib.hid hn5
    have HS := Lib.hid hsc
    clear htl hn5 hsc
    generalize hps : l.take m = ps at *
    have hob := J.ob
    have hpr := J.pr
    have hbl := J.bl
    rw [hps] at hob hpr
    have HPS := Lib.hid hps
    clear hps J
    go_wp2_with (first
      | (at_builtin; refine wpList_app _ rfl (.tmp 45) (.tmp 46) rfl w.heap.size (.slice (some ⟨wc.heap.size, 0, none⟩) 0 0) [] rfl (lit_ob wc w.heap.size wc.heap.size rfl z _ 0 [] rfl rfl (by decide)) A5 n5 c5 (catB ps) rfl HN.out.symm _ (hob.bs.1.alloc (Nat.le_refl _) _) n5 (by rw [HN.out]; simp) (by simp; omega) (by simp; omega) ?_; intro A2 c2 w2 hown2 hgrow2 hat2; have B2 : Below w.heap.size w w2 := grown_below (hbl.alloc z _) hgrow2 (by simp; omega) (by simp [Value.ownBlock]; omega); have z2 := B2.size; rw [List.nil_append] at hown2)
      | (at_builtin; refine wpList_app _ rfl (.tmp 47) (.tmp 48) rfl w.heap.size _ (catB ps) rfl hown2 A' q.length cap' q rfl rfl K (hq.below (B2.mono hK)) (n5 + q.length) (by rw [HN.out]) (by have := HN.out; omega) z2 ?_; intro A3 c3 w3 hown3 hgrow3 hat3; have B3 : Below w.heap.size w w3 := grown_below B2 hgrow3 z2 (fun _ h => (hown2.lt _ h).1); have z3 := B3.size)
      | fail)
    clear hown2 hgrow2 hgrow3 hat2 hat3
    have hc := scan_any w3.heap.size A3 c3 (catB ps ++ q) w3 hown3.bs.1 (Nat.le_refl _) (by rw [List.length_append]; have := HN.out; omega)
    rw [List.length_append, ← HN.out] at hc
    refine hc.mono ?_
    clear hc hscq
    rintro e w4 ⟨A4, c4, rfl, hps4, hb4⟩
    have B4 : Below w.heap.size w w4 := B3.trans (hb4.mono z3)
    have z4 := B4.size
    clear hb4 hown3
    go_wp2_with fail
    refine (scan_any K A' cap' q _ (hq.below (B4.mono hK)) (by omega) (by omega)).mono ?_
    rintro e w5 ⟨A5', c5', rfl, hps5, hb5⟩
    have B5 : Below w.heap.size w w5 := B4.trans (hb5.mono z4)
    have z5 := B5.size
    have hps4 := hps4.below hb5
    clear hb5
    rw [HS.out] at hps4 ⊢
    generalize scanB q = s at *
    obtain ⟨rs, u⟩ := s
    simp only at hps4 hps5 hsl hsu ⊢
    have hlen : (ps ++ rs).length = m + rs.length := by rw [List.length_append, HTL.out]
    have hc5 := HN.out.symm
    rw [hlen] at hps4 ⊢
    rw [hc5]
    clear hlen hc5
    go_wp2_with fail
    refine (awake_any _).mono ?_
    rintro e w6 ⟨rfl, hb6⟩
    have B6 : Below w.heap.size w w6 := B5.trans (hb6.mono z5)
    have z6 := B6.size
    have hps4 := hps4.below hb6
    have hps5 := hps5.below hb6
    clear hb6
    have hp4 := hps4.pr.1
    have hle4 := hp4.le
    have hcut := hp4.cut (i := m) (j := m + rs.length) (by omega) (by rw [List.length_append, HTL.out]; omega)
    have hto := hp4.to (j := m) (by rw [List.length_append, HTL.out]; omega)
    have e1 : (ps ++ rs).take m = ps := by rw [← HTL.out]; exact List.take_left
    have e2 : ((ps ++ rs).drop m).take (m + rs.length - m) = rs := by
      rw [← HTL.out, List.drop_left, Nat.add_sub_cancel_left, List.take_length]
    rw [e1] at hto
    rw [e2] at hcut
    have s1 := slice_to2 (P := Try.prog) (ST := 32) Try.underlying32 size_pc A4 (m + rs.length) c4 m (by rw [List.length_append, HTL.out] at hle4; omega)
    have s2 := slice_from2 (P := Try.prog) (ST := 32) Try.underlying32 size_pc A4 (m + rs.length) c4 m (by omega)
    generalize (if c4 = m then A4 else A4.map (·.add (m * 2))) = A4' at *
    clear e1 e2 hp4 hle4 hps4
    go_wp2_with fail
    refine (from_any _ A4 m c4 ps w6 HTL.out hto (Nat.le_refl _) (by have := HTL.out; omega)).mono ?_
    rintro e w7 ⟨A7, c7, rfl, hps7, hb7⟩
    have B7 : Below w.heap.size w w7 := B6.trans (hb7.mono z6)
    have z7 := B7.size
    have hcut := hcut.below hb7
    have hps5 := hps5.below hb7
    have z67 := hb7.size
    clear hb7 hto
    rw [HTL.out] at hps7 ⊢
    go_wp2_with fail
    have hq0 := (hl.below (B7.mono hK)).to hml
    rw [HPS.out] at hq0
    refine (same_any w7.heap.size A7 A m m c7 cap ps w7 HTL.out HTL.out hps7.pr.1 (hq0.more (by omega)) (Nat.le_refl _)).mono ?_
    clear hq0 hps7
    rintro e w8 ⟨rfl, hb8⟩
    have B8 : Below w.heap.size w w8 := B7.trans (hb8.mono z7)
    have z8 := B8.size
    have hcut := (hcut.more z67).below hb8
    have hps5 := hps5.below hb8
    have hb8z := hb8.size
    clear hb8
    go_wp2_with fail
    refine (from_any w7.heap.size A4' rs.length (c4 - m) rs w8 rfl hcut (by have := hb8z; omega) (by omega)).mono ?_
    rintro e w9 ⟨A9, c9, rfl, hps9, hb9⟩
    have B9 : Below w.heap.size w w9 := B8.trans (hb9.mono z8)
    have z9 := B9.size
    have hps5 := hps5.below hb9
    clear hb9 hcut
    go_wp2_with fail
    refine (from_any w9.heap.size A5' rs.length c5' rs w9 rfl hps5.pr.1 (Nat.le_refl _) (by omega)).mono ?_
    rintro e w10 ⟨A10, c10, rfl, hps10, hb10⟩
    have B10 : Below w.heap.size w w10 := B9.trans (hb10.mono z9)
    have z10 := B10.size
    have hps9 := hps9.below hb10
    clear hb10 hps5
    go_wp2_with fail
    refine (same_any w10.heap.size A9 A10 rs.length rs.length c9 c10 rs w10 rfl rfl hps9.pr.1 hps10.pr.1 (Nat.le_refl _)).mono ?_
    rintro e w11 ⟨rfl, hb11⟩
    have B11 : Below w.heap.size w w11 := B10.trans (hb11.mono z10)
    go_wp2
    go_ret
    exact ⟨rfl, B11⟩
end Go.Proofs.Ytldflhledobfnab
