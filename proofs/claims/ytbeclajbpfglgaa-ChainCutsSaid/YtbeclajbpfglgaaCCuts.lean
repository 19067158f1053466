/- ChainCuts: its walk. -/
import Derived.Test.YtbeclajbpfglgaaCPuts
import Derived.Test.YtbeclajbpfglgaaChU
namespace Go.Proofs.Ytbeclajbpfglgaa
open Go.RowKit Go.BigFrame

theorem Sr.keepN {α : Type} {enc : α → List Value} {k : Nat} {w w' : World} {K cap : Nat} {A : Option Addr} {l : List α} (h : Sr enc k w K A cap l) (hk : ∀ ad : Addr, A = some ad → 0 < l.length → ∀ j, w'.cell? (ad.add j) = w.cell? (ad.add j)) : Sr enc k w' K A cap l :=
  ⟨h.le, h.max, h.nil, fun hn => by
    obtain ⟨ad, e, hb, hc⟩ := h.at_ hn
    exact ⟨ad, e, hb, fun i x hi j u hu => (hk ad e hn _).trans (hc i x hi j u hu)⟩⟩
theorem store3_cell {w : World} {s : Nat} {y : Int × Int × Int} {p : Addr} (hne : s ≠ p.block) : (store3 w s y).cell? p = w.cell? p := by
  have hp : ∀ i, (⟨s, i, none⟩ : Addr) ≠ p := fun i e => hne (by rw [← e])
  unfold store3
  rw [World.cell?_setCell_other _ _ _ _ (hp 2), World.cell?_setCell_other _ _ _ _ (hp 1), World.cell?_setCell_other _ _ _ _ (hp 0)]
theorem store3_below {B : Nat} {a w : World} {s : Nat} {y : Int × Int × Int} (h : Below B a w) (hs : B ≤ s) : Below B a (store3 w s y) :=
  ((h.setCell (p := ⟨s, 0, none⟩) hs _).setCell (p := ⟨s, 1, none⟩) hs _).setCell (p := ⟨s, 2, none⟩) hs _
/-- The chain, the cut one, the stamps in their boxes p and q. -/
structure Cq (w wr : World) (p q : Nat) (A : Option Addr) (ca : Nat) (c : List Ve) (B : Option Addr) (cb : Nat) (d : List Ve) (t s : Int × Int × Int) : Prop where
  s1 : Sr encV 6 wr wr.heap.size A ca c
  s2 : Sr encV 6 wr wr.heap.size B cb d
  f1 : ∀ ad : Addr, A = some ad → 0 < c.length → ad.block ≠ q
  f2 : ∀ ad : Addr, B = some ad → 0 < d.length → ad.block ≠ q
  ok : ∀ u ∈ c, Vok u
  chn : Chn c
  d : d = c.drop (cutN c t.1 t.2.1 t.2.2)
  hp : At3 wr p t
  hq : At3 wr q s
  fr : ∀ j, j < 3 → wr.frozen? ⟨q, j, none⟩ = false
  pq : p ≠ q
  wq : w.heap.size ≤ q
  ql : q < wr.heap.size
  bel : Below w.heap.size w wr
section
/-- What a round's test reads. -/
structure Gv (W : World) (b : Nat) (v : Ve) (p : Nat) (t : Int × Int × Int) (wx : World) : Prop where
  vb : Vb wx b v
  at_ : At3 wx p t
  bel : Below W.heap.size W wx
theorem Gv.below {W wx w' : World} {b p : Nat} {v : Ve} {t : Int × Int × Int} (h : Gv W b v p t wx) (hb : Below wx.heap.size wx w') : Gv W b v p t w' := ⟨h.vb.below hb, h.at_.below hb, h.bel.trans (hb.mono h.bel.size)⟩
variable {w wr w' : World} {p q ca cb ca' cb' : Nat} {A B A' B' : Option Addr} {c d c' d' : List Ve} {t s : Int × Int × Int}
theorem Cq.below (h : Cq w wr p q A ca c B cb d t s) (hb : Below wr.heap.size wr w') : Cq w w' p q A ca c B cb d t s :=
  ⟨(h.s1.below hb).more hb.size, (h.s2.below hb).more hb.size, h.f1, h.f2, h.ok, h.chn, h.d, h.hp.below hb, h.hq.below hb, fun j hj => (hb.frozen (p := ⟨q, j, none⟩) h.ql).trans (h.fr j hj), h.pq, h.wq, Nat.lt_of_lt_of_le h.ql hb.size, h.bel.trans (hb.mono h.bel.size)⟩
theorem Cq.dok (h : Cq w wr p q A ca c B cb d t s) : ∀ u ∈ d, Vok u := fun u hu => h.ok u (List.mem_of_mem_drop (h.d ▸ hu))
theorem Cq.dchn (h : Cq w wr p q A ca c B cb d t s) : Chn d := by rw [h.d]; exact h.chn.sublist (List.drop_sublist _ _)
theorem Cq.dlen (h : Cq w wr p q A ca c B cb d t s) : d.length ≤ c.length := by rw [h.d]; simp
theorem Cq.turn (h : Cq w wr p q A ca c B cb d t s) : Cq w (store3 wr q t) p q A ca c B cb d t t := by
  refine ⟨?_, ?_, h.f1, h.f2, h.ok, h.chn, h.d, ?_, ?_, fun j hj => frS (frS (frS (h.fr j hj))), h.pq, h.wq, by rw [store3_size]; exact h.ql, store3_below h.bel h.wq⟩
  · rw [store3_size]; exact h.s1.keepN fun ad e hl j => store3_cell (by rw [el_block_of_add]; exact Ne.symm (h.f1 ad e hl))
  · rw [store3_size]; exact h.s2.keepN fun ad e hl j => store3_cell (by rw [el_block_of_add]; exact Ne.symm (h.f2 ad e hl))
  · exact ⟨(store3_cell (Ne.symm h.pq)).trans h.hp.1, (store3_cell (Ne.symm h.pq)).trans h.hp.2.1, (store3_cell (Ne.symm h.pq)).trans h.hp.2.2⟩
  · obtain ⟨h0, h1, h2⟩ := h.hq
    exact ⟨cellO (by simp) (cellO (by simp) (cellS (isOf h0))), cellO (by simp) (cellS (isS (isOf h1))), cellS (isS (isS (isOf h2)))⟩
end
set_option maxRecDepth 100000 in
set_option maxHeartbeats 12800000 in
theorem ccuts_any (A0 : Option Addr) (cap0 : Nat) (l : List Ve) (A9 : Option Addr) (cap9 : Nat) (m : List Ve) (t1 t2 t3 s1 s2 s3 : Int) (w : World) (h0 : Sr encV 6 w w.heap.size A0 cap0 l) (ho0 : ∀ u ∈ l, Vok u) (h9 : Sr encV 6 w w.heap.size A9 cap9 m) (ho9 : ∀ u ∈ m, Vok u) (ht2 : 0 ≤ t2 ∧ t2 ≤ 4294967295) (ht3 : 0 ≤ t3 ∧ t3 ≤ 4294967295) (hs2 : 0 ≤ s2 ∧ s2 ≤ 4294967295) (hs3 : 0 ≤ s3 ∧ s3 ≤ 4294967295) :
    Calls Try.prog 6 #[.slice A0 l.length cap0, .slice A9 m.length cap9, stv t1 t2 t3, stv s1 s2 s3] w (Ok0 w) := by
  have hcl := h9.le
  have hcm := h9.max
  unfold maxLen at hcm
  have H9 := Lib.hid h9
  have HO9 := Lib.hid ho9
  have HMD := Lib.hid (fun w' (hb : Below w.heap.size w w') => made_any A0 cap0 l w' ((h0.below hb).more hb.size) ho0)
  have B0 := ((Below.refl w.heap.size w).alloc (Nat.le_refl _) (.cells #[.int .i64 t1, .int .u32 t2, .int .u32 t3] 24)).alloc (by simp) (.cells #[.int .i64 s1, .int .u32 s2, .int .u32 s3] 24)
  have HM0 := Lib.hid (HMD.out _ B0)
  have HB0 := Lib.hid B0
  clear h0 ho0 B0 HMD h9 ho9
  go_enter Try.func6, Try.ntmps6
  go_wp2_with fail
  refine HM0.out.mono ?_
  rintro e w1 ⟨A, cap, B, cap2, c, rfl, hc60, M1⟩
  have m0 : w1.cell? ⟨w.heap.size, 0, none⟩ = some (.int .i64 t1) := kept M1.bel (by simp)
  have m1 : w1.cell? ⟨w.heap.size, 1, none⟩ = some (.int .u32 t2) := kept M1.bel (by simp)
  have m2 : w1.cell? ⟨w.heap.size, 2, none⟩ = some (.int .u32 t3) := kept M1.bel (by simp)
  have n0 : w1.cell? ⟨w.heap.size + 1, 0, none⟩ = some (.int .i64 s1) := kept M1.bel (by simp)
  have n1 : w1.cell? ⟨w.heap.size + 1, 1, none⟩ = some (.int .u32 s2) := kept M1.bel (by simp)
  have n2 : w1.cell? ⟨w.heap.size + 1, 2, none⟩ = some (.int .u32 s3) := kept M1.bel (by simp)
  have M1 : Mk w w1 A cap B cap2 c := ⟨M1.s1, M1.s2, M1.ok, M1.chn, HB0.out.trans (M1.bel.mono HB0.out.size)⟩
  have hq1 : w.heap.size + 1 < w1.heap.size := World.block_lt_of_cell? w1 _ n0
  have HM1 := Lib.hid M1
  clear M1 HM0
  go_wp2_with fail
  refine (cawake_any _).mono ?_
  rintro e w2 ⟨rfl, hb⟩
  have HM2 := Lib.hid (HM1.out.below hb)
  have m0' := kept hb m0
  have m1' := kept hb m1
  have m2' := kept hb m2
  have n0' := kept hb n0
  have n1' := kept hb n1
  have n2' := kept hb n2
  have hq2 : w.heap.size + 1 < w2.heap.size := Nat.lt_of_lt_of_le hq1 hb.size
  clear hb m0 m1 m2 n0 n1 n2 HM1
  go_wp2_with fail
  apply region_invA (Lets (fun wx => Below w2.heap.size w2 wx) w2.heap.size 4 2 (fun j => ([.agg #[.int .i64 t1, .int .u32 t2, .int .u32 t3], .agg #[.int .i64 t1, .int .u32 t2, .int .u32 t3], .agg #[.int .i64 s1, .int .u32 s2, .int .u32 s3], .agg #[.int .i64 s1, .int .u32 s2, .int .u32 s3]] : List Value).getD j undef) (fun j => ([(t1, t2, t3), (s1, s2, s3)] : List (Int × Int × Int)).getD j (0, 0, 0)))
  case hm => kernel_rfl
  case hf => kernel_rfl
  case hQ => exact (by intro c x y w e h; exact And.intro (e.symm.trans (And.left h)) (And.right h))
  case hF => intro vs; simp only [putAll, Act.put, List.setIfInBounds_toArray, List.set_cons_zero, List.set_cons_succ, Nat.reduceAdd]; rfl
  case h0 => exact ⟨below_drewN _ _ 1, Nat.le_refl _, (fun _ _ h => by cases h), (fun _ _ h => by cases h), (fun _ _ _ _ _ h => by cases h), (fun _ _ h => by cases h)⟩
  case hstep =>
    repeat' (first | exact AllOps.nil | apply AllOps.cons)
    · intro l vs wx hJ hl hd K hK
      have p0 := (hJ.s.cell (p := ⟨w.heap.size, 0, none⟩) (by simp; omega)).trans m0'
      have p1 := (hJ.s.cell (p := ⟨w.heap.size, 1, none⟩) (by simp; omega)).trans m1'
      have p2 := (hJ.s.cell (p := ⟨w.heap.size, 2, none⟩) (by simp; omega)).trans m2'
      simp only [Act.put, List.setIfInBounds_toArray, List.set_cons_zero, List.set_cons_succ] at hK ⊢
      have HK := Lib.hid hK
      have HJ := Lib.hid hJ
      clear hK hJ hd
      go_simp
      exact HK.out _ _ (HJ.out.value (by omega) rfl (Below.refl _ _) HJ.out.s)
    · intro l vs wx hJ hl hd K hK
      simp [depsOf, AllL, Region.binds, List.filterMap] at hd
      have e0 : vs 0 = .agg #[.int .i64 t1, .int .u32 t2, .int .u32 t3] := hJ.v 0 (by omega) (by first | exact hd | exact hd.1)
      simp only [Act.put, List.setIfInBounds_toArray, List.set_cons_zero, List.set_cons_succ, e0] at hK ⊢
      have HK := Lib.hid hK
      have HJ := Lib.hid hJ
      clear hK hJ hd e0
      go_simp
      refine (to_any _ _ _ _).mono ?_
      rintro e wz ⟨rfl, hb⟩
      exact HK.out _ _ (HJ.out.value (by omega) rfl hb (HJ.out.s.trans (hb.mono HJ.out.n)))
    · intro l vs wx hJ hl hd K hK
      have p0 := (hJ.s.cell (p := ⟨w.heap.size + 1, 0, none⟩) (by simp; omega)).trans n0'
      have p1 := (hJ.s.cell (p := ⟨w.heap.size + 1, 1, none⟩) (by simp; omega)).trans n1'
      have p2 := (hJ.s.cell (p := ⟨w.heap.size + 1, 2, none⟩) (by simp; omega)).trans n2'
      simp only [Act.put, List.setIfInBounds_toArray, List.set_cons_zero, List.set_cons_succ] at hK ⊢
      have HK := Lib.hid hK
      have HJ := Lib.hid hJ
      clear hK hJ hd
      go_simp
      exact HK.out _ _ (HJ.out.value (by omega) rfl (Below.refl _ _) HJ.out.s)
    · intro l vs wx hJ hl hd K hK
      simp [depsOf, AllL, Region.binds, List.filterMap] at hd
      have e0 : vs 2 = .agg #[.int .i64 s1, .int .u32 s2, .int .u32 s3] := hJ.v 2 (by omega) (by first | exact hd | exact hd.1)
      simp only [Act.put, List.setIfInBounds_toArray, List.set_cons_zero, List.set_cons_succ, e0] at hK ⊢
      have HK := Lib.hid hK
      have HJ := Lib.hid hJ
      clear hK hJ hd e0
      go_simp
      refine (to_any _ _ _ _).mono ?_
      rintro e wz ⟨rfl, hb⟩
      exact HK.out _ _ (HJ.out.value (by omega) rfl hb (HJ.out.s.trans (hb.mono HJ.out.n)))
    · intro l vs wx hJ hl hd K hK
      simp only [Act.put, List.setIfInBounds_toArray, List.set_cons_zero, List.set_cons_succ] at hK ⊢
      have HK := Lib.hid hK
      have HJ := Lib.hid hJ
      have HL := Lib.hid hl
      clear hK hJ hd hl
      go_simp
      exact HK.out _ _ (HJ.out.made (i := 0) (by omega) HL.out (HJ.out.s.alloc HJ.out.n _))
    · intro l vs wx hJ hl hd K hK
      simp only [Act.put, List.setIfInBounds_toArray, List.set_cons_zero, List.set_cons_succ] at hK ⊢
      have HK := Lib.hid hK
      have HJ := Lib.hid hJ
      have HL := Lib.hid hl
      clear hK hJ hd hl
      go_simp
      exact HK.out _ _ (HJ.out.made (i := 1) (by omega) HL.out (HJ.out.s.alloc HJ.out.n _))
    · intro l vs wx hJ hl hd K hK
      simp [depsOf, AllL, Region.binds, List.filterMap] at hd
      have h6 : l 4 = true := by simp_all
      have h1 : l 1 = true := by simp_all
      have e1 : vs 1 = .agg #[.int .i64 t1, .int .u32 t2, .int .u32 t3] := hJ.v 1 (by omega) h1
      obtain ⟨b, e6, hNb, hbw, hR⟩ := hJ.p 0 (by omega) h6
      have e6' : vs 4 = .pointer (some ⟨b, 0, none⟩) := e6
      obtain ⟨u0, r0⟩ := Option.isSome_iff_exists.1 (hR 0 (by omega)).1
      obtain ⟨u1, r1⟩ := Option.isSome_iff_exists.1 (hR 1 (by omega)).1
      obtain ⟨u2, r2⟩ := Option.isSome_iff_exists.1 (hR 2 (by omega)).1
      have f0 := (hR 0 (by omega)).2
      have f1 := (hR 1 (by omega)).2
      have f2 := (hR 2 (by omega)).2
      simp only [Act.put, e1, e6'] at hK ⊢
      have HK := Lib.hid hK
      have HJ := Lib.hid hJ
      have H6 := Lib.hid h6
      have E6 := Lib.hid e6
      clear hK hJ hd e1 e6 e6' h1 h6 hl hR hbw
      go_simp
      exact HK.out undef _ (HJ.out.stored (i := 0) (by omega) H6.out E6.out (store3_below HJ.out.s hNb) _)
    · intro l vs wx hJ hl hd K hK
      simp [depsOf, AllL, Region.binds, List.filterMap] at hd
      have h6 : l 5 = true := by simp_all
      have h1 : l 3 = true := by simp_all
      have e1 : vs 3 = .agg #[.int .i64 s1, .int .u32 s2, .int .u32 s3] := hJ.v 3 (by omega) h1
      obtain ⟨b, e6, hNb, hbw, hR⟩ := hJ.p 1 (by omega) h6
      have e6' : vs 5 = .pointer (some ⟨b, 0, none⟩) := e6
      obtain ⟨u0, r0⟩ := Option.isSome_iff_exists.1 (hR 0 (by omega)).1
      obtain ⟨u1, r1⟩ := Option.isSome_iff_exists.1 (hR 1 (by omega)).1
      obtain ⟨u2, r2⟩ := Option.isSome_iff_exists.1 (hR 2 (by omega)).1
      have f0 := (hR 0 (by omega)).2
      have f1 := (hR 1 (by omega)).2
      have f2 := (hR 2 (by omega)).2
      simp only [Act.put, e1, e6'] at hK ⊢
      have HK := Lib.hid hK
      have HJ := Lib.hid hJ
      have H6 := Lib.hid h6
      have E6 := Lib.hid e6
      clear hK hJ hd e1 e6 e6' h1 h6 hl hR hbw
      go_simp
      exact HK.out undef _ (HJ.out.stored (i := 1) (by omega) H6.out E6.out (store3_below HJ.out.s hNb) _)
  case hend =>
    intro l vs wx hall hJ
    obtain ⟨p, ep, hpN, hpw, _⟩ := hJ.p 0 (by omega) (hall 4 (by decide))
    obtain ⟨q, eq, hqN, hqw, hqR⟩ := hJ.p 1 (by omega) (hall 5 (by decide))
    have ep' : vs 4 = .pointer (some ⟨p, 0, none⟩) := ep
    have eq' : vs 5 = .pointer (some ⟨q, 0, none⟩) := eq
    have hpq : p ≠ q := fun e => hJ.d 0 1 (by omega) (by omega) (by omega) (hall 4 (by decide)) (hall 5 (by decide)) (by rw [e] at ep; exact ep.trans eq.symm)
    have hP : At3 wx p (t1, t2, t3) := (hJ.h 0 (by omega) (hall 6 (by decide))).2 p ep
    have hQ : At3 wx q (s1, s2, s3) := (hJ.h 1 (by omega) (hall 7 (by decide))).2 q eq
    have hB := hJ.s
    simp only [ep', eq']
    clear hJ ep eq ep' eq' hall
    have hwx : w2.heap.size ≤ wx.heap.size := hB.size
    have sx : Sr encV 6 wx w2.heap.size A cap c := HM2.out.s1.below hB
    have HCU := Lib.hid (cut_any sx hwx HM2.out.ok HM2.out.chn (by omega) ht2 ht3 (a := t1))
    have HP := Lib.hid hP
    have HQ := Lib.hid hQ
    have HQR := Lib.hid (fun j hj => (hqR j hj).2)
    have HSX := Lib.hid sx
    have HBX := Lib.hid hB
    obtain ⟨p0, p1, p2⟩ := hP
    clear hB sx hQ hqR m0' m1' m2' n0' n1' n2'
    go_wp2_with fail
    refine HCU.out.mono ?_
    rintro e w3 ⟨B3, c3, rfl, s3x, hb, n3⟩
    have HC3 : Hid (Cq w w3 p q A cap c B3 c3 (c.drop (cutN c t1 t2 t3)) (t1, t2, t3) (s1, s2, s3)) := Lib.hid ⟨(HSX.out.below (hb.mono hwx)).more (Nat.le_trans hwx hb.size), s3x, fun ad e hl => (by obtain ⟨ad', e', hk, _⟩ := HSX.out.at_ hl; rw [e] at e'; cases e'; omega), fun ad e _ => (by have := n3 ad e; omega), HM2.out.ok, HM2.out.chn, rfl, HP.out.below hb, HQ.out.below hb, fun j hj => (hb.frozen (p := ⟨q, j, none⟩) hqw).trans (HQR.out j hj), hpq, Nat.le_trans HM2.out.bel.size hqN, Nat.lt_of_lt_of_le hqw hb.size, HM2.out.bel.trans ((HBX.out.trans (hb.mono hwx)).mono HM2.out.bel.size)⟩
    have hdl := HC3.out.dlen
    obtain ⟨D, hD⟩ : ∃ D, D = c.drop (cutN c t1 t2 t3) := ⟨_, rfl⟩
    rw [← hD] at HC3 hdl ⊢
    have hng : decide (c.length < D.length) = false := decide_eq_false (by omega)
    clear hD hb s3x n3 p0 p1 p2 HCU HSX HBX HP HQ HQR
    go_wp2_with fail
    go_loopw [51, 9, 14] (fun iv cv dv wr => ∃ (i : Nat) (A : Option Addr) (ca : Nat) (c : List Ve) (B : Option Addr) (cb : Nat) (d : List Ve), iv = .int .i64 (i : Int) ∧ cv = .slice A c.length ca ∧ dv = .slice B d.length cb ∧ i ≤ m.length ∧ c.length ≤ 60 + i ∧ c.length ≤ 90 ∧ Cq w wr p q A ca c B cb d (t1, t2, t3) (s1, s2, s3)) (fun iv _ _ _ => m.length - (intOf iv).toNat)
    case atStart => exact ⟨0, A, cap, c, B3, c3, D, rfl, rfl, rfl, Nat.zero_le _, by omega, by omega, HC3.out⟩
    case round =>
      clear HC3 hng hdl hc60 HM2
      obtain ⟨i, A, ca, c, B, cb, d, rfl, rfl, rfl, hi, hci, hc90, C⟩ := hrel
      rename World => W0
      have HC := Lib.hid C
      have hzq := C.ql
      have hzp : p < W0.heap.size := World.block_lt_of_cell? _ _ C.hp.1
      clear C
      by_cases hlt : i < m.length
      · obtain ⟨ad, hA, hbK, g0, g1⟩ := (H9.out.below HC.out.bel).get2 hlt
        subst hA
        have hvm : Vok m[i] := HO9.out _ (List.getElem_mem hlt)
        generalize m[i] = v at *
        have u0 := g0 _ rfl
        have u1 := g1 1 (.int .u32 v.t) (by decide) rfl
        have u2 := g1 2 (.int .u32 v.m) (by decide) rfl
        have u3 := g1 3 (.int .i64 v.k) (by decide) rfl
        have u4 := g1 4 (.int .i64 v.n) (by decide) rfl
        have u5 := g1 5 (.string v.x) (by decide) rfl
        have HV := Lib.hid hvm
        clear g0 g1 hvm
        obtain ⟨W1, hW1⟩ : ∃ W1, W1 = W0.alloc (.cells #[.int .i64 v.w, .int .u32 v.t, .int .u32 v.m, .int .i64 v.k, .int .i64 v.n, .string v.x] 26) := ⟨_, rfl⟩
        have HC1 : Hid (Cq w W1 p q A ca c B cb d (t1, t2, t3) (s1, s2, s3)) := Lib.hid (by rw [hW1]; exact HC.out.below ((Below.refl _ _).alloc (Nat.le_refl _) _))
        have HGV : Hid (Gv W1 W0.heap.size v p (t1, t2, t3) W1) := Lib.hid ⟨by rw [hW1]; exact ⟨by simp, by simp, by simp, by simp, by simp, by simp⟩, HC1.out.hp, Below.refl _ _⟩
        by_cases h30 : i < 30
        · have h30b : decide ((30 : Int) ≤ (i : Int)) = false := by rw [decide_eq_false_iff_not]; omega
          obtain ⟨k, hk⟩ : ∃ k, k = cmpS v.w v.t v.m t1 t2 t3 := ⟨_, rfl⟩
          have HCM := Lib.hid (fun w => compare_any v.w v.t v.m t1 t2 t3 HV.out.t0 HV.out.t1 HV.out.m0 HV.out.m1 ht2.1 ht2.2 ht3.1 ht3.2 w)
          rw [← hk] at HCM
          by_cases hk0 : k ≤ 0
          · clear hk
            go_wp2_with fail
            rw [← hW1]
            clear hW1 u0 u1 u2 u3 u4 u5
            apply region_V Pv.holds (Gv W1 W0.heap.size v p (t1, t2, t3)) [.v (.int .i64 (i : Int)), .v (.bool false), .v (.bool false), .v (agV v), .v (agV v), .v (stV v), .v (.agg #[.int .i64 t1, .int .u32 t2, .int .u32 t3]), .v (.int .i64 k), .v (.bool true), .v (.bool true)] (.v undef)
            case mono => exact fun p v w w1 h hb => Pv.mono h hb
            case hm => kernel_rfl
            case hf => kernel_rfl
            case hQ => exact (by intro c x y w e h; exact And.intro (e.symm.trans (And.left h)) (And.right h))
            case hF => intro vs; simp only [putAll, Act.put, List.setIfInBounds_toArray, List.set_cons_zero, List.set_cons_succ, Nat.reduceAdd]; rfl
            case h0 => exact HGV.out.below (below_drewN _ _ 1)
            case hstep =>
              repeat' (first | exact AllOps.nil | apply AllOps.cons)
              · intro vs wx hG hd K hK
                replace hK : ∀ (uu : Value) (w' : World), Below wx.heap.size wx w' → ((Gv W1 W0.heap.size v p (t1, t2, t3))) w' → Pv.holds (.v (.int .i64 (i : Int))) uu w' → K _ w' := hK
                simp only [Act.put, List.setIfInBounds_toArray, List.set_cons_zero, List.set_cons_succ] at hK ⊢
                have HK := Lib.hid hK
                have HG := Lib.hid hG
                clear hK hd
                clear hG
                go_simp
                exact HK.out _ _ (Below.refl _ _) HG.out rfl
              · intro vs wx hG hd K hK
                have e0 : vs 0 = .int .i64 (i : Int) := hd.get (j := 0) (by simp [depsOf, Region.binds])
                replace hK : ∀ (uu : Value) (w' : World), Below wx.heap.size wx w' → ((Gv W1 W0.heap.size v p (t1, t2, t3))) w' → Pv.holds (.v (.bool false)) uu w' → K _ w' := hK
                simp only [Act.put, List.setIfInBounds_toArray, List.set_cons_zero, List.set_cons_succ, e0] at hK ⊢
                have HK := Lib.hid hK
                have HG := Lib.hid hG
                clear hK hd e0
                clear hG
                go_simp
                exact HK.out _ _ (Below.refl _ _) HG.out rfl
              · intro vs wx hG hd K hK
                have e1 : vs 1 = .bool false := hd.get (j := 1) (by simp [depsOf, Region.binds])
                replace hK : ∀ (uu : Value) (w' : World), Below wx.heap.size wx w' → ((Gv W1 W0.heap.size v p (t1, t2, t3))) w' → Pv.holds (.v (.bool false)) uu w' → K _ w' := hK
                simp only [Act.put, List.setIfInBounds_toArray, List.set_cons_zero, List.set_cons_succ, e1] at hK ⊢
                have HK := Lib.hid hK
                have HG := Lib.hid hG
                clear hK hd e1
                clear hG
                go_simp
                exact HK.out _ _ (Below.refl _ _) HG.out rfl
              · intro vs wx hG hd K hK
                have e2 : vs 2 = .bool false := hd.get (j := 2) (by simp [depsOf, Region.binds])
                replace hK : ∀ (uu : Value) (w' : World), Below wx.heap.size wx w' → ((Gv W1 W0.heap.size v p (t1, t2, t3))) w' → Pv.holds (.v (agV v)) uu w' → K _ w' := hK
                simp only [Act.put, List.setIfInBounds_toArray, List.set_cons_zero, List.set_cons_succ, e2] at hK ⊢
                have HK := Lib.hid hK
                have HG := Lib.hid hG
                clear hK hd e2
                obtain ⟨⟨a0, a1, a2, a3, a4, a5⟩, ⟨b0, b1, b2⟩, _⟩ := hG
                go_simp
                exact HK.out _ _ (Below.refl _ _) HG.out rfl
              · intro vs wx hG hd K hK
                have e2 : vs 2 = .bool false := hd.get (j := 2) (by simp [depsOf, Region.binds])
                have e3 : vs 3 = agV v := hd.get (j := 3) (by simp [depsOf, Region.binds])
                replace hK : ∀ (uu : Value) (w' : World), Below wx.heap.size wx w' → ((Gv W1 W0.heap.size v p (t1, t2, t3))) w' → Pv.holds (.v (agV v)) uu w' → K _ w' := hK
                simp only [Act.put, List.setIfInBounds_toArray, List.set_cons_zero, List.set_cons_succ, e2, e3] at hK ⊢
                have HK := Lib.hid hK
                have HG := Lib.hid hG
                clear hK hd e2 e3
                clear hG
                go_simp
                go_at_call 10
                refine (tov_any v _).mono ?_
                rintro e w1 ⟨rfl, hb⟩
                exact HK.out _ _ hb (HG.out.below hb) rfl
              · intro vs wx hG hd K hK
                have e2 : vs 2 = .bool false := hd.get (j := 2) (by simp [depsOf, Region.binds])
                have e4 : vs 4 = agV v := hd.get (j := 4) (by simp [depsOf, Region.binds])
                replace hK : ∀ (uu : Value) (w' : World), Below wx.heap.size wx w' → ((Gv W1 W0.heap.size v p (t1, t2, t3))) w' → Pv.holds (.v (stV v)) uu w' → K _ w' := hK
                simp only [Act.put, List.setIfInBounds_toArray, List.set_cons_zero, List.set_cons_succ, e2, e4] at hK ⊢
                have HK := Lib.hid hK
                have HG := Lib.hid hG
                clear hK hd e2 e4
                clear hG
                go_simp
                exact HK.out _ _ (Below.refl _ _) HG.out rfl
              · intro vs wx hG hd K hK
                have e2 : vs 2 = .bool false := hd.get (j := 2) (by simp [depsOf, Region.binds])
                replace hK : ∀ (uu : Value) (w' : World), Below wx.heap.size wx w' → ((Gv W1 W0.heap.size v p (t1, t2, t3))) w' → Pv.holds (.v (.agg #[.int .i64 t1, .int .u32 t2, .int .u32 t3])) uu w' → K _ w' := hK
                simp only [Act.put, List.setIfInBounds_toArray, List.set_cons_zero, List.set_cons_succ, e2] at hK ⊢
                have HK := Lib.hid hK
                have HG := Lib.hid hG
                clear hK hd e2
                obtain ⟨⟨a0, a1, a2, a3, a4, a5⟩, ⟨b0, b1, b2⟩, _⟩ := hG
                go_simp
                exact HK.out _ _ (Below.refl _ _) HG.out rfl
              · intro vs wx hG hd K hK
                have e2 : vs 2 = .bool false := hd.get (j := 2) (by simp [depsOf, Region.binds])
                have e5 : vs 5 = stV v := hd.get (j := 5) (by simp [depsOf, Region.binds])
                have e6 : vs 6 = .agg #[.int .i64 t1, .int .u32 t2, .int .u32 t3] := hd.get (j := 6) (by simp [depsOf, Region.binds])
                replace hK : ∀ (uu : Value) (w' : World), Below wx.heap.size wx w' → ((Gv W1 W0.heap.size v p (t1, t2, t3))) w' → Pv.holds (.v (.int .i64 k)) uu w' → K _ w' := hK
                simp only [Act.put, List.setIfInBounds_toArray, List.set_cons_zero, List.set_cons_succ, e2, e5, e6] at hK ⊢
                have HK := Lib.hid hK
                have HG := Lib.hid hG
                clear hK hd e2 e5 e6
                clear hG
                go_simp
                go_at_call 22
                refine (HCM.out _).mono ?_
                rintro e w1 ⟨rfl, hb⟩
                exact HK.out _ _ hb (HG.out.below hb) rfl
              · intro vs wx hG hd K hK
                have e2 : vs 2 = .bool false := hd.get (j := 2) (by simp [depsOf, Region.binds])
                have e7 : vs 7 = .int .i64 k := hd.get (j := 7) (by simp [depsOf, Region.binds])
                replace hK : ∀ (uu : Value) (w' : World), Below wx.heap.size wx w' → ((Gv W1 W0.heap.size v p (t1, t2, t3))) w' → Pv.holds (.v (.bool true)) uu w' → K _ w' := hK
                simp only [Act.put, List.setIfInBounds_toArray, List.set_cons_zero, List.set_cons_succ, e2, e7] at hK ⊢
                have HK := Lib.hid hK
                have HG := Lib.hid hG
                clear hK hd e2 e7
                clear hG
                go_simp
                exact HK.out _ _ (Below.refl _ _) HG.out rfl
              · intro vs wx hG hd K hK
                have e2 : vs 2 = .bool false := hd.get (j := 2) (by simp [depsOf, Region.binds])
                have e8 : vs 8 = .bool true := hd.get (j := 8) (by simp [depsOf, Region.binds])
                replace hK : ∀ (uu : Value) (w' : World), Below wx.heap.size wx w' → ((Gv W1 W0.heap.size v p (t1, t2, t3))) w' → Pv.holds (.v (.bool true)) uu w' → K _ w' := hK
                simp only [Act.put, List.setIfInBounds_toArray, List.set_cons_zero, List.set_cons_succ, e2, e8] at hK ⊢
                have HK := Lib.hid hK
                have HG := Lib.hid hG
                clear hK hd e2 e8
                clear hG
                go_simp
                exact HK.out _ _ (Below.refl _ _) HG.out rfl
            case hend =>
              intro vs W2 hG hv
              have e9 : vs 9 = .bool true := hv 9 (by simp)
              simp only [e9]
              have HC2 := Lib.hid (HC1.out.below hG.bel)
              have HVB := Lib.hid hG.vb
              clear hG hv e9
              go_wp2
              go_roundw
              case rel => exact ⟨i + 1, A, ca, c, B, cb, d, by go_num, rfl, rfl, by omega, by omega, hc90, HC2.out⟩
              case measure => simp [intOf]; omega
          · have hgt : gtB v t1 t2 t3 = true := by unfold gtB; rw [← hk]; exact decide_eq_true (by omega)
            have hkb : decide (k ≤ 0) = false := decide_eq_false hk0
            clear hk
            go_wp2_with fail
            rw [← hW1]
            clear hW1 u0 u1 u2 u3 u4 u5
            apply region_V Pv.holds (Gv W1 W0.heap.size v p (t1, t2, t3)) [.v (.int .i64 (i : Int)), .v (.bool false), .v (.bool false), .v (agV v), .v (agV v), .v (stV v), .v (.agg #[.int .i64 t1, .int .u32 t2, .int .u32 t3]), .v (.int .i64 k), .v (.bool false), .v (.bool false)] (.v undef)
            case mono => exact fun p v w w1 h hb => Pv.mono h hb
            case hm => kernel_rfl
            case hf => kernel_rfl
            case hQ => exact (by intro c x y w e h; exact And.intro (e.symm.trans (And.left h)) (And.right h))
            case hF => intro vs; simp only [putAll, Act.put, List.setIfInBounds_toArray, List.set_cons_zero, List.set_cons_succ, Nat.reduceAdd]; rfl
            case h0 => exact HGV.out.below (below_drewN _ _ 1)
            case hstep =>
              repeat' (first | exact AllOps.nil | apply AllOps.cons)
              · intro vs wx hG hd K hK
                replace hK : ∀ (uu : Value) (w' : World), Below wx.heap.size wx w' → ((Gv W1 W0.heap.size v p (t1, t2, t3))) w' → Pv.holds (.v (.int .i64 (i : Int))) uu w' → K _ w' := hK
                simp only [Act.put, List.setIfInBounds_toArray, List.set_cons_zero, List.set_cons_succ] at hK ⊢
                have HK := Lib.hid hK
                have HG := Lib.hid hG
                clear hK hd
                clear hG
                go_simp
                exact HK.out _ _ (Below.refl _ _) HG.out rfl
              · intro vs wx hG hd K hK
                have e0 : vs 0 = .int .i64 (i : Int) := hd.get (j := 0) (by simp [depsOf, Region.binds])
                replace hK : ∀ (uu : Value) (w' : World), Below wx.heap.size wx w' → ((Gv W1 W0.heap.size v p (t1, t2, t3))) w' → Pv.holds (.v (.bool false)) uu w' → K _ w' := hK
                simp only [Act.put, List.setIfInBounds_toArray, List.set_cons_zero, List.set_cons_succ, e0] at hK ⊢
                have HK := Lib.hid hK
                have HG := Lib.hid hG
                clear hK hd e0
                clear hG
                go_simp
                exact HK.out _ _ (Below.refl _ _) HG.out rfl
              · intro vs wx hG hd K hK
                have e1 : vs 1 = .bool false := hd.get (j := 1) (by simp [depsOf, Region.binds])
                replace hK : ∀ (uu : Value) (w' : World), Below wx.heap.size wx w' → ((Gv W1 W0.heap.size v p (t1, t2, t3))) w' → Pv.holds (.v (.bool false)) uu w' → K _ w' := hK
                simp only [Act.put, List.setIfInBounds_toArray, List.set_cons_zero, List.set_cons_succ, e1] at hK ⊢
                have HK := Lib.hid hK
                have HG := Lib.hid hG
                clear hK hd e1
                clear hG
                go_simp
                exact HK.out _ _ (Below.refl _ _) HG.out rfl
              · intro vs wx hG hd K hK
                have e2 : vs 2 = .bool false := hd.get (j := 2) (by simp [depsOf, Region.binds])
                replace hK : ∀ (uu : Value) (w' : World), Below wx.heap.size wx w' → ((Gv W1 W0.heap.size v p (t1, t2, t3))) w' → Pv.holds (.v (agV v)) uu w' → K _ w' := hK
                simp only [Act.put, List.setIfInBounds_toArray, List.set_cons_zero, List.set_cons_succ, e2] at hK ⊢
                have HK := Lib.hid hK
                have HG := Lib.hid hG
                clear hK hd e2
                obtain ⟨⟨a0, a1, a2, a3, a4, a5⟩, ⟨b0, b1, b2⟩, _⟩ := hG
                go_simp
                exact HK.out _ _ (Below.refl _ _) HG.out rfl
              · intro vs wx hG hd K hK
                have e2 : vs 2 = .bool false := hd.get (j := 2) (by simp [depsOf, Region.binds])
                have e3 : vs 3 = agV v := hd.get (j := 3) (by simp [depsOf, Region.binds])
                replace hK : ∀ (uu : Value) (w' : World), Below wx.heap.size wx w' → ((Gv W1 W0.heap.size v p (t1, t2, t3))) w' → Pv.holds (.v (agV v)) uu w' → K _ w' := hK
                simp only [Act.put, List.setIfInBounds_toArray, List.set_cons_zero, List.set_cons_succ, e2, e3] at hK ⊢
                have HK := Lib.hid hK
                have HG := Lib.hid hG
                clear hK hd e2 e3
                clear hG
                go_simp
                go_at_call 10
                refine (tov_any v _).mono ?_
                rintro e w1 ⟨rfl, hb⟩
                exact HK.out _ _ hb (HG.out.below hb) rfl
              · intro vs wx hG hd K hK
                have e2 : vs 2 = .bool false := hd.get (j := 2) (by simp [depsOf, Region.binds])
                have e4 : vs 4 = agV v := hd.get (j := 4) (by simp [depsOf, Region.binds])
                replace hK : ∀ (uu : Value) (w' : World), Below wx.heap.size wx w' → ((Gv W1 W0.heap.size v p (t1, t2, t3))) w' → Pv.holds (.v (stV v)) uu w' → K _ w' := hK
                simp only [Act.put, List.setIfInBounds_toArray, List.set_cons_zero, List.set_cons_succ, e2, e4] at hK ⊢
                have HK := Lib.hid hK
                have HG := Lib.hid hG
                clear hK hd e2 e4
                clear hG
                go_simp
                exact HK.out _ _ (Below.refl _ _) HG.out rfl
              · intro vs wx hG hd K hK
                have e2 : vs 2 = .bool false := hd.get (j := 2) (by simp [depsOf, Region.binds])
                replace hK : ∀ (uu : Value) (w' : World), Below wx.heap.size wx w' → ((Gv W1 W0.heap.size v p (t1, t2, t3))) w' → Pv.holds (.v (.agg #[.int .i64 t1, .int .u32 t2, .int .u32 t3])) uu w' → K _ w' := hK
                simp only [Act.put, List.setIfInBounds_toArray, List.set_cons_zero, List.set_cons_succ, e2] at hK ⊢
                have HK := Lib.hid hK
                have HG := Lib.hid hG
                clear hK hd e2
                obtain ⟨⟨a0, a1, a2, a3, a4, a5⟩, ⟨b0, b1, b2⟩, _⟩ := hG
                go_simp
                exact HK.out _ _ (Below.refl _ _) HG.out rfl
              · intro vs wx hG hd K hK
                have e2 : vs 2 = .bool false := hd.get (j := 2) (by simp [depsOf, Region.binds])
                have e5 : vs 5 = stV v := hd.get (j := 5) (by simp [depsOf, Region.binds])
                have e6 : vs 6 = .agg #[.int .i64 t1, .int .u32 t2, .int .u32 t3] := hd.get (j := 6) (by simp [depsOf, Region.binds])
                replace hK : ∀ (uu : Value) (w' : World), Below wx.heap.size wx w' → ((Gv W1 W0.heap.size v p (t1, t2, t3))) w' → Pv.holds (.v (.int .i64 k)) uu w' → K _ w' := hK
                simp only [Act.put, List.setIfInBounds_toArray, List.set_cons_zero, List.set_cons_succ, e2, e5, e6] at hK ⊢
                have HK := Lib.hid hK
                have HG := Lib.hid hG
                clear hK hd e2 e5 e6
                clear hG
                go_simp
                go_at_call 22
                refine (HCM.out _).mono ?_
                rintro e w1 ⟨rfl, hb⟩
                exact HK.out _ _ hb (HG.out.below hb) rfl
              · intro vs wx hG hd K hK
                have e2 : vs 2 = .bool false := hd.get (j := 2) (by simp [depsOf, Region.binds])
                have e7 : vs 7 = .int .i64 k := hd.get (j := 7) (by simp [depsOf, Region.binds])
                replace hK : ∀ (uu : Value) (w' : World), Below wx.heap.size wx w' → ((Gv W1 W0.heap.size v p (t1, t2, t3))) w' → Pv.holds (.v (.bool false)) uu w' → K _ w' := hK
                simp only [Act.put, List.setIfInBounds_toArray, List.set_cons_zero, List.set_cons_succ, e2, e7] at hK ⊢
                have HK := Lib.hid hK
                have HG := Lib.hid hG
                clear hK hd e2 e7
                clear hG
                go_simp
                exact HK.out _ _ (Below.refl _ _) HG.out rfl
              · intro vs wx hG hd K hK
                have e2 : vs 2 = .bool false := hd.get (j := 2) (by simp [depsOf, Region.binds])
                have e8 : vs 8 = .bool false := hd.get (j := 8) (by simp [depsOf, Region.binds])
                replace hK : ∀ (uu : Value) (w' : World), Below wx.heap.size wx w' → ((Gv W1 W0.heap.size v p (t1, t2, t3))) w' → Pv.holds (.v (.bool false)) uu w' → K _ w' := hK
                simp only [Act.put, List.setIfInBounds_toArray, List.set_cons_zero, List.set_cons_succ, e2, e8] at hK ⊢
                have HK := Lib.hid hK
                have HG := Lib.hid hG
                clear hK hd e2 e8
                clear hG
                go_simp
                exact HK.out _ _ (Below.refl _ _) HG.out rfl
            case hend =>
              intro vs W2 hG hv
              have e9 : vs 9 = .bool false := hv 9 (by simp)
              simp only [e9]
              have HC2 := Lib.hid (HC1.out.below hG.bel)
              have HVB := Lib.hid hG.vb
              clear hG hv e9
              have ⟨y0, y1, y2, y3, y4, y5⟩ := HVB.out
              have hzb : W0.heap.size < W2.heap.size := HVB.out.lt
              obtain ⟨r, c', hpv⟩ : ∃ r c', putV c v = (r, c') := ⟨_, _, rfl⟩
              obtain ⟨e1, e2⟩ := cut_put HC2.out.chn hgt
              rw [← HC2.out.d] at e1
              have hpl := put_len c v
              have hpo := fun (h : (putV c v).1 = 0) => put_ok h
              have hpm := fun (u : Ve) => @put_mem c v u
              have hp1 := fun (W : World) (h : Cq w W p q A ca c B cb d (t1, t2, t3) (s1, s2, s3)) => put_any h.s1 (Nat.le_refl _) h.ok h.chn (by omega) HV.out
              have hp2 := fun (W : World) (h : Cq w W p q A ca c B cb d (t1, t2, t3) (s1, s2, s3)) => put_any h.s2 (Nat.le_refl _) h.dok h.dchn (by have := h.dlen; omega) HV.out
              rw [hpv] at hp1 hpl hpo hpm e2 e1
              rw [e1] at hp2
              simp only at hpl hpo hpm e2
              obtain ⟨N, hN⟩ : ∃ N, N = cutN c t1 t2 t3 := ⟨_, rfl⟩
              rw [← hN] at e2 hp2
              obtain ⟨d', hd'⟩ : ∃ d', d' = c'.drop N := ⟨_, rfl⟩
              rw [← hd'] at hp2
              have HP1 := Lib.hid hp1
              have HP2 := Lib.hid hp2
              have HPO := Lib.hid hpo
              have HPM := Lib.hid hpm
              have HE2 := Lib.hid e2
              have HD' := Lib.hid hd'
              clear hpo hpm hp1 hp2 e1 e2 hpv hN hd'
              go_wp2_with fail
              refine (tov_any v _).mono ?_
              rintro e w5 ⟨rfl, hb⟩
              have HC5 := Lib.hid (HC2.out.below hb)
              have HV5 := Lib.hid (HVB.out.below hb)
              have hz5 : W0.heap.size < w5.heap.size := Nat.lt_of_lt_of_le hzb hb.size
              clear hb y0 y1 y2 y3 y4 y5
              go_wp2_with fail
              refine (HP1.out _ HC5.out).mono ?_
              rintro e w6 ⟨A6, c6, rfl, s6, hb, n6⟩
              have HC6 := Lib.hid (HC5.out.below hb)
              have HV6 := Lib.hid (HV5.out.below hb)
              have HN6 := Lib.hid (fun ad h => Nat.lt_of_lt_of_le HC5.out.ql (n6 ad h))
              have HS6 := Lib.hid s6
              have hz6 : W0.heap.size < w6.heap.size := Nat.lt_of_lt_of_le hz5 hb.size
              clear hb s6 n6
              have ⟨y0, y1, y2, y3, y4, y5⟩ := HV6.out
              go_wp2_with fail
              refine (tov_any v _).mono ?_
              rintro e w7 ⟨rfl, hb⟩
              have HC7 := Lib.hid (HC6.out.below hb)
              have HS7 := Lib.hid ((HS6.out.below hb).more hb.size)
              clear hb y0 y1 y2 y3 y4 y5
              go_wp2_with fail
              refine (HP2.out _ HC7.out).mono ?_
              rintro e w8 ⟨A8, c8, rfl, s8, hb, n8⟩
              have HC8 := Lib.hid (HC7.out.below hb)
              have HS8 := Lib.hid ((HS7.out.below hb).more hb.size)
              have HT8 := Lib.hid s8
              have HN8 := Lib.hid (fun ad h => Nat.lt_of_lt_of_le HC7.out.ql (n8 ad h))
              clear hb s8 n8
              have hrr : (r != r) = false := by simp
              by_cases hr0 : r = 0
              · subst hr0
                obtain ⟨e1, e2, e3⟩ := HPO.out rfl
                have e4 : c' = insV c v := by injection e1
                have HN : Hid (Cq w w8 p q A6 c6 c' A8 c8 d' (t1, t2, t3) (s1, s2, s3)) := Lib.hid ⟨HS8.out, HT8.out, fun ad e _ => Ne.symm (Nat.ne_of_lt (HN6.out ad e)), fun ad e _ => Ne.symm (Nat.ne_of_lt (HN8.out ad e)), fun u hu => (HPM.out u hu).elim (fun e => e ▸ HV.out) (HC8.out.ok u), by rw [e4]; exact put_chn HC8.out.chn e3, by rw [HE2.out rfl]; exact HD'.out, HC8.out.hp, HC8.out.hq, HC8.out.fr, HC8.out.pq, HC8.out.wq, HC8.out.ql, HC8.out.bel⟩
                clear e1 e2 e3 e4
                go_wp2
                go_roundw
                case rel => exact ⟨i + 1, A6, c6, c', A8, c8, d', by go_num, rfl, rfl, by omega, by omega, by omega, HN.out⟩
                case measure => simp [intOf]; omega
              · have hr1 : (r == 0) = false := by simpa using hr0
                go_wp2
                go_roundw
                case rel => exact ⟨i + 1, A, ca, c, B, cb, d, by go_num, rfl, rfl, by omega, by omega, hc90, HC8.out⟩
                case measure => simp [intOf]; omega
        · have h30i : ¬ ((i : Int) < 30) := by omega
          have hge : decide ((30 : Int) ≤ (i : Int)) = true := by rw [decide_eq_true_eq]; omega
          go_wp2_with fail
          rw [← hW1]
          clear hW1 u0 u1 u2 u3 u4 u5
          go_big_quiet (fail)
          go_wp2
          go_roundw
          case rel => exact ⟨i + 1, A, ca, c, B, cb, d, by go_num, rfl, rfl, by omega, by omega, hc90, HC1.out.below (below_drewN _ _ _)⟩
          case measure => simp [intOf]; omega
      · obtain rfl : i = m.length := by omega
        obtain ⟨a0, a1, a2⟩ := HC.out.hp
        obtain ⟨b0, b1, b2⟩ := HC.out.hq
        have HCM := Lib.hid (fun w => compare_any s1 s2 s3 t1 t2 t3 hs2.1 hs2.2 hs3.1 hs3.2 ht2.1 ht2.2 ht3.1 ht3.2 w)
        obtain ⟨k, hk⟩ : ∃ k, k = cmpS s1 s2 s3 t1 t2 t3 := ⟨_, rfl⟩
        rw [← hk] at HCM
        go_wp2_with fail
        refine (HCM.out _).mono ?_
        rintro e w4 ⟨rfl, hb⟩
        have HC4 := Lib.hid (HC.out.below hb)
        clear hb a0 a1 a2 b0 b1 b2 HCM
        by_cases hk0 : k < 0
        · clear hk
          obtain ⟨a0, a1, a2⟩ := HC4.out.hp
          obtain ⟨b0, b1, b2⟩ := HC4.out.hq
          have f0 := HC4.out.fr 0 (by omega)
          have f1 := HC4.out.fr 1 (by omega)
          have f2 := HC4.out.fr 2 (by omega)
          have HC5 : Hid (Cq w (store3 w4 q (t1, t2, t3)) p q A ca c B cb d (t1, t2, t3) (t1, t2, t3)) := Lib.hid HC4.out.turn
          obtain ⟨W5, hW5⟩ : ∃ W5, W5 = store3 w4 q (t1, t2, t3) := ⟨_, rfl⟩
          rw [← hW5] at HC5
          go_upto_region 21 with fail
          rw [show ((w4.setCell ⟨q, 0, none⟩ (.int .i64 t1)).setCell ⟨q, 1, none⟩ (.int .u32 t2)).setCell ⟨q, 2, none⟩ (.int .u32 t3) = W5 from hW5.symm]
          clear hW5 a0 a1 a2 b0 b1 b2 f0 f1 f2
          obtain ⟨g, bo, HG, HRG⟩ : ∃ (g : Ve) (bo : Bool), (Hid (∀ W', Below (W5).heap.size (W5) W' → Calls Try.prog 13 #[.slice A c.length ca, stv t1 t2 t3] W' (GetQ W' g bo))) ∧ Hid (∀ W', Below (W5).heap.size (W5) W' → Calls Try.prog 13 #[.slice B d.length cb, stv t1 t2 t3] W' (GetQ W' g bo)) :=
            ⟨(getV c t1 t2 t3).getD nilV, (getV c t1 t2 t3).isSome, Lib.hid fun W' hb => get_any (HC5.out.below hb).s1 (Nat.le_refl _) HC5.out.ok HC5.out.chn (by omega) ht2 ht3, Lib.hid fun W' hb => by
              have e : getV c t1 t2 t3 = getV d t1 t2 t3 := by rw [HC5.out.d]; exact (cut_get (fun _ h => h)).symm
              rw [e]
              exact get_any (HC5.out.below hb).s2 (Nat.le_refl _) HC5.out.dok HC5.out.dchn (by have := HC5.out.dlen; omega) ht2 ht3⟩
          obtain ⟨q0, q1, q2⟩ := HC5.out.hq
          have hql := HC5.out.ql
          go_wp2_with fail
          refine (HG.out _ (Below.refl _ _)).mono ?_
          rintro e wa ⟨rfl, hb⟩
          have BX := (Below.refl wa.heap.size wa).alloc (Nat.le_refl _) (.cells #[.int .i64 g.w, .int .u32 g.t, .int .u32 g.m, .int .i64 g.k, .int .i64 g.n, .string g.x] 31)
          have r0 := kept hb q0
          have r1 := kept hb q1
          have r2 := kept hb q2
          have hqa : q < wa.heap.size := by have := (HC5.out.below hb).ql; exact this
          have HBa := Lib.hid (hb.trans (BX.mono hb.size))
          clear hb BX
          go_wp2_with fail
          refine (HRG.out _ HBa.out).mono ?_
          rintro e wb ⟨rfl, hb⟩
          have u0 : wb.cell? ⟨wa.heap.size, 0, none⟩ = some (.int .i64 g.w) := kept hb (by simp)
          have u1 : wb.cell? ⟨wa.heap.size, 1, none⟩ = some (.int .u32 g.t) := kept hb (by simp)
          have u2 : wb.cell? ⟨wa.heap.size, 2, none⟩ = some (.int .u32 g.m) := kept hb (by simp)
          have u3 : wb.cell? ⟨wa.heap.size, 3, none⟩ = some (.int .i64 g.k) := kept hb (by simp)
          have u4 : wb.cell? ⟨wa.heap.size, 4, none⟩ = some (.int .i64 g.n) := kept hb (by simp)
          have u5 : wb.cell? ⟨wa.heap.size, 5, none⟩ = some (.string g.x) := kept hb (by simp)
          have hab : wa.heap.size < wb.heap.size := Nat.lt_of_lt_of_le (by simp) hb.size
          have HF := HC5.out.bel.trans ((HBa.out.trans (hb.mono HBa.out.size)).mono HC5.out.bel.size)
          have HFF := Lib.hid (HF.alloc HF.size (.cells #[.int .i64 g.w, .int .u32 g.t, .int .u32 g.m, .int .i64 g.k, .int .i64 g.n, .string g.x] 31))
          clear hb HF
          cases bo
          all_goals
            go_wp2
            go_ret
            exact ⟨rfl, HFF.out⟩
        · have HY : Hid (∀ u : Ve, gtB u t1 t2 t3 = false → gtB u s1 s2 s3 = false) := Lib.hid fun u h => by
            unfold gtB at *
            have h1 := of_decide_eq_false h
            have k1 := cmpS_cases s1 s2 s3 t1 t2 t3
            have k2 := cmpS_cases u.w u.t u.m t1 t2 t3
            have k3 := cmpS_cases u.w u.t u.m s1 s2 s3
            rw [decide_eq_false_iff_not]
            omega
          clear hk
          have W4 := w4
          clear W4
          obtain ⟨g, bo, HG, HRG⟩ : ∃ (g : Ve) (bo : Bool), (Hid (∀ W', Below (w4).heap.size (w4) W' → Calls Try.prog 13 #[.slice A c.length ca, stv s1 s2 s3] W' (GetQ W' g bo))) ∧ Hid (∀ W', Below (w4).heap.size (w4) W' → Calls Try.prog 13 #[.slice B d.length cb, stv s1 s2 s3] W' (GetQ W' g bo)) :=
            ⟨(getV c s1 s2 s3).getD nilV, (getV c s1 s2 s3).isSome, Lib.hid fun W' hb => get_any (HC4.out.below hb).s1 (Nat.le_refl _) HC4.out.ok HC4.out.chn (by omega) hs2 hs3, Lib.hid fun W' hb => by
              have e : getV c s1 s2 s3 = getV d s1 s2 s3 := by rw [HC4.out.d]; exact (cut_get HY.out).symm
              rw [e]
              exact get_any (HC4.out.below hb).s2 (Nat.le_refl _) HC4.out.dok HC4.out.dchn (by have := HC4.out.dlen; omega) hs2 hs3⟩
          obtain ⟨q0, q1, q2⟩ := HC4.out.hq
          have hql := HC4.out.ql
          go_wp2_with fail
          refine (HG.out _ (Below.refl _ _)).mono ?_
          rintro e wa ⟨rfl, hb⟩
          have BX := (Below.refl wa.heap.size wa).alloc (Nat.le_refl _) (.cells #[.int .i64 g.w, .int .u32 g.t, .int .u32 g.m, .int .i64 g.k, .int .i64 g.n, .string g.x] 31)
          have r0 := kept hb q0
          have r1 := kept hb q1
          have r2 := kept hb q2
          have hqa : q < wa.heap.size := by have := (HC4.out.below hb).ql; exact this
          have HBa := Lib.hid (hb.trans (BX.mono hb.size))
          clear hb BX
          go_wp2_with fail
          refine (HRG.out _ HBa.out).mono ?_
          rintro e wb ⟨rfl, hb⟩
          have u0 : wb.cell? ⟨wa.heap.size, 0, none⟩ = some (.int .i64 g.w) := kept hb (by simp)
          have u1 : wb.cell? ⟨wa.heap.size, 1, none⟩ = some (.int .u32 g.t) := kept hb (by simp)
          have u2 : wb.cell? ⟨wa.heap.size, 2, none⟩ = some (.int .u32 g.m) := kept hb (by simp)
          have u3 : wb.cell? ⟨wa.heap.size, 3, none⟩ = some (.int .i64 g.k) := kept hb (by simp)
          have u4 : wb.cell? ⟨wa.heap.size, 4, none⟩ = some (.int .i64 g.n) := kept hb (by simp)
          have u5 : wb.cell? ⟨wa.heap.size, 5, none⟩ = some (.string g.x) := kept hb (by simp)
          have hab : wa.heap.size < wb.heap.size := Nat.lt_of_lt_of_le (by simp) hb.size
          have HF := HC4.out.bel.trans ((HBa.out.trans (hb.mono HBa.out.size)).mono HC4.out.bel.size)
          have HFF := Lib.hid (HF.alloc HF.size (.cells #[.int .i64 g.w, .int .u32 g.t, .int .u32 g.m, .int .i64 g.k, .int .i64 g.n, .string g.x] 31))
          clear hb HF
          cases bo
          all_goals
            go_wp2
            go_ret
            exact ⟨rfl, HFF.out⟩
end Go.Proofs.Ytbeclajbpfglgaa
