/- ChainModel: its walk. -/
import Derived.Test.YtbeclajbpfglgaaChT
import Derived.Test.YtbeclajbpfglgaaChN
namespace Go.Proofs.Ytbeclajbpfglgaa
open Go.RowKit Go.BigFrame

theorem Sr.keepB {α : Type} {enc : α → List Value} {k : Nat} {w w' : World} {K cap : Nat} {A : Option Addr} {l : List α} (h : Sr enc k w K A cap l) (hk : ∀ ad : Addr, A = some ad → ∀ j, w'.cell? (ad.add j) = w.cell? (ad.add j)) : Sr enc k w' K A cap l :=
  ⟨h.le, h.max, h.nil, fun hn => by
    obtain ⟨ad, e, hb, hc⟩ := h.at_ hn
    exact ⟨ad, e, hb, fun i x hi j u hu => (hk ad e _).trans (hc i x hi j u hu)⟩⟩
theorem setV_cell {w : World} {s : Nat} {v : Ve} {p : Addr} (hne : s ≠ p.block) : (setV w s v).cell? p = w.cell? p := by
  have hp : ∀ i, (⟨s, i, none⟩ : Addr) ≠ p := fun i e => hne (by rw [← e])
  unfold setV
  rw [World.cell?_setCell_other _ _ _ _ (hp 5), World.cell?_setCell_other _ _ _ _ (hp 4), World.cell?_setCell_other _ _ _ _ (hp 3), World.cell?_setCell_other _ _ _ _ (hp 2), World.cell?_setCell_other _ _ _ _ (hp 1), World.cell?_setCell_other _ _ _ _ (hp 0)]
theorem setV_size (w : World) (s : Nat) (v : Ve) : (setV w s v).heap.size = w.heap.size := by simp [setV, World.setCell]
theorem Fr6.set {w : World} {b s : Nat} {v : Ve} (h : Fr6 w b) : Fr6 (setV w s v) b := fun j => frS (frS (frS (frS (frS (frS (h j))))))
/-- The chain so far, and the best version in its box. -/
structure Md (w wr : World) (A : Option Addr) (cap : Nat) (c : List Ve) (x y z : Int) : Prop where
  sr : Sr encV 6 wr wr.heap.size A cap c
  far : ∀ ad : Addr, A = some ad → ad.block ≠ w.heap.size + 1
  ok : ∀ u ∈ c, Vok u
  chn : Chn c
  best : Vb wr (w.heap.size + 1) ((lastV c x y z).getD nilV)
  fr : Fr6 wr (w.heap.size + 1)
  s0 : wr.cell? ⟨w.heap.size, 0, none⟩ = some (.int .i64 x)
  s1 : wr.cell? ⟨w.heap.size, 1, none⟩ = some (.int .u32 y)
  s2 : wr.cell? ⟨w.heap.size, 2, none⟩ = some (.int .u32 z)
  bel : Below w.heap.size w wr
  lt : w.heap.size + 1 < wr.heap.size
section
variable {w wr w' : World} {A A' : Option Addr} {cap cap' : Nat} {c c' : List Ve} {x y z : Int} {v : Ve}
theorem Md.below (h : Md w wr A cap c x y z) (hb : Below wr.heap.size wr w') : Md w w' A cap c x y z :=
  ⟨(h.sr.below hb).more hb.size, h.far, h.ok, h.chn, h.best.below hb, h.fr.below h.lt hb, kept hb h.s0, kept hb h.s1, kept hb h.s2, h.bel.trans (hb.mono h.bel.size), Nat.lt_of_lt_of_le h.lt hb.size⟩
theorem Md.to (h : Md w wr A cap c x y z) (s : Sr encV 6 wr wr.heap.size A' cap' c') (hf : ∀ ad : Addr, A' = some ad → w.heap.size + 1 < ad.block) (ho : ∀ u ∈ c', Vok u) (hc : Chn c') (hl : lastV c' x y z = lastV c x y z) : Md w wr A' cap' c' x y z :=
  ⟨s, fun ad e => by have := hf ad e; omega, ho, hc, by rw [hl]; exact h.best, h.fr, h.s0, h.s1, h.s2, h.bel, h.lt⟩
theorem Md.store (h : Md w wr A cap c x y z) (s : Sr encV 6 wr wr.heap.size A' cap' c') (hf : ∀ ad : Addr, A' = some ad → w.heap.size + 1 < ad.block) (ho : ∀ u ∈ c', Vok u) (hc : Chn c') (hl : lastV c' x y z = some v) : Md w (setV wr (w.heap.size + 1) v) A' cap' c' x y z := by
  refine ⟨?_, fun ad e => by have := hf ad e; omega, ho, hc, by rw [hl]; exact h.best.put, h.fr.set, ?_, ?_, ?_, setV_below h.bel (by omega), by rw [setV_size]; exact h.lt⟩
  · rw [setV_size]
    exact s.keepB fun ad e j => setV_cell (by rw [el_block_of_add]; have := hf ad e; omega)
  · rw [setV_cell (by simp)]; exact h.s0
  · rw [setV_cell (by simp)]; exact h.s1
  · rw [setV_cell (by simp)]; exact h.s2
end
set_option maxRecDepth 100000 in
set_option maxHeartbeats 6400000 in
theorem cmodel_any (A0 : Option Addr) (cap0 : Nat) (l : List Ve) (x y z : Int) (w : World) (h0 : Sr encV 6 w w.heap.size A0 cap0 l) (ho0 : ∀ u ∈ l, Vok u) (hy : 0 ≤ y ∧ y ≤ 4294967295) (hz : 0 ≤ z ∧ z ≤ 4294967295) :
    Calls Try.prog 7 #[.slice A0 l.length cap0, stv x y z] w (Ok0 w) := by
  have hcl := h0.le
  have hcm := h0.max
  unfold maxLen at hcm
  have H0 := Lib.hid h0
  have HO := Lib.hid ho0
  clear h0 ho0
  go_enter Try.func7, Try.ntmps7
  have C0 : Md w ((w.alloc (.cells #[.int .i64 x, .int .u32 y, .int .u32 z] 24)).alloc (.cells #[.int .i64 0, .int .u32 0, .int .u32 0, .int .i64 0, .int .i64 0, .string ⟨#[]⟩] 26)) none 0 [] x y z :=
    ⟨Sr.none_ _ _, (fun _ h => by cases h), (fun _ h => by simp at h), by simp [Chn], ⟨by simp [nilV, lastV, posV], by simp [nilV, lastV, posV], by simp [nilV, lastV, posV], by simp [nilV, lastV, posV], by simp [nilV, lastV, posV], by simp [nilV, lastV, posV]⟩, fun j => by simp [go_sem], by simp, by simp, by simp, ((Below.refl _ _).alloc (Nat.le_refl _) _).alloc (by simp) _, by simp⟩
  go_wp2_with fail
  go_loopw [16, 5, 7] (fun iv cv hv wr => ∃ (i : Nat) (A : Option Addr) (cap : Nat) (c : List Ve), iv = .int .i64 (i : Int) ∧ cv = .slice A c.length cap ∧ hv = .bool (lastV c x y z).isSome ∧ i ≤ l.length ∧ c.length ≤ i ∧ i ≤ 60 ∧ Md w wr A cap c x y z) (fun iv _ _ _ => l.length - (intOf iv).toNat)
  case atStart => exact ⟨0, none, 0, [], rfl, rfl, rfl, Nat.zero_le _, Nat.le_refl _, by decide, C0⟩
  case round =>
    obtain ⟨i, A, cap, c, rfl, rfl, rfl, hi, hci, hi60, C⟩ := hrel
    rename World => W0
    have hlt1 := C.lt
    have HC := Lib.hid C
    clear C
    by_cases hlt : i < l.length
    · obtain ⟨ad, hA, hbK, g0, g1⟩ := (H0.out.below HC.out.bel).get2 hlt
      subst hA
      have hvm : Vok l[i] := HO.out _ (List.getElem_mem hlt)
      generalize l[i] = v at *
      have u0 := g0 _ rfl
      have u1 := g1 1 (.int .u32 v.t) (by decide) rfl
      have u2 := g1 2 (.int .u32 v.m) (by decide) rfl
      have u3 := g1 3 (.int .i64 v.k) (by decide) rfl
      have u4 := g1 4 (.int .i64 v.n) (by decide) rfl
      have u5 := g1 5 (.string v.x) (by decide) rfl
      have HV := Lib.hid hvm
      clear g0 g1 hvm
      have BX := (Below.refl W0.heap.size W0).alloc (Nat.le_refl _) (.cells #[.int .i64 v.w, .int .u32 v.t, .int .u32 v.m, .int .i64 v.k, .int .i64 v.n, .string v.x] 26)
      have HC1 := Lib.hid (HC.out.below BX)
      clear BX
      by_cases h60 : i < 60
      · have HT := Lib.hid (fun w => tov_any v w)
        go_wp2_with fail
        refine (HT.out _).mono ?_
        rintro e w1 ⟨rfl, b1⟩
        have y0 : w1.cell? ⟨W0.heap.size, 0, none⟩ = some (.int .i64 v.w) := kept b1 (by simp); have y1 : w1.cell? ⟨W0.heap.size, 1, none⟩ = some (.int .u32 v.t) := kept b1 (by simp); have y2 : w1.cell? ⟨W0.heap.size, 2, none⟩ = some (.int .u32 v.m) := kept b1 (by simp); have y3 : w1.cell? ⟨W0.heap.size, 3, none⟩ = some (.int .i64 v.k) := kept b1 (by simp); have y4 : w1.cell? ⟨W0.heap.size, 4, none⟩ = some (.int .i64 v.n) := kept b1 (by simp); have y5 : w1.cell? ⟨W0.heap.size, 5, none⟩ = some (.string v.x) := kept b1 (by simp); 
        have HC2 := Lib.hid (HC1.out.below b1)
        have hz1 : W0.heap.size < w1.heap.size := Nat.lt_of_lt_of_le (by simp) b1.size
        have HP := Lib.hid (put_any HC2.out.sr (Nat.le_refl _) HC2.out.ok HC2.out.chn (by omega) HV.out)
        clear b1
        go_wp2_with fail
        refine HP.out.mono ?_
        rintro e w2 ⟨A2, c2, rfl, s2, b2, n2⟩
        have HC3 := Lib.hid (HC2.out.below b2)
        have HS := Lib.hid s2
        have j0 := HC3.out.s0
        have j1 := HC3.out.s1
        have j2 := HC3.out.s2
        have HN := Lib.hid (fun ad h => Nat.lt_of_lt_of_le HC2.out.lt (n2 ad h))
        have k0 : w2.cell? ⟨W0.heap.size, 0, none⟩ = some (.int .i64 v.w) := kept b2 y0; have k1 : w2.cell? ⟨W0.heap.size, 1, none⟩ = some (.int .u32 v.t) := kept b2 y1; have k2 : w2.cell? ⟨W0.heap.size, 2, none⟩ = some (.int .u32 v.m) := kept b2 y2; have k3 : w2.cell? ⟨W0.heap.size, 3, none⟩ = some (.int .i64 v.k) := kept b2 y3; have k4 : w2.cell? ⟨W0.heap.size, 4, none⟩ = some (.int .i64 v.n) := kept b2 y4; have k5 : w2.cell? ⟨W0.heap.size, 5, none⟩ = some (.string v.x) := kept b2 y5; 
        clear y0 y1 y2 y3 y4 y5
        have HBt := Lib.hid (fun w => rbelow_any x y z v.w v.t v.m w)
        rw [below_gt] at HBt
        by_cases he : (putV c v).1 = 0
        · obtain ⟨hp, hr, hn⟩ := put_ok he
          have hpl := put_len c v
          have hmem := fun (q : Ve) => @put_mem c v q
          rw [hp] at hpl hmem HS
          rw [hp]
          have HM := Lib.hid (fun q (hq : q ∈ insV c v) => (hmem q hq).elim (fun e => e ▸ HV.out) (HC3.out.ok q))
          have HCH := Lib.hid (show Chn (insV c v) from put_chn HC3.out.chn hn)
          have HCN := Lib.hid HC3.out.chn
          have HNN := Lib.hid hn
          have h5 : (insV c v).length ≤ i + 1 := by simp at hpl; omega
          clear hpl hmem he hp hr hn
          cases hg : gtB v x y z with
          | true =>
            rw [hg] at HBt
            have HL := Lib.hid (ins_gt HCN.out HNN.out hg)
            generalize insV c v = c' at *
            clear hg
            go_wp2_with (go_at_call 23; refine (HBt.out _).mono ?_; rintro e w3 ⟨rfl, b3⟩; have hz3 := b3.size)
            go_roundw
            case rel => exact ⟨i + 1, A2, c2, c', by go_num, rfl, by rw [HL.out], by omega, h5, by omega, (HC3.out.to HS.out HN.out HM.out HCH.out HL.out).below b3⟩
            case measure => simp [intOf]; omega
          | false =>
            rw [hg] at HBt
            cases hl : lastV c x y z with
            | none =>
              have HL := Lib.hid (ins_first HCN.out HNN.out hg hl)
              generalize insV c v = c' at *
              clear hg hl
              go_wp2_with (go_at_call 23; refine (HBt.out _).mono ?_; rintro e w3 ⟨rfl, b3⟩; have hz3 := b3.size; have m0 := kept b3 k0; have m1 := kept b3 k1; have m2 := kept b3 k2; have m3 := kept b3 k3; have m4 := kept b3 k4; have m5 := kept b3 k5; have f30 := (HC3.out.below b3).fr 0; have f31 := (HC3.out.below b3).fr 1; have f32 := (HC3.out.below b3).fr 2; have f33 := (HC3.out.below b3).fr 3; have f34 := (HC3.out.below b3).fr 4; have f35 := (HC3.out.below b3).fr 5; have g30 : w3.cell? ⟨w.heap.size + 1, 0, none⟩ = some _ := (HC3.out.below b3).best.1; have g31 : w3.cell? ⟨w.heap.size + 1, 1, none⟩ = some _ := (HC3.out.below b3).best.2.1; have g32 : w3.cell? ⟨w.heap.size + 1, 2, none⟩ = some _ := (HC3.out.below b3).best.2.2.1; have g33 : w3.cell? ⟨w.heap.size + 1, 3, none⟩ = some _ := (HC3.out.below b3).best.2.2.2.1; have g34 : w3.cell? ⟨w.heap.size + 1, 4, none⟩ = some _ := (HC3.out.below b3).best.2.2.2.2.1; have g35 : w3.cell? ⟨w.heap.size + 1, 5, none⟩ = some _ := (HC3.out.below b3).best.2.2.2.2.2; have hq3 := (HC3.out.below b3).lt; have HC4 := Lib.hid (HC3.out.below b3); have HS4 := Lib.hid ((HS.out.below b3).more b3.size))
              go_roundw
              case rel => exact ⟨i + 1, A2, c2, c', by go_num, rfl, by rw [HL.out]; rfl, by omega, h5, by omega, HC4.out.store HS4.out HN.out HM.out HCH.out HL.out⟩
              case measure => simp [intOf]; omega
            | some u =>
              have HBb := Lib.hid (fun w => rbelow_any u.w u.t u.m v.w v.t v.m w)
              have ⟨e0, e1, e2, _, _, _⟩ : Vb w2 (w.heap.size + 1) u := by have := HC3.out.best; rw [hl] at this; exact this
              cases hb : belowB u.w u.t u.m v.w v.t v.m with
              | true =>
                rw [hb] at HBb
                have HL := Lib.hid (ins_next HCN.out HNN.out hg hl ((below_lt u v).1 hb))
                generalize insV c v = c' at *
                clear hg hl hb
                go_wp2_with fail
                refine (HBt.out _).mono ?_
                rintro e w3 ⟨rfl, b3⟩
                have hz3 := b3.size
                have p0 := kept b3 e0
                have p1 := kept b3 e1
                have p2 := kept b3 e2
                have m0 := kept b3 k0
                have m1 := kept b3 k1
                have m2 := kept b3 k2
                have m3 := kept b3 k3
                have m4 := kept b3 k4
                have m5 := kept b3 k5
                have f30 := (HC3.out.below b3).fr 0
                have f31 := (HC3.out.below b3).fr 1
                have f32 := (HC3.out.below b3).fr 2
                have f33 := (HC3.out.below b3).fr 3
                have f34 := (HC3.out.below b3).fr 4
                have f35 := (HC3.out.below b3).fr 5
                have g30 : w3.cell? ⟨w.heap.size + 1, 0, none⟩ = some _ := (HC3.out.below b3).best.1
                have g31 : w3.cell? ⟨w.heap.size + 1, 1, none⟩ = some _ := (HC3.out.below b3).best.2.1
                have g32 : w3.cell? ⟨w.heap.size + 1, 2, none⟩ = some _ := (HC3.out.below b3).best.2.2.1
                have g33 : w3.cell? ⟨w.heap.size + 1, 3, none⟩ = some _ := (HC3.out.below b3).best.2.2.2.1
                have g34 : w3.cell? ⟨w.heap.size + 1, 4, none⟩ = some _ := (HC3.out.below b3).best.2.2.2.2.1
                have g35 : w3.cell? ⟨w.heap.size + 1, 5, none⟩ = some _ := (HC3.out.below b3).best.2.2.2.2.2
                have hq3 := (HC3.out.below b3).lt
                have HC4 := Lib.hid (HC3.out.below b3)
                have HS4 := Lib.hid ((HS.out.below b3).more b3.size)
                go_wp2_with fail
                refine (HBb.out _).mono ?_
                rintro e w4 ⟨rfl, b4⟩
                have hz4 := b4.size
                have n0 := kept b4 m0
                have n1 := kept b4 m1
                have n2 := kept b4 m2
                have n3 := kept b4 m3
                have n4 := kept b4 m4
                have n5 := kept b4 m5
                have f40 := (HC4.out.below b4).fr 0
                have f41 := (HC4.out.below b4).fr 1
                have f42 := (HC4.out.below b4).fr 2
                have f43 := (HC4.out.below b4).fr 3
                have f44 := (HC4.out.below b4).fr 4
                have f45 := (HC4.out.below b4).fr 5
                have g40 : w4.cell? ⟨w.heap.size + 1, 0, none⟩ = some _ := (HC4.out.below b4).best.1
                have g41 : w4.cell? ⟨w.heap.size + 1, 1, none⟩ = some _ := (HC4.out.below b4).best.2.1
                have g42 : w4.cell? ⟨w.heap.size + 1, 2, none⟩ = some _ := (HC4.out.below b4).best.2.2.1
                have g43 : w4.cell? ⟨w.heap.size + 1, 3, none⟩ = some _ := (HC4.out.below b4).best.2.2.2.1
                have g44 : w4.cell? ⟨w.heap.size + 1, 4, none⟩ = some _ := (HC4.out.below b4).best.2.2.2.2.1
                have g45 : w4.cell? ⟨w.heap.size + 1, 5, none⟩ = some _ := (HC4.out.below b4).best.2.2.2.2.2
                have hq4 := (HC4.out.below b4).lt
                have HC5 := Lib.hid (HC4.out.below b4)
                have HS5 := Lib.hid ((HS4.out.below b4).more b4.size)
                go_wp2
                go_roundw
                case rel => exact ⟨i + 1, A2, c2, c', by go_num, rfl, by rw [HL.out]; rfl, by omega, h5, by omega, HC5.out.store HS5.out HN.out HM.out HCH.out HL.out⟩
                case measure => simp [intOf]; omega
              | false =>
                rw [hb] at HBb
                have HL := Lib.hid ((ins_ahead HCN.out HNN.out hl (fun h => by rw [← below_lt, hb] at h; cases h)).trans hl.symm)
                have HL2 := Lib.hid hl
                generalize insV c v = c' at *
                clear hg hl hb
                go_wp2_with fail
                refine (HBt.out _).mono ?_
                rintro e w3 ⟨rfl, b3⟩
                have hz3 := b3.size
                have p0 := kept b3 e0
                have p1 := kept b3 e1
                have p2 := kept b3 e2
                have m0 := kept b3 k0
                have m1 := kept b3 k1
                have m2 := kept b3 k2
                have m3 := kept b3 k3
                have m4 := kept b3 k4
                have m5 := kept b3 k5
                have f30 := (HC3.out.below b3).fr 0
                have f31 := (HC3.out.below b3).fr 1
                have f32 := (HC3.out.below b3).fr 2
                have f33 := (HC3.out.below b3).fr 3
                have f34 := (HC3.out.below b3).fr 4
                have f35 := (HC3.out.below b3).fr 5
                have g30 : w3.cell? ⟨w.heap.size + 1, 0, none⟩ = some _ := (HC3.out.below b3).best.1
                have g31 : w3.cell? ⟨w.heap.size + 1, 1, none⟩ = some _ := (HC3.out.below b3).best.2.1
                have g32 : w3.cell? ⟨w.heap.size + 1, 2, none⟩ = some _ := (HC3.out.below b3).best.2.2.1
                have g33 : w3.cell? ⟨w.heap.size + 1, 3, none⟩ = some _ := (HC3.out.below b3).best.2.2.2.1
                have g34 : w3.cell? ⟨w.heap.size + 1, 4, none⟩ = some _ := (HC3.out.below b3).best.2.2.2.2.1
                have g35 : w3.cell? ⟨w.heap.size + 1, 5, none⟩ = some _ := (HC3.out.below b3).best.2.2.2.2.2
                have hq3 := (HC3.out.below b3).lt
                go_wp2_with fail
                refine (HBb.out _).mono ?_
                rintro e w4 ⟨rfl, b4⟩
                go_wp2
                go_roundw
                case rel => exact ⟨i + 1, A2, c2, c', by go_num, rfl, by rw [HL.out, HL2.out]; rfl, by omega, h5, by omega, (HC3.out.to HS.out HN.out HM.out HCH.out HL.out).below (b3.trans (b4.mono b3.size))⟩
                case measure => simp [intOf]; omega
        · have he2 : ((putV c v).1 == 0) = false := by simpa using he
          have he3 : ((putV c v).1 != 0) = true := by simpa using he
          generalize (putV c v).1 = er at *
          generalize (putV c v).2 = cx at *
          go_wp2
          go_roundw
          case rel => exact ⟨i + 1, A, cap, c, by go_num, rfl, rfl, by omega, by omega, by omega, HC3.out⟩
          case measure => simp [intOf]; omega
      · have c0 := HC1.out.s0
        have c1 := HC1.out.s1
        have c2 := HC1.out.s2
        have hq := HC1.out.lt
        have HTO := Lib.hid (fun w => to_any x y z w)
        have HG := Lib.hid (fun w' (hb : Below (W0.alloc (.cells #[.int .i64 v.w, .int .u32 v.t, .int .u32 v.m, .int .i64 v.k, .int .i64 v.n, .string v.x] 26)).heap.size (W0.alloc (.cells #[.int .i64 v.w, .int .u32 v.t, .int .u32 v.m, .int .i64 v.k, .int .i64 v.n, .string v.x] 26)) w') => get_any (HC1.out.below hb).sr (Nat.le_refl _) (HC1.out.below hb).ok (HC1.out.below hb).chn (by omega) hy hz (a := x))
        rw [getV_last] at HG
        cases hl : lastV c x y z with
        | none =>
          rw [hl] at HG
          go_wp2_with fail
          refine (HTO.out _).mono ?_
          rintro e wa ⟨rfl, ba⟩
          have HGa := Lib.hid (HG.out _ ba)
          have HCa := Lib.hid (HC1.out.below ba)
          clear HG ba c0 c1 c2
          go_wp2_with fail
          refine HGa.out.mono ?_
          rintro e wb ⟨rfl, bb⟩
          have HCb := Lib.hid (HCa.out.below bb)
          have hqb := HCb.out.lt
          have HBB := Lib.hid (HCb.out.bel.alloc HCb.out.bel.size (.cells #[.int .i64 nilV.w, .int .u32 nilV.t, .int .u32 nilV.m, .int .i64 nilV.k, .int .i64 nilV.n, .string nilV.x] 31))
          clear bb
          go_wp2_with fail
          refine (cawake_any _).mono ?_
          rintro e wc ⟨rfl, bc⟩
          have r0 : wc.cell? ⟨wb.heap.size, 0, none⟩ = some (.int .i64 0) := kept bc (by simp [nilV])
          have r1 : wc.cell? ⟨wb.heap.size, 1, none⟩ = some (.int .u32 0) := kept bc (by simp [nilV])
          have r2 : wc.cell? ⟨wb.heap.size, 2, none⟩ = some (.int .u32 0) := kept bc (by simp [nilV])
          have r3 : wc.cell? ⟨wb.heap.size, 3, none⟩ = some (.int .i64 0) := kept bc (by simp [nilV])
          have r4 : wc.cell? ⟨wb.heap.size, 4, none⟩ = some (.int .i64 0) := kept bc (by simp [nilV])
          have r5 : wc.cell? ⟨wb.heap.size, 5, none⟩ = some (.string ⟨#[]⟩) := kept bc (by simp [nilV])
          have HF := HBB.out.trans (bc.mono HBB.out.size)
          go_wp2
          go_ret
          exact ⟨rfl, HF⟩
        | some u =>
          rw [hl] at HG
          go_wp2_with fail
          refine (HTO.out _).mono ?_
          rintro e wa ⟨rfl, ba⟩
          have HGa := Lib.hid (HG.out _ ba)
          have HCa := Lib.hid (HC1.out.below ba)
          clear HG ba c0 c1 c2
          have HUX : Hid (Vb wa (w.heap.size + 1) u) := Lib.hid (by have := HCa.out.best; rw [hl] at this; exact this)
          clear hl
          by_cases hk : u.k = 3
          · simp only [if_pos hk] at HGa
            go_wp2_with fail
            refine HGa.out.mono ?_
            rintro e wb ⟨rfl, bb⟩
            have HCb := Lib.hid (HCa.out.below bb)
            have hqb := HCb.out.lt
            have o3 := kept bb HUX.out.2.2.2.1
            rw [hk] at o3
            have HBB := Lib.hid (HCb.out.bel.alloc HCb.out.bel.size (.cells #[.int .i64 nilV.w, .int .u32 nilV.t, .int .u32 nilV.m, .int .i64 nilV.k, .int .i64 nilV.n, .string nilV.x] 31))
            clear bb
            go_wp2_with fail
            refine (cawake_any _).mono ?_
            rintro e wc ⟨rfl, bc⟩
            have r0 : wc.cell? ⟨wb.heap.size, 0, none⟩ = some (.int .i64 0) := kept bc (by simp [nilV])
            have r1 : wc.cell? ⟨wb.heap.size, 1, none⟩ = some (.int .u32 0) := kept bc (by simp [nilV])
            have r2 : wc.cell? ⟨wb.heap.size, 2, none⟩ = some (.int .u32 0) := kept bc (by simp [nilV])
            have r3 : wc.cell? ⟨wb.heap.size, 3, none⟩ = some (.int .i64 0) := kept bc (by simp [nilV])
            have r4 : wc.cell? ⟨wb.heap.size, 4, none⟩ = some (.int .i64 0) := kept bc (by simp [nilV])
            have r5 : wc.cell? ⟨wb.heap.size, 5, none⟩ = some (.string ⟨#[]⟩) := kept bc (by simp [nilV])
            have HF := HBB.out.trans (bc.mono HBB.out.size)
            go_wp2
            go_ret
            exact ⟨rfl, HF⟩
          · simp only [if_neg hk] at HGa
            have hk2 : (u.k == 3) = false := by simpa using hk
            go_wp2_with fail
            refine HGa.out.mono ?_
            rintro e wb ⟨rfl, bb⟩
            have HCb := Lib.hid (HCa.out.below bb)
            have hqb := HCb.out.lt
            have ⟨o0, o1, o2, o3, o4, o5⟩ := HUX.out.below bb
            have HBB := Lib.hid (HCb.out.bel.alloc HCb.out.bel.size (.cells #[.int .i64 u.w, .int .u32 u.t, .int .u32 u.m, .int .i64 u.k, .int .i64 u.n, .string u.x] 31))
            clear bb
            go_wp2_with fail
            go_region_held3 (fun w' => w'.cell? ⟨wb.heap.size, 0, none⟩ = some (.int .i64 u.w) ∧ w'.cell? ⟨wb.heap.size, 1, none⟩ = some (.int .u32 u.t) ∧ w'.cell? ⟨wb.heap.size, 2, none⟩ = some (.int .u32 u.m) ∧ w'.cell? ⟨wb.heap.size, 3, none⟩ = some (.int .i64 u.k) ∧ w'.cell? ⟨wb.heap.size, 4, none⟩ = some (.int .i64 u.n) ∧ w'.cell? ⟨wb.heap.size, 5, none⟩ = some (.string u.x) ∧ w'.cell? ⟨w.heap.size + 1, 0, none⟩ = some (.int .i64 u.w) ∧ w'.cell? ⟨w.heap.size + 1, 1, none⟩ = some (.int .u32 u.t) ∧ w'.cell? ⟨w.heap.size + 1, 2, none⟩ = some (.int .u32 u.m) ∧ w'.cell? ⟨w.heap.size + 1, 3, none⟩ = some (.int .i64 u.k) ∧ w'.cell? ⟨w.heap.size + 1, 4, none⟩ = some (.int .i64 u.n) ∧ w'.cell? ⟨w.heap.size + 1, 5, none⟩ = some (.string u.x) ∧ Below w.heap.size w w')
              (((try dsimp only); go_split_ands; (repeat' apply And.intro) <;> first | assumption | (apply kept; assumption; assumption) | (apply via; assumption; assumption; apply Below.size; assumption) | (go_grown; done) | exact HBB.out | exact HBB.out.drew | (repeat' first | assumption | (simp; done) | apply keptD | apply keptA | (apply kept; assumption))))
              (first
                | (go_at_call 8; refine (cawake_any _).mono ?_; rintro e wc ⟨rfl, hb⟩)
                | (go_at_call 16; refine (fromv_any u _).mono ?_; rintro e wc ⟨rfl, hb⟩))
            go_split_ands
            go_wp2
            go_ret
            exact ⟨rfl, by assumption⟩
    · obtain rfl : i = l.length := by omega
      have c0 := HC.out.s0
      have c1 := HC.out.s1
      have c2 := HC.out.s2
      have hq := HC.out.lt
      have HTO := Lib.hid (fun w => to_any x y z w)
      have HG := Lib.hid (fun w' (hb : Below (W0).heap.size (W0) w') => get_any (HC.out.below hb).sr (Nat.le_refl _) (HC.out.below hb).ok (HC.out.below hb).chn (by omega) hy hz (a := x))
      rw [getV_last] at HG
      cases hl : lastV c x y z with
      | none =>
        rw [hl] at HG
        go_wp2_with fail
        refine (HTO.out _).mono ?_
        rintro e wa ⟨rfl, ba⟩
        have HGa := Lib.hid (HG.out _ ba)
        have HCa := Lib.hid (HC.out.below ba)
        clear HG ba c0 c1 c2
        go_wp2_with fail
        refine HGa.out.mono ?_
        rintro e wb ⟨rfl, bb⟩
        have HCb := Lib.hid (HCa.out.below bb)
        have hqb := HCb.out.lt
        have HBB := Lib.hid (HCb.out.bel.alloc HCb.out.bel.size (.cells #[.int .i64 nilV.w, .int .u32 nilV.t, .int .u32 nilV.m, .int .i64 nilV.k, .int .i64 nilV.n, .string nilV.x] 31))
        clear bb
        go_wp2_with fail
        refine (cawake_any _).mono ?_
        rintro e wc ⟨rfl, bc⟩
        have r0 : wc.cell? ⟨wb.heap.size, 0, none⟩ = some (.int .i64 0) := kept bc (by simp [nilV])
        have r1 : wc.cell? ⟨wb.heap.size, 1, none⟩ = some (.int .u32 0) := kept bc (by simp [nilV])
        have r2 : wc.cell? ⟨wb.heap.size, 2, none⟩ = some (.int .u32 0) := kept bc (by simp [nilV])
        have r3 : wc.cell? ⟨wb.heap.size, 3, none⟩ = some (.int .i64 0) := kept bc (by simp [nilV])
        have r4 : wc.cell? ⟨wb.heap.size, 4, none⟩ = some (.int .i64 0) := kept bc (by simp [nilV])
        have r5 : wc.cell? ⟨wb.heap.size, 5, none⟩ = some (.string ⟨#[]⟩) := kept bc (by simp [nilV])
        have HF := HBB.out.trans (bc.mono HBB.out.size)
        go_wp2
        go_ret
        exact ⟨rfl, HF⟩
      | some u =>
        rw [hl] at HG
        go_wp2_with fail
        refine (HTO.out _).mono ?_
        rintro e wa ⟨rfl, ba⟩
        have HGa := Lib.hid (HG.out _ ba)
        have HCa := Lib.hid (HC.out.below ba)
        clear HG ba c0 c1 c2
        have HUX : Hid (Vb wa (w.heap.size + 1) u) := Lib.hid (by have := HCa.out.best; rw [hl] at this; exact this)
        clear hl
        by_cases hk : u.k = 3
        · simp only [if_pos hk] at HGa
          go_wp2_with fail
          refine HGa.out.mono ?_
          rintro e wb ⟨rfl, bb⟩
          have HCb := Lib.hid (HCa.out.below bb)
          have hqb := HCb.out.lt
          have o3 := kept bb HUX.out.2.2.2.1
          rw [hk] at o3
          have HBB := Lib.hid (HCb.out.bel.alloc HCb.out.bel.size (.cells #[.int .i64 nilV.w, .int .u32 nilV.t, .int .u32 nilV.m, .int .i64 nilV.k, .int .i64 nilV.n, .string nilV.x] 31))
          clear bb
          go_wp2_with fail
          refine (cawake_any _).mono ?_
          rintro e wc ⟨rfl, bc⟩
          have r0 : wc.cell? ⟨wb.heap.size, 0, none⟩ = some (.int .i64 0) := kept bc (by simp [nilV])
          have r1 : wc.cell? ⟨wb.heap.size, 1, none⟩ = some (.int .u32 0) := kept bc (by simp [nilV])
          have r2 : wc.cell? ⟨wb.heap.size, 2, none⟩ = some (.int .u32 0) := kept bc (by simp [nilV])
          have r3 : wc.cell? ⟨wb.heap.size, 3, none⟩ = some (.int .i64 0) := kept bc (by simp [nilV])
          have r4 : wc.cell? ⟨wb.heap.size, 4, none⟩ = some (.int .i64 0) := kept bc (by simp [nilV])
          have r5 : wc.cell? ⟨wb.heap.size, 5, none⟩ = some (.string ⟨#[]⟩) := kept bc (by simp [nilV])
          have HF := HBB.out.trans (bc.mono HBB.out.size)
          go_wp2
          go_ret
          exact ⟨rfl, HF⟩
        · simp only [if_neg hk] at HGa
          have hk2 : (u.k == 3) = false := by simpa using hk
          go_wp2_with fail
          refine HGa.out.mono ?_
          rintro e wb ⟨rfl, bb⟩
          have HCb := Lib.hid (HCa.out.below bb)
          have hqb := HCb.out.lt
          have ⟨o0, o1, o2, o3, o4, o5⟩ := HUX.out.below bb
          have HBB := Lib.hid (HCb.out.bel.alloc HCb.out.bel.size (.cells #[.int .i64 u.w, .int .u32 u.t, .int .u32 u.m, .int .i64 u.k, .int .i64 u.n, .string u.x] 31))
          clear bb
          go_wp2_with fail
          go_region_held3 (fun w' => w'.cell? ⟨wb.heap.size, 0, none⟩ = some (.int .i64 u.w) ∧ w'.cell? ⟨wb.heap.size, 1, none⟩ = some (.int .u32 u.t) ∧ w'.cell? ⟨wb.heap.size, 2, none⟩ = some (.int .u32 u.m) ∧ w'.cell? ⟨wb.heap.size, 3, none⟩ = some (.int .i64 u.k) ∧ w'.cell? ⟨wb.heap.size, 4, none⟩ = some (.int .i64 u.n) ∧ w'.cell? ⟨wb.heap.size, 5, none⟩ = some (.string u.x) ∧ w'.cell? ⟨w.heap.size + 1, 0, none⟩ = some (.int .i64 u.w) ∧ w'.cell? ⟨w.heap.size + 1, 1, none⟩ = some (.int .u32 u.t) ∧ w'.cell? ⟨w.heap.size + 1, 2, none⟩ = some (.int .u32 u.m) ∧ w'.cell? ⟨w.heap.size + 1, 3, none⟩ = some (.int .i64 u.k) ∧ w'.cell? ⟨w.heap.size + 1, 4, none⟩ = some (.int .i64 u.n) ∧ w'.cell? ⟨w.heap.size + 1, 5, none⟩ = some (.string u.x) ∧ Below w.heap.size w w')
            (((try dsimp only); go_split_ands; (repeat' apply And.intro) <;> first | assumption | (apply kept; assumption; assumption) | (apply via; assumption; assumption; apply Below.size; assumption) | (go_grown; done) | exact HBB.out | exact HBB.out.drew | (repeat' first | assumption | (simp; done) | apply keptD | apply keptA | (apply kept; assumption))))
            (first
              | (go_at_call 8; refine (cawake_any _).mono ?_; rintro e wc ⟨rfl, hb⟩)
              | (go_at_call 16; refine (fromv_any u _).mono ?_; rintro e wc ⟨rfl, hb⟩))
          go_split_ands
          go_wp2
          go_ret
          exact ⟨rfl, by assumption⟩
end Go.Proofs.Ytbeclajbpfglgaa
