/- The law's same. -/
import Derived.Test.YtejbjnjnabcleaaPDl
import Derived.Laws.BitsAllLaws
import Derived.Deep.QuietTactic
import Derived.Test.YtejbjnjnabcleaaPSame
namespace Go.Proofs.Ytejbjnjnabcleaa
open Go.RowKit Go.Conc

theorem below_drewN (B : Nat) (w : World) (n : Nat) : Below B w (w.drewN n) := ⟨rfl, rfl, rfl, Nat.le_refl _, fun _ _ => rfl⟩
/-- A byte turned over. -/
def notB (c : UInt8) : UInt8 := UInt8.ofNat (c.toNat ^^^ 255)
theorem notB_eq (c : UInt8) : bits .xor .u8 (c.toNat : Int) 255 = ((notB c).toNat : Int) := by
  have hy := c.toNat_lt
  have : c.toNat ^^^ 255 < 2 ^ 8 := Nat.xor_lt_two_pow (by omega) (by decide)
  unfold notB
  rw [show (255 : Int) = ((255 : Nat) : Int) from rfl, u8_xor_nat c.toNat 255 hy (by decide)]
  generalize c.toNat ^^^ 255 = z at *
  simp; omega
/-- Of a copy of messages those from the q-th on read as they did, in bodies of their own. -/
structure Lf (K : Nat) (wr : World) (v : Value) (xs : List Rm) (q : Nat) (ms : List Mg) : Prop where
  so : So encM 3 wr K 39 v ms
  len : ms.length = xs.length
  new : ∀ (i : Nat) (y : Mg) (x : Rm), q ≤ i → ms[i]? = some y → xs[i]? = some x → y.f = x.f ∧ y.t = x.t ∧ y.n = x.b.length ∧ Ob wr K (bodyV y) x.b ∧ ∀ k, v.ownBlock = some k → (bodyV y).ownBlock ≠ some k
  dis : ∀ (i j : Nat) (x y : Mg), q ≤ i → q ≤ j → i ≠ j → ms[i]? = some x → ms[j]? = some y → ∀ k, (bodyV x).ownBlock = some k → (bodyV y).ownBlock ≠ some k
theorem AllR.lf {K : Nat} {wr : World} {v : Value} {l ms : List Mg} {xs : List Rm} (h : AllR K wr v l (xs.map Rm.b) l.length ms) (ha : Alike l xs) : Lf K wr v xs 0 ms := by
  have hl := h.len
  refine ⟨h.so, by rw [hl, ha.1], fun i y x _ hy hx => ?_, fun i j x y _ _ hij hx hy => ?_⟩
  · have hi : i < l.length := by rw [← hl]; exact (List.getElem?_eq_some_iff.1 hy).1
    obtain ⟨h1, h2, h3, h4, h5⟩ := h.new i y l[i] x.b hi hy (List.getElem?_eq_getElem hi) (by rw [List.getElem?_map, hx]; rfl)
    obtain ⟨e1, e2⟩ := ha.2 i l[i] x (List.getElem?_eq_getElem hi) hx
    exact ⟨h1.trans e1, h2.trans e2, h3, h4, h5⟩
  · have hi : i < l.length := by rw [← hl]; exact (List.getElem?_eq_some_iff.1 hx).1
    have hj : j < l.length := by rw [← hl]; exact (List.getElem?_eq_some_iff.1 hy).1
    exact h.dis i j x y hi hj hij hx hy
section
variable {K q : Nat} {wr w' : World} {v : Value} {xs : List Rm} {ms : List Mg}
theorem Lf.below (h : Lf K wr v xs q ms) (hb : Below wr.heap.size wr w') : Lf K w' v xs q ms :=
  ⟨h.so.below hb, h.len, fun i y x hi hy hx => by
    obtain ⟨h1, h2, h3, h4, h5⟩ := h.new i y x hi hy hx
    exact ⟨h1, h2, h3, h4.below hb, h5⟩, h.dis⟩
theorem Lf.step (h : Lf K wr v xs q ms) {y : Mg} {x : Rm} (hy : ms[q]? = some y) (hx : xs[q]? = some x) (t : Tn (fun k => (bodyV y).ownBlock = some k) wr w') : Lf K w' v xs (q + 1) ms := by
  obtain ⟨_, _, _, _, hv⟩ := h.new q y x (Nat.le_refl _) hy hx
  refine ⟨t.so h.so fun g hg e => hv g hg e, h.len, fun i y' x' hi hy' hx' => ?_, fun i j a b hi hj => h.dis i j a b (by omega) (by omega)⟩
  obtain ⟨h1, h2, h3, h4, h5⟩ := h.new i y' x' (by omega) hy' hx'
  exact ⟨h1, h2, h3, t.ob h4 fun k hk e => h.dis q i y y' (Nat.le_refl _) (by omega) (by omega) hy hy' k e hk, h5⟩
end

theorem PD.all {w : World} {S : Nat → Prop} {K p ch room : Nat} {mp md : List Rm} {A : Option Addr} {c : Nat} (h : PD w S K p ch room mp A c md) (hsz : ∀ x ∈ mp, x.b.length ≤ 140737488355328) (hroom : room ≤ 4096) :
    Calls Try.prog 17 #[.pointer (some ⟨p, 0, none⟩)] w fun e w' => ∃ A' c' ms, e = .returned (.slice A' mp.length c') ∧ Lf w.heap.size w' (.slice A' mp.length c') mp 0 ms ∧ Below w.heap.size w w' := by
  obtain ⟨v, l, hp, ha, hd, _⟩ := h.out
  refine (all_any K p ch room v l _ w hp (fun b hb => by
    obtain ⟨x, hx, rfl⟩ := List.mem_map.1 hb
    exact hsz x hx) hroom).mono ?_
  rintro e w' ⟨A', c', ms, rfl, R, hb⟩
  rw [ha.1] at R ⊢
  exact ⟨A', c', ms, rfl, by rw [← ha.1] at R ⊢; exact R.lf ha, hb⟩
theorem PD.len {w : World} {S : Nat → Prop} {K p ch room : Nat} {mp md : List Rm} {A : Option Addr} {c : Nat} (h : PD w S K p ch room mp A c md) :
    Calls Try.prog 18 #[.pointer (some ⟨p, 0, none⟩)] w fun e w' => e = .returned (.int .i64 (mp.length : Int)) ∧ w' = w := by
  obtain ⟨v, l, hp, ha, _⟩ := h.out
  rw [← ha.1]
  exact (len_any K p ch room v l _ w hp).mono fun e w' h => ⟨h.1, h.2.symm⟩

set_option maxRecDepth 100000 in
set_option maxHeartbeats 3200000 in
theorem psame_any (S : Nat → Prop) (K p ch room : Nat) (rm : Int) (ms : List Rm) (A : Option Addr) (c : Nat) (w : World) (h : PD w S K p ch room ms A c ms) (hsz : ∀ x ∈ ms, x.b.length ≤ 3000) (hroom : room ≤ 4096) :
    Calls Try.prog 16 #[.pointer (some ⟨p, 0, none⟩), docV rm A ms.length c] w fun e w' => e = .returned (.bool true) ∧ Below w.heap.size w w' := by
  have HP := Lib.hid h
  have HS := Lib.hid hsz
  have hrm := h.inRoom
  have hle := h.le
  clear h hsz
  go_enter Try.func16, Try.ntmps16
  go_wp2_with fail
  have HP0 := HP.out.alloc (.cells #[.int .i64 rm, .slice A ms.length c] 30)
  have x0 : (w.alloc (.cells #[.int .i64 rm, .slice A ms.length c] 30)).cell? ⟨w.heap.size, 0, none⟩ = some (.int .i64 rm) := by simp
  have x1 : (w.alloc (.cells #[.int .i64 rm, .slice A ms.length c] 30)).cell? ⟨w.heap.size, 1, none⟩ = some (.slice A ms.length c) := by simp
  have B0 : Below w.heap.size w (w.alloc (.cells #[.int .i64 rm, .slice A ms.length c] 30)) := (Below.refl _ w).alloc (Nat.le_refl _) _
  have z0 : (w.alloc (.cells #[.int .i64 rm, .slice A ms.length c] 30)).heap.size = w.heap.size + 1 := by simp
  generalize w.alloc (.cells #[.int .i64 rm, .slice A ms.length c] 30) = W at *
  generalize hH : w.heap.size = H at *
  have HH := Lib.hid hH
  clear hH
  have HP := Lib.hid HP0
  clear HP0
  refine (HP.out.all (fun x hx => by have := HS.out x hx; omega) hroom).mono ?_
  rintro e w1 ⟨A1, c1, ys, rfl, L1, b1⟩
  have z1 := b1.size
  have HL1 := Lib.hid L1
  have HB1 := Lib.hid b1
  have y0 : w1.cell? ⟨H, 0, none⟩ = some (.int .i64 rm) := kept b1 x0
  have y1 : w1.cell? ⟨H, 1, none⟩ = some (.slice A ms.length c) := kept b1 x1
  have HP1 := Lib.hid (HP.out.below b1)
  clear b1 L1
  go_wp2_with fail
  go_quiet ((go_at_call 18; exact Calls.quiet_of_same (HP1.out.drewN _).len))
  go_wp2
  clear y0 y1 HP1
  go_loopw [26] (fun s wr => ∃ (q : Nat), q ≤ ms.length ∧ s = .int .i64 (q : Int) ∧ Lf W.heap.size wr (.slice A1 ms.length c1) ms q ys ∧ Below W.heap.size W wr) (fun s _ => ms.length - (intOf s).toNat)
  case atStart => exact ⟨0, by omega, rfl, HL1.out.below (below_drewN _ _ _), HB1.out.trans (below_drewN _ _ _)⟩
  case round =>
    clear HL1 HB1 z1
    obtain ⟨q, hq, rfl, L, bW⟩ := hrel
    have zr := bW.size
    have HL := Lib.hid L
    have HBW := Lib.hid bW
    by_cases hlt : q < ms.length
    · have hx : ms[q]? = some ms[q] := List.getElem?_eq_getElem hlt
      have hyl : q < ys.length := by rw [L.len]; exact hlt
      have hy : ys[q]? = some ys[q] := List.getElem?_eq_getElem hyl
      obtain ⟨e1, e2, e3, ob, hv⟩ := L.new q _ _ (Nat.le_refl _) hy hx
      obtain ⟨g, rfl, hg1, hg2⟩ := m_addr L.so (by omega)
      obtain ⟨s0, s1, s2, sf⟩ := m_slot L.so hy
      obtain ⟨ad, A', c', rfl, hadb, d0, d1, d2, hbs⟩ := (HP.out.below bW).get hx
      have y0 : wr.cell? ⟨H, 0, none⟩ = some (.int .i64 rm) := kept bW x0
      have y1 : wr.cell? ⟨H, 1, none⟩ = some (.slice (some ad) ms.length c) := kept bW x1
      have hlc := (So.sr encM_length L.so).1.le
      have hmx := (So.sr encM_length L.so).1.max
      have hlen := L.len
      have hle1 := hle.1
      have hle2 := hle.2
      unfold maxLen at hmx hle2
      have a0 : (⟨g, 0, none⟩ : Addr).add (q * 3) = ⟨g, q * 3, none⟩ := by unfold Addr.add; split <;> simp_all
      generalize ms[q] = x at *
      generalize ys[q] = y at *
      obtain ⟨xf, xt, xb⟩ := x
      obtain ⟨yf, yt, yA, yn, yc⟩ := y
      simp only at e1 e2 e3 ob hv s0 s1 s2 d0 d1 d2 hbs
      subst e1 e2 e3
      have HOB := Lib.hid ob
      have HBS := Lib.hid hbs
      have HV := Lib.hid hv
      have HX := Lib.hid hx
      have HY := Lib.hid hy
      clear L bW ob hbs hv hx hy sf hle x0 x1
      go_wp2_with fail
      have o1 : HBs wr wr.heap.size yA yc xb := HBs.mk HOB.out.bs.1 (Nat.le_refl _)
      have o2 : HBs wr wr.heap.size A' c' xb := HBs.mk HBS.out (Nat.le_refl _)
      have b0 : Below wr.heap.size wr wr := Below.refl _ _
      go_region_held3 (fun w' => w'.cell? ⟨g, q * 3, none⟩ = some (.int .i64 yf) ∧ w'.cell? ⟨g, q * 3 + 1, none⟩ = some (.int .i64 yt) ∧ w'.cell? ⟨g, q * 3 + 2, none⟩ = some (.slice yA xb.length yc) ∧ w'.cell? ⟨H, 0, none⟩ = some (.int .i64 rm) ∧ w'.cell? ⟨H, 1, none⟩ = some (.slice (some ad) ms.length c) ∧ w'.cell? (ad.add (q * 3)) = some (.int .i64 yf) ∧ w'.cell? ⟨(ad.add (q * 3)).block, (ad.add (q * 3)).off + 1, none⟩ = some (.int .i64 yt) ∧ w'.cell? ⟨(ad.add (q * 3)).block, (ad.add (q * 3)).off + 2, none⟩ = some (.slice A' xb.length c') ∧ HBs w' wr.heap.size yA yc xb ∧ HBs w' wr.heap.size A' c' xb ∧ Below wr.heap.size wr w')
        (((try dsimp only); go_split_ands; (repeat' apply And.intro) <;> first | assumption | (apply hbs_drew; assumption) | (apply hbs_keep; assumption; assumption) | (apply kept; assumption; assumption) | (apply via; assumption; assumption; apply Below.size; assumption) | (go_grown; done) | (repeat' first | assumption | (simp; done) | apply keptD | apply keptA)))
        (first
          | (go_at_call 13; refine (fromM_any _ _ _ _ _ _).mono ?_; rintro e w6 ⟨rfl, hb6⟩)
          | (go_at_call 12; go_split_ands; refine (sameM_refl yf yt yA A' yc c' _ _ xb _ (HBs.out (by assumption)) (HBs.out (by assumption)) (HBs.le (by assumption)) (HBs.le (by assumption))).mono ?_; rintro e w7 ⟨rfl, hb7⟩))
      go_split_ands
      rename Below wr.heap.size wr _ => B7
      rename World => w7
      rename w7.cell? ⟨g, q * 3 + 2, none⟩ = _ => t2
      have z7 := B7.size
      have HT2 := Lib.hid t2
      have HB7 := Lib.hid B7
      have HL7 := Lib.hid (HL.out.below B7)
      have HO7 := Lib.hid (HOB.out.below B7)
      clear B7 o1 o2 b0 s0 s1 s2
      go_wp2
      go_loopw [47] (fun s wi => ∃ (j : Nat) (bb : List UInt8), j ≤ xb.length ∧ s = .int .i64 (j : Int) ∧ bb.length = xb.length ∧ Ob wi W.heap.size (.slice yA xb.length yc) bb ∧ Tn (fun k => (bodyV ⟨yf, yt, yA, xb.length, yc⟩).ownBlock = some k) w7 wi) (fun s _ => xb.length - (intOf s).toNat)
      case atStart => exact ⟨0, xb, by omega, rfl, rfl, HO7.out, Tn.refl _ _⟩
      case round =>
        obtain ⟨j, bb, hj, rfl, hbl, obi, T⟩ := hrel
        rename World => wi
        have zi := T.size
        have t2i : wi.cell? ⟨g, q * 3 + 2, none⟩ = some (.slice yA xb.length yc) := T.cell HT2.out (HV.out g rfl)
        by_cases hlj : j < xb.length
        · obtain ⟨gb, rfl, hgb1, hgb2⟩ := obi.addr (by omega)
          obtain ⟨c0, cf, _, hcc, hcm⟩ := obi.slot (k := j) (by omega)
          unfold maxLen at hcm
          have hnb := notB_eq bb[j]
          have hst := obi.stored j (notB bb[j])
          have HST := Lib.hid hst
          have HT := Lib.hid T
          have HBL := Lib.hid hbl
          generalize bb[j] = cb at *
          clear hst obi T hbl
          go_wp2
          go_roundw
          case rel => exact ⟨j + 1, bb.set j (notB cb), by omega, by simp, by rw [List.length_set]; exact HBL.out, HST.out, HT.out.then ((Tn.setCell wi gb j _).mono fun k _ e => by rw [e]; rfl)⟩
          case measure => simp [intOf]; omega
        · have HT := Lib.hid T
          clear T obi hbl
          go_wp2
          go_roundw
          case rel => exact ⟨q + 1, by omega, by simp, HL7.out.step HY.out HX.out HT.out, (HBW.out.trans (HB7.out.mono zr)).trans (HT.out.below (by omega) fun k hk e => (HOB.out.lt k e).1)⟩
          case measure => simp [intOf]; omega
    · have hql : q = ms.length := by omega
      subst hql
      clear L bW
      go_wp2
      go_ret
      exact ⟨rfl, by rw [HH.out]; exact B0.trans (HBW.out.mono (by omega))⟩
end Go.Proofs.Ytejbjnjnabcleaa
