/- SamePoints of the same points; Order. -/
import Derived.Test.YtcfbcidakddhfaaGreatDoorPr42
import Derived.Test.YtcfbcidakddhfaaGreatDoorPr41
import Derived.Test.YtcfbcidakddhfaaGreatDoorPr11
import Derived.BigQuiet
namespace Go.Proofs.YtcfbcidakddhfaaGreatDoor
open Go.RowKit Go.BigFrame

theorem dec0 : dec 0 = [48] := dec_small (by decide)
theorem dec5 : dec 5 = [53] := dec_small (by decide)
theorem dec10 : dec 10 = [49, 48] := by rw [dec_big (by decide), dec_small (by decide)]; rfl
theorem num0 : numOf [48] = some 0 := by rw [← dec0]; exact numOf_dec 0 (by decide)
theorem num5 : numOf [53] = some 5 := by rw [← dec5]; exact numOf_dec 5 (by decide)
theorem num10 : numOf [49, 48] = some 10 := by rw [← dec10]; exact numOf_dec 10 (by decide)
theorem aw1 : parseQ numA [115, 117, 109, 123, 97, 61, 34, 49, 34, 125, 32, 48, 32, 49, 48, 32, 53, 32, 110, 111, 116, 101, 115] = (⟨1, [((⟨#[97]⟩ : ByteArray), (1 : Int), (⟨#[49]⟩ : ByteArray))], 0, 10, 5, true⟩, 0) := by
  have h1 : cutB 123 [115, 117, 109, 123, 97, 61, 34, 49, 34, 125, 32, 48, 32, 49, 48, 32, 53, 32, 110, 111, 116, 101, 115] = [115, 117, 109] := by decide
  have h2 : opA [115, 117, 109] = some 1 := by decide
  have h3 : parseB ([123, 97, 61, 34, 49, 34, 125] ++ [32, 48, 32, 49, 48, 32, 53, 32, 110, 111, 116, 101, 115]) = ([((⟨#[97]⟩ : ByteArray), (1 : Int), (⟨#[49]⟩ : ByteArray))], 7) := by
    have h := parse_back (l := [((⟨#[97]⟩ : ByteArray), (1 : Int), (⟨#[49]⟩ : ByteArray))]) (by decide +kernel) [32, 48, 32, 49, 48, 32, 53, 32, 110, 111, 116, 101, 115]
    have e : textR [((⟨#[97]⟩ : ByteArray), (1 : Int), (⟨#[49]⟩ : ByteArray))] = [123, 97, 61, 34, 49, 34, 125] := by decide +kernel
    rw [e] at h
    exact h
  have h4 : readX numA 3 [32, 48, 32, 49, 48, 32, 53, 32, 110, 111, 116, 101, 115] = some ([0, 10, 5], notesL) := by
    refine readX_mk (u := 2) (v := 0) ?_ (readX_mk (u := 3) (v := 10) ?_ (readX_mk (u := 2) (v := 5) ?_ rfl))
    · have e : cutB 32 [48, 32, 49, 48, 32, 53, 32, 110, 111, 116, 101, 115] = [48] := by decide
      unfold numA
      simp only
      rw [if_pos trivial, e, num0]
      rfl
    · have e : cutB 32 [49, 48, 32, 53, 32, 110, 111, 116, 101, 115] = [49, 48] := by decide
      show numA [32, 49, 48, 32, 53, 32, 110, 111, 116, 101, 115] = _
      unfold numA
      simp only
      rw [if_pos trivial, e, num10]
      rfl
    · have e : cutB 32 [53, 32, 110, 111, 116, 101, 115] = [53] := by decide
      show numA [32, 53, 32, 110, 111, 116, 101, 115] = _
      unfold numA
      simp only
      rw [if_pos trivial, e, num5]
      rfl
  have h5 : rightQ (mkQ 1 [((⟨#[97]⟩ : ByteArray), (1 : Int), (⟨#[49]⟩ : ByteArray))] [0, 10, 5] notesL) = true := by decide +kernel
  unfold parseQ
  rw [if_neg (by decide), h1, h2]
  unfold tailQ
  simp only
  rw [if_pos (by decide)]
  show (if (parseB ([123, 97, 61, 34, 49, 34, 125] ++ [32, 48, 32, 49, 48, 32, 53, 32, 110, 111, 116, 101, 115])).2 = 0 then _ else endQ 1 (parseB ([123, 97, 61, 34, 49, 34, 125] ++ [32, 48, 32, 49, 48, 32, 53, 32, 110, 111, 116, 101, 115])).1 (readX numA (kQ 1) (List.drop ([115, 117, 109].length + (parseB ([123, 97, 61, 34, 49, 34, 125] ++ [32, 48, 32, 49, 48, 32, 53, 32, 110, 111, 116, 101, 115])).2) [115, 117, 109, 123, 97, 61, 34, 49, 34, 125, 32, 48, 32, 49, 48, 32, 53, 32, 110, 111, 116, 101, 115]))) = _
  rw [h3]
  show (if (7 : Nat) = 0 then _ else endQ 1 _ (readX numA 3 [32, 48, 32, 49, 48, 32, 53, 32, 110, 111, 116, 101, 115])) = _
  rw [h4, if_neg (by decide)]
  unfold endQ
  simp only
  rw [if_pos ⟨.inl trivial, h5⟩]
  rfl
theorem aw2 : parseQ numA [115, 117, 109, 123, 125, 32, 48, 32, 49, 48] = (Qr.zero, 90) := by
  have h1 : cutB 123 [115, 117, 109, 123, 125, 32, 48, 32, 49, 48] = [115, 117, 109] := by decide
  have h2 : opA [115, 117, 109] = some 1 := by decide
  have h3 : parseB [123, 125, 32, 48, 32, 49, 48] = ([], 2) := by decide +kernel
  have h4 : readX numA 3 [32, 48, 32, 49, 48] = none := by
    have e1 : numA [32, 48, 32, 49, 48] = some (0, 2) := by
      have e : cutB 32 [48, 32, 49, 48] = [48] := by decide
      unfold numA
      simp only
      rw [if_pos trivial, e, num0]
      rfl
    have e2 : numA [32, 49, 48] = some (10, 3) := by
      have e : cutB 32 [49, 48] = [49, 48] := by decide
      unfold numA
      simp only
      rw [if_pos trivial, e, num10]
      rfl
    have e3 : readX numA 1 [] = none := rfl
    have e4 : readX numA 2 [32, 49, 48] = none := by
      unfold readX
      rw [e2]
      simp only
      show (match readX numA 1 [] with | none => none | some (vs, r) => some (10 :: vs, r)) = none
      rw [e3]
    unfold readX
    rw [e1]
    simp only
    show (match readX numA 2 [32, 49, 48] with | none => none | some (vs, r) => some (0 :: vs, r)) = none
    rw [e4]
  unfold parseQ
  rw [if_neg (by decide), h1, h2]
  unfold tailQ
  simp only
  rw [if_pos (by decide)]
  show (if (parseB [123, 125, 32, 48, 32, 49, 48]).2 = 0 then _ else endQ 1 (parseB [123, 125, 32, 48, 32, 49, 48]).1 (readX numA (kQ 1) (List.drop ([115, 117, 109].length + (parseB [123, 125, 32, 48, 32, 49, 48]).2) [115, 117, 109, 123, 125, 32, 48, 32, 49, 48]))) = _
  rw [h3]
  show (if (2 : Nat) = 0 then _ else endQ 1 _ (readX numA 3 [32, 48, 32, 49, 48])) = _
  rw [h4, if_neg (by decide)]
  rfl
set_option maxRecDepth 100000 in
set_option maxHeartbeats 800000 in
theorem awakeQ_any (w : World) (hm : Mx w) (he : Errs w) (hp : Pow w) (hg : Sg w) (hwo : Wo w) : Calls Tryz.prog 8 #[] w fun e w' => e = .returned (.bool true) ∧ Below w.heap.size w w' := by
  have HGL : Hid (∀ wx, Below w.heap.size w wx → Mx wx ∧ Errs wx ∧ Pow wx ∧ Sg wx ∧ Wo wx) := Lib.hid fun wx h => ⟨Mx.below hm h, he.below h, hp.below h, Sg.below hg h, hwo.below h⟩
  have HP1 : Hid (∀ wx, Below w.heap.size w wx → Calls Tryz.prog 21 #[.string ⟨#[115, 117, 109, 123, 97, 61, 34, 49, 34, 125, 32, 48, 32, 49, 48, 32, 53, 32, 110, 111, 116, 101, 115]⟩] wx (ParP wx (⟨1, [((⟨#[97]⟩ : ByteArray), (1 : Int), (⟨#[49]⟩ : ByteArray))], 0, 10, 5, true⟩, 0))) := Lib.hid fun wx h => by
    obtain ⟨h1, h2, h3, h4, h5⟩ := HGL.out wx h
    have h9 := akParse_any ⟨#[115, 117, 109, 123, 97, 61, 34, 49, 34, 125, 32, 48, 32, 49, 48, 32, 53, 32, 110, 111, 116, 101, 115]⟩ wx (by decide) h1 h2 h3 h4 h5
    have e : (⟨#[115, 117, 109, 123, 97, 61, 34, 49, 34, 125, 32, 48, 32, 49, 48, 32, 53, 32, 110, 111, 116, 101, 115]⟩ : ByteArray).data.toList = [115, 117, 109, 123, 97, 61, 34, 49, 34, 125, 32, 48, 32, 49, 48, 32, 53, 32, 110, 111, 116, 101, 115] := rfl
    rwa [e, aw1] at h9
  have HP2 : Hid (∀ wx, Below w.heap.size w wx → Calls Tryz.prog 21 #[.string ⟨#[115, 117, 109, 123, 125, 32, 48, 32, 49, 48]⟩] wx (ParP wx (Qr.zero, 90))) := Lib.hid fun wx h => by
    obtain ⟨h1, h2, h3, h4, h5⟩ := HGL.out wx h
    have h9 := akParse_any ⟨#[115, 117, 109, 123, 125, 32, 48, 32, 49, 48]⟩ wx (by decide) h1 h2 h3 h4 h5
    have e : (⟨#[115, 117, 109, 123, 125, 32, 48, 32, 49, 48]⟩ : ByteArray).data.toList = [115, 117, 109, 123, 125, 32, 48, 32, 49, 48] := rfl
    rwa [e, aw2] at h9
  clear hm he hp hg hwo
  go_enter Tryz.func8, Tryz.ntmps8
  go_wp2_with fail
  refine (HP1.out w (Below.refl _ _)).mono ?_
  rintro e w1 ⟨A1, c1, rfl, _, b1⟩
  have HB1 := Lib.hid b1
  clear b1
  go_wp2_with fail
  have hb2 : Below w1.heap.size w1 (w1.alloc (.cells #[.int .i64 1, .slice A1 1 c1, .int .i64 0, .int .i64 10, .int .i64 5, .bool true] 36)) := (Below.refl _ _).alloc (Nat.le_refl _) _
  have hx : Rwo (w1.alloc (.cells #[.int .i64 1, .slice A1 1 c1, .int .i64 0, .int .i64 10, .int .i64 5, .bool true] 36)) w1.heap.size #[.int .i64 1, .slice A1 1 c1, .int .i64 0, .int .i64 10, .int .i64 5, .bool true] 36 := ⟨heap_alloc_new w1 _⟩
  have HB2 := Lib.hid (HB1.out.trans (hb2.mono HB1.out.size))
  refine (HP2.out _ HB2.out).mono ?_
  rintro e w3 ⟨A3, c3, rfl, _, b3⟩
  have hx3 := hx.below b3
  have y0 : w3.cell? ⟨w1.heap.size, 0, none⟩ = some (.int .i64 1) := hx3.cell rfl
  have y4 : w3.cell? ⟨w1.heap.size, 4, none⟩ = some (.int .i64 5) := hx3.cell rfl
  have y5 : w3.cell? ⟨w1.heap.size, 5, none⟩ = some (.bool true) := hx3.cell rfl
  have yl := hx3.lt
  have HB3 : Hid (Below w.heap.size w (w3.alloc (.cells #[.int .i64 0, .slice A3 0 c3, .int .i64 0, .int .i64 0, .int .i64 0, .bool false] 36))) := Lib.hid ((HB2.out.trans (b3.mono HB2.out.size)).alloc (HB2.out.trans (b3.mono HB2.out.size)).size _)
  clear hb2 hx hx3 b3 HB1
  go_wp2
  go_ret
  exact ⟨rfl, HB3.out⟩
/-- A value of AskTexts' statement. -/
inductive Vx where
  | v (x : Value)
  | q (r : Qr)
def Hx : Vx → Value → World → Prop
  | .v x, u, _ => u = x
  | .q r, u, wx => ∃ A c, u = qv r A c ∧ Rr wx wx.heap.size A c r.rs
theorem Hx.mono {p : Vx} {u : Value} {w w' : World} (h : Hx p u w) (hb : Below w.heap.size w w') : Hx p u w' := by
  cases p with
  | v x => exact h
  | q r =>
    obtain ⟨A, c, e, h⟩ := h
    exact ⟨A, c, e, (h.below hb).more hb.size⟩
/-- The law's three queries, seen from the world w. -/
structure Ax3 (w wx : World) (K : Nat) (q y : Qr) (A : Option Addr) (c : Nat) (Ax : Option Addr) (cx : Nat) (Ay : Option Addr) (cy b5 b7 : Nat) : Prop where
  bq : Rwo wx w.heap.size (qc q A c) 24
  bx : Rwo wx b5 (qc y Ax cx) 36
  by_ : Rwo wx b7 (qc y Ay cy) 24
  rr : Rr wx K A c q.rs
  rx : Rr wx wx.heap.size Ax cx y.rs
  ry : Rr wx wx.heap.size Ay cy y.rs
  bl : Below w.heap.size w wx
  hk : K ≤ w.heap.size
theorem Ax3.below {w wx wy : World} {K : Nat} {q y : Qr} {A Ax Ay : Option Addr} {c cx cy b5 b7 : Nat} (h : Ax3 w wx K q y A c Ax cx Ay cy b5 b7) (hb : Below wx.heap.size wx wy) : Ax3 w wy K q y A c Ax cx Ay cy b5 b7 :=
  ⟨h.bq.below hb, h.bx.below hb, h.by_.below hb, h.rr.below (hb.mono (Nat.le_trans h.hk h.bl.size)), (h.rx.below hb).more hb.size, (h.ry.below hb).more hb.size, h.bl.trans (hb.mono h.bl.size), h.hk⟩
end Go.Proofs.YtcfbcidakddhfaaGreatDoor
namespace Go.Proofs.YtcfbcidakddhfaaGreatDoor
open Go.RowKit Go.BigFrame

/-- Does point i stand out of order? -/
def badO (l : List Pt) (i : Nat) : Bool := decide (0 < cmpL (l.getD (i - 1) default).set (l.getD i default).set) || ((cmpL (l.getD (i - 1) default).set (l.getD i default).set == 0) && decide ((l.getD i default).t ≤ (l.getD (i - 1) default).t))
def orderB (l : List Pt) : Bool := (List.range l.length).all fun i => (i == 0) || !badO l i
theorem order_yes {l : List Pt} (h : ∀ j, 1 ≤ j → j < l.length → badO l j = false) : orderB l = true := by
  unfold orderB
  rw [List.all_eq_true]
  intro j hj
  rw [List.mem_range] at hj
  by_cases h0 : j = 0
  · subst h0; rfl
  · rw [h j (by omega) hj]; simp
theorem order_no {l : List Pt} {j : Nat} (h1 : 1 ≤ j) (h2 : j < l.length) (h : badO l j = true) : orderB l = false := by
  cases hb : orderB l with
  | false => rfl
  | true =>
    unfold orderB at hb
    rw [List.all_eq_true] at hb
    have := hb j (List.mem_range.2 h2)
    rw [h] at this
    simp at this
    omega
theorem getD_fst {l : List Pz} {i : Nat} (h : i < l.length) : (l.map Prod.fst).getD i default = l[i].1 := by
  rw [List.getD_eq_getElem?_getD, List.getElem?_map, List.getElem?_eq_getElem h]
  rfl
theorem Dn.ps {w w' : World} {K cap : Nat} {A : Option Addr} {l : List Pz} (h : Dn w w') (hl : Ps w K A cap l) : Ps w' K A cap l := by
  obtain ⟨m, rfl⟩ := h
  exact ⟨hl.sr.drewN m, fun p hp => (hl.st p hp).drewN m⟩
theorem Dn.below {w w' : World} {B : Nat} (h : Dn w w') : Below B w w' := by
  obtain ⟨m, rfl⟩ := h
  exact ⟨rfl, rfl, rfl, Nat.le_refl _, fun _ _ => rfl⟩
set_option maxRecDepth 100000 in
set_option maxHeartbeats 3200000 in
theorem orderQ_any {w : World} {K : Nat} {A : Option Addr} {n cap : Nat} {l : List Pz} (hln : l.length = n) (h1 : Ps w K A cap l) :
    Calls Tryz.prog 4 #[.slice A n cap] w fun e w' => e = .returned (.bool (orderB (l.map Prod.fst))) ∧ Dn w w' := by
  subst hln
  have hle := h1.sr.le
  have hmax := h1.sr.max
  unfold maxLen at hmax
  have H1 := Lib.hid h1
  clear h1
  go_enter Tryz.func4, Tryz.ntmps4
  go_wp2_with fail
  go_loopw [3, 4] (fun iv v4 wr => ∃ k : Nat, iv = .int .i64 ((k : Int) + 1) ∧ (k + 1 ≤ l.length ∨ k = 0) ∧ (∀ j, 1 ≤ j → j < k + 1 → badO (l.map Prod.fst) j = false) ∧ Dn w wr) (fun iv _ _ => l.length - (intOf iv).toNat)
  case atStart => exact ⟨0, rfl, .inr rfl, fun j h1 h2 => by omega, ⟨0, rfl⟩⟩
  case round =>
    obtain ⟨k, rfl, hk, hj, hbl⟩ := hrel
    rename World => W0
    have HJ := Lib.hid hj
    have HB0 := Lib.hid hbl
    clear hj
    by_cases hlt : k + 1 < l.length
    · obtain ⟨ad, hA, _, gd0, gd1, gd2, gd3, gd4, gd5, gd6, gd7⟩ := ps_cells (hbl.ps H1.out).sr (i := k) (by omega)
      obtain ⟨ae, hB, _, ge0, ge1, ge2, ge3, ge4, ge5, ge6, ge7⟩ := ps_cells (hbl.ps H1.out).sr hlt
      subst hA
      cases hB
      have hs1 := (hbl.ps H1.out).st (l[k]'(by omega)) (List.getElem_mem (by omega))
      have hs2 := (hbl.ps H1.out).st l[k + 1] (List.getElem_mem hlt)
      have hbo : badO (l.map Prod.fst) (k + 1) = (decide (0 < cmpL (l[k]'(by omega)).1.set l[k + 1].1.set) || ((cmpL (l[k]'(by omega)).1.set l[k + 1].1.set == 0) && decide (l[k + 1].1.t ≤ (l[k]'(by omega)).1.t))) := by
        unfold badO
        rw [show k + 1 - 1 = k by omega, getD_fst hlt, getD_fst (show k < l.length by omega)]
      have HBO := Lib.hid hbo
      clear hbo
      generalize (l[k]'(by omega)) = x at *
      generalize l[k + 1] = y at *
      obtain ⟨p, a1, d1⟩ := x
      obtain ⟨q, a2, d2⟩ := y
      simp only at gd0 gd1 gd2 gd3 gd4 gd5 gd6 gd7 ge0 ge1 ge2 ge3 ge4 ge5 ge6 ge7 hs1 hs2 HBO
      have HCQ : Hid (∀ n, Calls Tryz.prog 14 #[.slice a1 p.set.length d1, .slice a2 q.set.length d2] (W0.drewN n) fun e w' => e = .returned (.int .i64 (cmpL p.set q.set)) ∧ ∃ m, w' = (W0.drewN n).drewN m) := Lib.hid fun n =>
        rCompareQ_any K a1 a2 p.set.length q.set.length d1 d2 p.set q.set (W0.drewN n) rfl rfl (hs1.drewN n) (hs2.drewN n)
      have hbd := cmpL_bd p.set q.set
      generalize cmpL p.set q.set = r at *
      have i1 : (k : Int) + 1 < l.length := by omega
      clear hs1 hs2 hbl
      go_upto_region 4 with fail
      go_big_quiet (first | (go_at_call 14; exact Calls.quiet_of (HCQ.out _)))
      cases c1 : decide (0 < r) with
      | true =>
        have HF : Hid (orderB (l.map Prod.fst) = false) := Lib.hid (order_no (j := k + 1) (by omega) (by rw [List.length_map]; exact hlt) (by rw [HBO.out, c1]; rfl))
        clear HCQ
        go_wp2_with fail
        go_big_quiet (fail)
        go_wp2_with fail
        go_ret
        exact ⟨by rw [HF.out]; rfl, by (repeat (first | exact HB0.out | apply Dn.drewN))⟩
      | false =>
        cases c2 : (r == (0 : Int)) with
        | false =>
          have HN : Hid (badO (l.map Prod.fst) (k + 1) = false) := Lib.hid (by rw [HBO.out, c1, c2]; rfl)
          clear HCQ
          go_wp2_with fail
          go_big_quiet (fail)
          go_wp2_with fail
          go_roundw
          case rel => exact ⟨k + 1, by go_num, .inl (by omega), fun j h1 h2 => by
            by_cases e : j = k + 1
            · subst e; exact HN.out
            · exact HJ.out j h1 (by omega), by (repeat (first | exact HB0.out | apply Dn.drewN))⟩
          case measure => simp [intOf]; omega
        | true =>
          cases c3 : decide (q.t ≤ p.t) with
          | true =>
            have HF : Hid (orderB (l.map Prod.fst) = false) := Lib.hid (order_no (j := k + 1) (by omega) (by rw [List.length_map]; exact hlt) (by rw [HBO.out, c1, c2, c3]; rfl))
            clear HCQ
            go_wp2_with fail
            go_big_quiet (fail)
            go_wp2_with fail
            go_ret
            exact ⟨by rw [HF.out]; rfl, by (repeat (first | exact HB0.out | apply Dn.drewN))⟩
          | false =>
            have HN : Hid (badO (l.map Prod.fst) (k + 1) = false) := Lib.hid (by rw [HBO.out, c1, c2, c3]; rfl)
            clear HCQ
            go_wp2_with fail
            go_big_quiet (fail)
            go_wp2_with fail
            go_roundw
            case rel => exact ⟨k + 1, by go_num, .inl (by omega), fun j h1 h2 => by
              by_cases e : j = k + 1
              · subst e; exact HN.out
              · exact HJ.out j h1 (by omega), by (repeat (first | exact HB0.out | apply Dn.drewN))⟩
            case measure => simp [intOf]; omega
    · have HF : Hid (orderB (l.map Prod.fst) = true) := Lib.hid (order_yes fun j h1 h2 => HJ.out j h1 (by rw [List.length_map] at h2; omega))
      have i1 : ¬ (k : Int) + 1 < l.length := by omega
      go_wp2_with fail
      go_ret
      exact ⟨by rw [HF.out]; rfl, hbl⟩
end Go.Proofs.YtcfbcidakddhfaaGreatDoor
namespace Go.Proofs.YtcfbcidakddhfaaGreatDoor
open Go.RowKit Go.BigFrame

set_option maxRecDepth 100000 in
set_option maxHeartbeats 3200000 in
theorem samePts_any {w : World} {K : Nat} {A B : Option Addr} {n cap cbp : Nat} {l m : List Pz} (hln : l.length = n) (hlm : m.map Prod.fst = l.map Prod.fst) (h1 : Ps w K A cap l) (h2 : Ps w K B cbp m) (hK : K ≤ w.heap.size) :
    Calls Tryz.prog 12 #[.slice A n cap, .slice B n cbp] w (Ok0 w) := by
  subst hln
  have hml : m.length = l.length := by have := congrArg List.length hlm; rw [List.length_map, List.length_map] at this; exact this
  have hle := h1.sr.le
  have hmax := h1.sr.max
  have hle2 := h2.sr.le
  have hmax2 := h2.sr.max
  unfold maxLen at hmax hmax2
  have H1 := Lib.hid h1
  have H2 := Lib.hid h2
  have HLM := Lib.hid hlm
  clear h1 h2 hlm
  go_enter Tryz.func12, Tryz.ntmps12
  go_wp2_with fail
  go_loopw [5] (fun iv wr => ∃ i : Nat, iv = .int .i64 (i : Int) ∧ i ≤ l.length ∧ Below w.heap.size w wr) (fun iv _ => l.length - (intOf iv).toNat)
  case atStart => exact ⟨0, rfl, Nat.zero_le _, Below.refl _ _⟩
  case round =>
    obtain ⟨i, rfl, hi, hbl⟩ := hrel
    rename World => W0
    by_cases hlt : i < l.length
    · obtain ⟨ad, hA, _, gd0, gd1, gd2, gd3, gd4, gd5, gd6, gd7⟩ := ps_cells (H1.out.sr.below (hbl.mono hK)) hlt
      obtain ⟨ae, hB, _, ge0, ge1, ge2, ge3, ge4, ge5, ge6, ge7⟩ := ps_cells (H2.out.sr.below (hbl.mono hK)) (i := i) (by omega)
      have hs1 := (H1.out.st l[i] (List.getElem_mem hlt)).below (hbl.mono hK)
      have hs2 := (H2.out.st (m[i]'(by omega)) (List.getElem_mem (by omega))).below (hbl.mono hK)
      have hxy : (m[i]'(by omega)).1 = l[i].1 := by
        have h9 : (m.map Prod.fst)[i]? = (l.map Prod.fst)[i]? := by rw [HLM.out]
        rw [List.getElem?_map, List.getElem?_map, List.getElem?_eq_getElem hlt, List.getElem?_eq_getElem (show i < m.length by omega)] at h9
        simpa using h9
      generalize l[i] = x at *
      generalize (m[i]'(by omega)) = y at *
      subst hA hB
      obtain ⟨p0, a1, d1⟩ := x
      obtain ⟨p, a2, d2⟩ := y
      simp only at hxy
      subst hxy
      simp only at gd0 gd1 gd2 gd3 gd4 gd5 gd6 gd7 ge0 ge1 ge2 ge3 ge4 ge5 ge6 ge7 hs1 hs2
      have HS1 := Lib.hid hs1
      have HS2 := Lib.hid hs2
      have HB0 := Lib.hid hbl
      have hKw : Hid (K ≤ W0.heap.size) := Lib.hid (Nat.le_trans hK hbl.size)
      have hi2 : (i : Int) < l.length := by omega
      clear hs1 hs2 hbl
      have HSQ : Hid (∀ n, Calls Tryz.prog 23 #[.slice a1 p.set.length d1, .slice a2 p.set.length d2] (W0.drewN n) fun e w' => e = .returned (.bool true) ∧ ∃ m, w' = (W0.drewN n).drewN m) := Lib.hid fun n => by
        have := rSameQ_any K a1 a2 p.set.length p.set.length d1 d2 p.set p.set (W0.drewN n) rfl rfl (HS1.out.drewN n) (HS2.out.drewN n)
        rwa [cmpL_self] at this
      have hpb : p.b % 4294967296 = p.b % 4294967296 := rfl
      clear hpb
      go_upto_region 6 with fail
      dsimp only [List.append]
      go_big_quiet (first | (go_at_call 23; exact Calls.quiet_of (HSQ.out _)))
      go_wp2
      go_roundw
      case rel => exact ⟨i + 1, by go_num, by omega, below_drewP HB0.out _⟩
      case measure => simp [intOf]; omega
    · obtain rfl : i = l.length := by omega
      go_wp2
      go_ret
      exact ⟨rfl, hbl⟩
end Go.Proofs.YtcfbcidakddhfaaGreatDoor
