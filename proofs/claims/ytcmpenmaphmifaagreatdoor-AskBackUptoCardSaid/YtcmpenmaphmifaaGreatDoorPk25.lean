/- Law 13's awake; the law AskTexts: its walk. -/
import Derived.Test.YtcmpenmaphmifaaGreatDoorPk24
namespace Go.Proofs.YtcmpenmaphmifaaGreatDoor
open Go.RowKit Go.BigFrame

theorem dec0 : dec 0 = [48] := dec_small (by decide)
theorem dec5 : dec 5 = [53] := dec_small (by decide)
theorem dec10 : dec 10 = [49, 48] := by rw [dec_big (by decide), dec_small (by decide)]; rfl
theorem num0 : numOf [48] = some 0 := by rw [← dec0]; exact numOf_dec 0 (by decide)
theorem num5 : numOf [53] = some 5 := by rw [← dec5]; exact numOf_dec 5 (by decide)
theorem num10 : numOf [49, 48] = some 10 := by rw [← dec10]; exact numOf_dec 10 (by decide)
theorem aw1 : parseQ numA [115, 117, 109, 123, 97, 61, 34, 49, 34, 125, 32, 48, 32, 49, 48, 32, 53, 32, 110, 111, 116, 101, 115] = (⟨1, [((⟨#[97]⟩ : ByteArray), (1 : Int), (⟨#[49]⟩ : ByteArray))], 0, 10, 5, true⟩, 0) := by
  have h1 : cutB 123 [115, 117, 109, 123, 97, 61, 34, 49, 34, 125, 32, 48, 32, 49, 48, 32, 53, 32, 110, 111, 116, 101, 115] = [115, 117, 109] := by decide
  have h2 : opA [115, 117, 109] = some 1 := by decide
  have h3 : parseB ([123, 97, 61, 34, 49, 34, 125] ++ [32, 48, 32, 49, 48, 32, 53, 32, 110, 111, 116, 101, 115]) = ([((⟨#[97]⟩ : ByteArray), (1 : Int), (⟨#[49]⟩ : ByteArray))], 7) := by
    have h := parse_back (l := [((⟨#[97]⟩ : ByteArray), (1 : Int), (⟨#[49]⟩ : ByteArray))]) (by decide +kernel) [32, 48, 32, 49, 48, 32, 53, 32, 110, 111, 116, 101, 115]
    have e : textR [((⟨#[97]⟩ : ByteArray), (1 : Int), (⟨#[49]⟩ : ByteArray))] = [123, 97, 61, 34, 49, 34, 125] := by decide +kernel
    rw [e] at h
    exact h
  have h4 : readX numA 3 [32, 48, 32, 49, 48, 32, 53, 32, 110, 111, 116, 101, 115] = some ([0, 10, 5], notesL) := by
    refine readX_mk (u := 2) (v := 0) ?_ (readX_mk (u := 3) (v := 10) ?_ (readX_mk (u := 2) (v := 5) ?_ rfl))
    · have e : cutB 32 [48, 32, 49, 48, 32, 53, 32, 110, 111, 116, 101, 115] = [48] := by decide
      unfold numA
      simp only
      rw [if_pos trivial, e, num0]
      rfl
    · have e : cutB 32 [49, 48, 32, 53, 32, 110, 111, 116, 101, 115] = [49, 48] := by decide
      show numA [32, 49, 48, 32, 53, 32, 110, 111, 116, 101, 115] = _
      unfold numA
      simp only
      rw [if_pos trivial, e, num10]
      rfl
    · have e : cutB 32 [53, 32, 110, 111, 116, 101, 115] = [53] := by decide
      show numA [32, 53, 32, 110, 111, 116, 101, 115] = _
      unfold numA
      simp only
      rw [if_pos trivial, e, num5]
      rfl
  have h5 : rightQ (mkQ 1 [((⟨#[97]⟩ : ByteArray), (1 : Int), (⟨#[49]⟩ : ByteArray))] [0, 10, 5] notesL) = true := by decide +kernel
  unfold parseQ
  rw [if_neg (by decide), h1, h2]
  unfold tailQ
  simp only
  rw [if_pos (by decide)]
  show (if (parseB ([123, 97, 61, 34, 49, 34, 125] ++ [32, 48, 32, 49, 48, 32, 53, 32, 110, 111, 116, 101, 115])).2 = 0 then _ else endQ 1 (parseB ([123, 97, 61, 34, 49, 34, 125] ++ [32, 48, 32, 49, 48, 32, 53, 32, 110, 111, 116, 101, 115])).1 (readX numA (kQ 1) (List.drop ([115, 117, 109].length + (parseB ([123, 97, 61, 34, 49, 34, 125] ++ [32, 48, 32, 49, 48, 32, 53, 32, 110, 111, 116, 101, 115])).2) [115, 117, 109, 123, 97, 61, 34, 49, 34, 125, 32, 48, 32, 49, 48, 32, 53, 32, 110, 111, 116, 101, 115]))) = _
  rw [h3]
  show (if (7 : Nat) = 0 then _ else endQ 1 _ (readX numA 3 [32, 48, 32, 49, 48, 32, 53, 32, 110, 111, 116, 101, 115])) = _
  rw [h4, if_neg (by decide)]
  unfold endQ
  simp only
  rw [if_pos ⟨.inl trivial, h5⟩]
  rfl
theorem aw2 : parseQ numA [115, 117, 109, 123, 125, 32, 48, 32, 49, 48] = (Qr.zero, 90) := by
  have h1 : cutB 123 [115, 117, 109, 123, 125, 32, 48, 32, 49, 48] = [115, 117, 109] := by decide
  have h2 : opA [115, 117, 109] = some 1 := by decide
  have h3 : parseB [123, 125, 32, 48, 32, 49, 48] = ([], 2) := by decide +kernel
  have h4 : readX numA 3 [32, 48, 32, 49, 48] = none := by
    have e1 : numA [32, 48, 32, 49, 48] = some (0, 2) := by
      have e : cutB 32 [48, 32, 49, 48] = [48] := by decide
      unfold numA
      simp only
      rw [if_pos trivial, e, num0]
      rfl
    have e2 : numA [32, 49, 48] = some (10, 3) := by
      have e : cutB 32 [49, 48] = [49, 48] := by decide
      unfold numA
      simp only
      rw [if_pos trivial, e, num10]
      rfl
    have e3 : readX numA 1 [] = none := rfl
    have e4 : readX numA 2 [32, 49, 48] = none := by
      unfold readX
      rw [e2]
      simp only
      show (match readX numA 1 [] with | none => none | some (vs, r) => some (10 :: vs, r)) = none
      rw [e3]
    unfold readX
    rw [e1]
    simp only
    show (match readX numA 2 [32, 49, 48] with | none => none | some (vs, r) => some (0 :: vs, r)) = none
    rw [e4]
  unfold parseQ
  rw [if_neg (by decide), h1, h2]
  unfold tailQ
  simp only
  rw [if_pos (by decide)]
  show (if (parseB [123, 125, 32, 48, 32, 49, 48]).2 = 0 then _ else endQ 1 (parseB [123, 125, 32, 48, 32, 49, 48]).1 (readX numA (kQ 1) (List.drop ([115, 117, 109].length + (parseB [123, 125, 32, 48, 32, 49, 48]).2) [115, 117, 109, 123, 125, 32, 48, 32, 49, 48]))) = _
  rw [h3]
  show (if (2 : Nat) = 0 then _ else endQ 1 _ (readX numA 3 [32, 48, 32, 49, 48])) = _
  rw [h4, if_neg (by decide)]
  rfl
set_option maxRecDepth 100000 in
set_option maxHeartbeats 800000 in
theorem awakeQ_any (w : World) (hm : Mx w) (he : Errs w) (hp : Pow w) (hg : Sg w) (hwo : Wo w) : Calls Tryz.prog 9 #[] w fun e w' => e = .returned (.bool true) ∧ Below w.heap.size w w' := by
  have HGL : Hid (∀ wx, Below w.heap.size w wx → Mx wx ∧ Errs wx ∧ Pow wx ∧ Sg wx ∧ Wo wx) := Lib.hid fun wx h => ⟨Mx.below hm h, he.below h, hp.below h, Sg.below hg h, hwo.below h⟩
  have HP1 : Hid (∀ wx, Below w.heap.size w wx → Calls Tryz.prog 7 #[.string ⟨#[115, 117, 109, 123, 97, 61, 34, 49, 34, 125, 32, 48, 32, 49, 48, 32, 53, 32, 110, 111, 116, 101, 115]⟩] wx (ParP wx (⟨1, [((⟨#[97]⟩ : ByteArray), (1 : Int), (⟨#[49]⟩ : ByteArray))], 0, 10, 5, true⟩, 0))) := Lib.hid fun wx h => by
    obtain ⟨h1, h2, h3, h4, h5⟩ := HGL.out wx h
    have h9 := akParse_any ⟨#[115, 117, 109, 123, 97, 61, 34, 49, 34, 125, 32, 48, 32, 49, 48, 32, 53, 32, 110, 111, 116, 101, 115]⟩ wx (by decide) h1 h2 h3 h4 h5
    have e : (⟨#[115, 117, 109, 123, 97, 61, 34, 49, 34, 125, 32, 48, 32, 49, 48, 32, 53, 32, 110, 111, 116, 101, 115]⟩ : ByteArray).data.toList = [115, 117, 109, 123, 97, 61, 34, 49, 34, 125, 32, 48, 32, 49, 48, 32, 53, 32, 110, 111, 116, 101, 115] := rfl
    rwa [e, aw1] at h9
  have HP2 : Hid (∀ wx, Below w.heap.size w wx → Calls Tryz.prog 7 #[.string ⟨#[115, 117, 109, 123, 125, 32, 48, 32, 49, 48]⟩] wx (ParP wx (Qr.zero, 90))) := Lib.hid fun wx h => by
    obtain ⟨h1, h2, h3, h4, h5⟩ := HGL.out wx h
    have h9 := akParse_any ⟨#[115, 117, 109, 123, 125, 32, 48, 32, 49, 48]⟩ wx (by decide) h1 h2 h3 h4 h5
    have e : (⟨#[115, 117, 109, 123, 125, 32, 48, 32, 49, 48]⟩ : ByteArray).data.toList = [115, 117, 109, 123, 125, 32, 48, 32, 49, 48] := rfl
    rwa [e, aw2] at h9
  clear hm he hp hg hwo
  go_enter Tryz.func9, Tryz.ntmps9
  go_wp2_with fail
  refine (HP1.out w (Below.refl _ _)).mono ?_
  rintro e w1 ⟨A1, c1, rfl, _, b1⟩
  have HB1 := Lib.hid b1
  clear b1
  go_wp2_with fail
  have hb2 : Below w1.heap.size w1 (w1.alloc (.cells #[.int .i64 1, .slice A1 1 c1, .int .i64 0, .int .i64 10, .int .i64 5, .bool true] 27)) := (Below.refl _ _).alloc (Nat.le_refl _) _
  have hx : Rwo (w1.alloc (.cells #[.int .i64 1, .slice A1 1 c1, .int .i64 0, .int .i64 10, .int .i64 5, .bool true] 27)) w1.heap.size #[.int .i64 1, .slice A1 1 c1, .int .i64 0, .int .i64 10, .int .i64 5, .bool true] 27 := ⟨heap_alloc_new w1 _⟩
  have HB2 := Lib.hid (HB1.out.trans (hb2.mono HB1.out.size))
  refine (HP2.out _ HB2.out).mono ?_
  rintro e w3 ⟨A3, c3, rfl, _, b3⟩
  have hx3 := hx.below b3
  have y0 : w3.cell? ⟨w1.heap.size, 0, none⟩ = some (.int .i64 1) := hx3.cell rfl
  have y4 : w3.cell? ⟨w1.heap.size, 4, none⟩ = some (.int .i64 5) := hx3.cell rfl
  have y5 : w3.cell? ⟨w1.heap.size, 5, none⟩ = some (.bool true) := hx3.cell rfl
  have yl := hx3.lt
  have HB3 : Hid (Below w.heap.size w (w3.alloc (.cells #[.int .i64 0, .slice A3 0 c3, .int .i64 0, .int .i64 0, .int .i64 0, .bool false] 27))) := Lib.hid ((HB2.out.trans (b3.mono HB2.out.size)).alloc (HB2.out.trans (b3.mono HB2.out.size)).size _)
  clear hb2 hx hx3 b3 HB1
  go_wp2
  go_ret
  exact ⟨rfl, HB3.out⟩
/-- A value of AskTexts' statement. -/
inductive Vx where
  | v (x : Value)
  | q (r : Qr)
def Hx : Vx → Value → World → Prop
  | .v x, u, _ => u = x
  | .q r, u, wx => ∃ A c, u = qv r A c ∧ Rr wx wx.heap.size A c r.rs
theorem Hx.mono {p : Vx} {u : Value} {w w' : World} (h : Hx p u w) (hb : Below w.heap.size w w') : Hx p u w' := by
  cases p with
  | v x => exact h
  | q r =>
    obtain ⟨A, c, e, h⟩ := h
    exact ⟨A, c, e, (h.below hb).more hb.size⟩
/-- The law's three queries, seen from the world w. -/
structure Ax3 (w wx : World) (K : Nat) (q y : Qr) (A : Option Addr) (c : Nat) (Ax : Option Addr) (cx : Nat) (Ay : Option Addr) (cy b5 b7 : Nat) : Prop where
  bq : Rwo wx w.heap.size (qc q A c) 24
  bx : Rwo wx b5 (qc y Ax cx) 27
  by_ : Rwo wx b7 (qc y Ay cy) 24
  rr : Rr wx K A c q.rs
  rx : Rr wx wx.heap.size Ax cx y.rs
  ry : Rr wx wx.heap.size Ay cy y.rs
  bl : Below w.heap.size w wx
  hk : K ≤ w.heap.size
theorem Ax3.below {w wx wy : World} {K : Nat} {q y : Qr} {A Ax Ay : Option Addr} {c cx cy b5 b7 : Nat} (h : Ax3 w wx K q y A c Ax cx Ay cy b5 b7) (hb : Below wx.heap.size wx wy) : Ax3 w wy K q y A c Ax cx Ay cy b5 b7 :=
  ⟨h.bq.below hb, h.bx.below hb, h.by_.below hb, h.rr.below (hb.mono (Nat.le_trans h.hk h.bl.size)), (h.rx.below hb).more hb.size, (h.ry.below hb).more hb.size, h.bl.trans (hb.mono h.bl.size), h.hk⟩
set_option maxRecDepth 100000 in
set_option maxHeartbeats 1600000 in
theorem asktexts_any {K0 : Nat} {q : Qr} {A : Option Addr} {c : Nat} (t : ByteArray) (w : World) (hr : Rr w K0 A c q.rs) (hK : K0 ≤ w.heap.size) (hS : SmR q.rs) (hl : q.rs.length ≤ 1048576) (hq : Qok q) (hs : t.size ≤ 1048576) (hm : Mx w) (he : Errs w) (hp : Pow w) (hg : Sg w) (hwo : Wo w) :
    Calls Tryz.prog 3 #[qv q A c, .string t] w fun e w' => e = .returned (.bool true) ∧ Below w.heap.size w w' := by
  have HGL : Hid (∀ wx, Below w.heap.size w wx → Mx wx ∧ Errs wx ∧ Pow wx ∧ Sg wx ∧ Wo wx) := Lib.hid fun wx h => ⟨Mx.below hm h, he.below h, hp.below h, Sg.below hg h, hwo.below h⟩
  obtain ⟨y, er, hp0⟩ : ∃ y er, parseQ numA t.data.toList = (y, er) := ⟨_, _, rfl⟩
  have hyl : y.rs.length ≤ 1048576 := by have h := parseQ_len numA t.data.toList; rw [hp0] at h; simp only at h; omega
  have HP1 : Hid (∀ wx, Below w.heap.size w wx → Calls Tryz.prog 7 #[.string t] wx (ParP wx (y, er))) := Lib.hid fun wx h => by
    obtain ⟨h1, h2, h3, h4, h5⟩ := HGL.out wx h
    rw [← hp0]
    exact akParse_any t wx hs h1 h2 h3 h4 h5
  have HP2 : Hid (∀ wx, Calls Tryz.prog 8 #[.string t] wx (ParD wx (y, er))) := Lib.hid fun wx => by
    rw [← hp0, parse_sameQ]
    exact rParseQ_any t wx hs
  have HAW : Hid (∀ wx, Below w.heap.size w wx → Calls Tryz.prog 9 #[] wx fun e w' => e = .returned (.bool true) ∧ Below wx.heap.size wx w') := Lib.hid fun wx h => by
    obtain ⟨h1, h2, h3, h4, h5⟩ := HGL.out wx h
    exact awakeQ_any wx h1 h2 h3 h4 h5
  have HQ := Lib.hid hq
  have HSQ := Lib.hid hS
  have HLQ := Lib.hid hl
  have HLY := Lib.hid hyl
  have HKW := Lib.hid hK
  obtain ⟨rq, hrq⟩ : ∃ rq, rq = rightQ q := ⟨_, rfl⟩
  obtain ⟨s, hs0⟩ : ∃ s : ByteArray, s = ⟨(textQ q).toArray⟩ := ⟨_, rfl⟩
  have HRQ : Hid (rightQ q = rq) := Lib.hid hrq.symm
  have HTX : Hid (∀ wx A' c', Below w.heap.size w wx → Rr wx wx.heap.size A' c' q.rs → Calls Tryz.prog 13 #[qv q A' c'] wx (NewStr wx s)) := Lib.hid fun wx A' c' h h9 => by
    obtain ⟨h1, h2, h3, h4, h5⟩ := HGL.out wx h
    rw [hs0]
    exact akText_any wx h9 (Nat.le_refl _) HSQ.out HLQ.out HQ.out h4 h5 h3
  have hcl := hr.le
  have HBX : Hid (Rwo (w.alloc (.cells (qc q A c) 24)) w.heap.size (qc q A c) 24) := Lib.hid ⟨heap_alloc_new w _⟩
  have HB1 : Hid (Below w.heap.size w (w.alloc (.cells (qc q A c) 24))) := Lib.hid ((Below.refl _ _).alloc (Nat.le_refl _) _)
  have HRR1 : Hid (Rr (w.alloc (.cells (qc q A c) 24)) K0 A c q.rs) := Lib.hid (hr.alloc hK _)
  clear hm he hp hg hwo hp0 hs hq hS hl hyl hr
  go_enter Tryz.func3, Tryz.ntmps3
  go_upto_region 1 with fail
  generalize w.alloc (.cells (qc q A c) 24) = w1 at HBX HB1 HRR1 ⊢
  go_wp2_with fail
  refine (HP1.out _ HB1.out).mono ?_
  rintro e w2 ⟨Ax, cx, rfl, hxr, b2⟩
  have hxc := (So.sr encR_len hxr).1.le
  go_upto_region 2 with fail
  have hb3 : Below w2.heap.size w2 (w2.alloc (.cells (qc y Ax cx) 27)) := (Below.refl _ _).alloc (Nat.le_refl _) _
  have hx3 : Rwo (w2.alloc (.cells (qc y Ax cx) 27)) w2.heap.size (qc y Ax cx) 27 := ⟨heap_alloc_new w2 _⟩
  have hq2 := HBX.out.below b2
  have hr2 : Rr w2 K0 A c q.rs := HRR1.out.below (b2.mono (Nat.le_trans hK HB1.out.size))
  have hB2 := HB1.out.trans (b2.mono HB1.out.size)
  generalize w2.alloc (.cells (qc y Ax cx) 27) = w3 at hb3 hx3 ⊢
  have hB3 := hB2.trans (hb3.mono hB2.size)
  have HX3 := Lib.hid hx3
  have HQ3 := Lib.hid (hq2.below hb3)
  have HR3 : Hid (Rr w3 K0 A c q.rs) := Lib.hid (hr2.below (hb3.mono (Nat.le_trans hK hB2.size)))
  have HXR3 : Hid (Rr w3 w3.heap.size Ax cx y.rs) := Lib.hid (((So.sr encR_len hxr).1.below hb3).more hb3.size)
  have HB3 := Lib.hid hB3
  obtain ⟨b5, hb5⟩ : ∃ b5, b5 = w2.heap.size := ⟨_, rfl⟩
  rw [← hb5] at HX3 ⊢
  clear hb3 hx3 hq2 hr2 hB2 hB3 hxr b2 hb5 HBX HB1 HRR1
  go_wp2_with fail
  refine (HP2.out w3).mono ?_
  rintro e w4 ⟨Ay, cy, rfl, hyr, b4⟩
  have hyc := (So.sr encR_len hyr).1.le
  go_upto_region 3 with fail
  have hb5 : Below w4.heap.size w4 (w4.alloc (.cells (qc y Ay cy) 24)) := (Below.refl _ _).alloc (Nat.le_refl _) _
  have hy5 : Rwo (w4.alloc (.cells (qc y Ay cy) 24)) w4.heap.size (qc y Ay cy) 24 := ⟨heap_alloc_new w4 _⟩
  generalize w4.alloc (.cells (qc y Ay cy) 24) = w5 at hb5 hy5 ⊢
  have b45 : Below w3.heap.size w3 w5 := b4.trans (hb5.mono b4.size)
  obtain ⟨b7, hb7⟩ : ∃ b7, b7 = w4.heap.size := ⟨_, rfl⟩
  rw [← hb7] at hy5 ⊢
  have HG0 : Hid (Ax3 w w5 K0 q y A c Ax cx Ay cy b5 b7) := Lib.hid ⟨HQ3.out.below b45, HX3.out.below b45, hy5, HR3.out.below (b45.mono (Nat.le_trans hK HB3.out.size)), (HXR3.out.below b45).more b45.size, ((So.sr encR_len hyr).1.below hb5).more hb5.size, HB3.out.trans (b45.mono HB3.out.size), hK⟩
  have HRR : Hid (∀ wx, Ax3 w wx K0 q y A c Ax cx Ay cy b5 b7 → Calls Tryz.prog 12 #[qv q A c] wx fun e w' => e = .returned (.bool rq) ∧ Below wx.heap.size wx w') := Lib.hid fun wx h => by
    rw [hrq]
    exact rRightQ_any h.rr (Nat.le_trans h.hk h.bl.size) HSQ.out HQ.out.s2
  have HTD : Hid (∀ wx, Ax3 w wx K0 q y A c Ax cx Ay cy b5 b7 → Calls Tryz.prog 14 #[qv q A c] wx (NewStr wx s)) := Lib.hid fun wx h => by
    rw [hs0]
    exact rTextQ_any wx h.rr (Nat.le_trans h.hk h.bl.size) HSQ.out HLQ.out HQ.out
  clear hb5 hy5 b45 hyr b4 HQ3 HX3 HR3 HXR3 HB3 hrq hs0 hK hb7 HP1 HP2
  apply region_V Hx (fun wx => Ax3 w wx K0 q y A c Ax cx Ay cy b5 b7) [.v (.bool true), .v (.bool true), .v (qv q A c), .q q, .v (.bool rq), .v (qv q A c), .v (.bool rq), .v (.bool true), .v (.bool true), .v (.bool true), .v (qv q A c), .q q, .v (.string s), .v (qv q A c), .v (.string s), .v (.bool true), .v (.bool true), .v (.bool true), .v (.int .i64 er), .v (.int .i64 er), .v (.bool true), .v (.bool true), .v (.bool true), .v (qv y Ax cx), .q y, .v (qv y Ay cy), .v (.bool true), .v (.bool true), .v (.bool true)] (.v undef)
  case mono => exact fun p v w0 w1 h hb => Hx.mono h hb
  case hm => kernel_rfl
  case hf => kernel_rfl
  case hQ => exact (by intro c x y w e h; exact And.intro (e.symm.trans (And.left h)) (And.right h))
  case hF => intro vs; simp only [putAll, Act.put, List.setIfInBounds_toArray, List.set_cons_zero, List.set_cons_succ, Nat.reduceAdd]; rfl
  case h0 => exact HG0.out.below ⟨rfl, rfl, rfl, Nat.le_refl _, fun _ _ => rfl⟩
  case hstep =>
    repeat' (first | exact AllOps.nil | apply AllOps.cons)
    · intro vs wx hG hd K hK
      replace hK : ∀ (uu : Value) (w' : World), Below wx.heap.size wx w' → ((fun wx => Ax3 w wx K0 q y A c Ax cx Ay cy b5 b7)) w' → Hx (.v (.bool true)) uu w' → K _ w' := hK
      simp only [Act.put, List.setIfInBounds_toArray, List.set_cons_zero, List.set_cons_succ] at hK ⊢
      have HK := Lib.hid hK
      have HG := Lib.hid hG
      clear hK hd
      clear hG
      go_simp
      go_at_call 9
      refine (HAW.out wx HG.out.bl).mono ?_
      rintro e w1 ⟨rfl, hb⟩
      exact HK.out _ _ hb (HG.out.below hb) rfl
    · intro vs wx hG hd K hK
      have e0 : vs 0 = .bool true := hd.get (j := 0) (by simp [depsOf, Region.binds])
      replace hK : ∀ (uu : Value) (w' : World), Below wx.heap.size wx w' → ((fun wx => Ax3 w wx K0 q y A c Ax cx Ay cy b5 b7)) w' → Hx (.v (.bool true)) uu w' → K _ w' := hK
      simp only [Act.put, List.setIfInBounds_toArray, List.set_cons_zero, List.set_cons_succ, e0] at hK ⊢
      have HK := Lib.hid hK
      have HG := Lib.hid hG
      clear hK hd e0
      clear hG
      go_simp
      exact HK.out _ _ (Below.refl _ _) HG.out rfl
    · intro vs wx hG hd K hK
      have e1 : vs 1 = .bool true := hd.get (j := 1) (by simp [depsOf, Region.binds])
      replace hK : ∀ (uu : Value) (w' : World), Below wx.heap.size wx w' → ((fun wx => Ax3 w wx K0 q y A c Ax cx Ay cy b5 b7)) w' → Hx (.v (qv q A c)) uu w' → K _ w' := hK
      simp only [Act.put, List.setIfInBounds_toArray, List.set_cons_zero, List.set_cons_succ, e1] at hK ⊢
      have HK := Lib.hid hK
      have HG := Lib.hid hG
      clear hK hd e1
      have p0 : wx.cell? ⟨w.heap.size, 0, none⟩ = some (.int .i64 q.op) := HG.out.bq.cell rfl
      have p1 : wx.cell? ⟨w.heap.size, 1, none⟩ = some (.slice A q.rs.length c) := HG.out.bq.cell rfl
      have p2 : wx.cell? ⟨w.heap.size, 2, none⟩ = some (.int .i64 q.fr) := HG.out.bq.cell rfl
      have p3 : wx.cell? ⟨w.heap.size, 3, none⟩ = some (.int .i64 q.to_) := HG.out.bq.cell rfl
      have p4 : wx.cell? ⟨w.heap.size, 4, none⟩ = some (.int .i64 q.st) := HG.out.bq.cell rfl
      have p5 : wx.cell? ⟨w.heap.size, 5, none⟩ = some (.bool q.nt) := HG.out.bq.cell rfl
      have pl := HG.out.bq.lt
      have x0 : wx.cell? ⟨b5, 0, none⟩ = some (.int .i64 y.op) := HG.out.bx.cell rfl
      have x1 : wx.cell? ⟨b5, 1, none⟩ = some (.slice Ax y.rs.length cx) := HG.out.bx.cell rfl
      have x2 : wx.cell? ⟨b5, 2, none⟩ = some (.int .i64 y.fr) := HG.out.bx.cell rfl
      have x3 : wx.cell? ⟨b5, 3, none⟩ = some (.int .i64 y.to_) := HG.out.bx.cell rfl
      have x4 : wx.cell? ⟨b5, 4, none⟩ = some (.int .i64 y.st) := HG.out.bx.cell rfl
      have x5 : wx.cell? ⟨b5, 5, none⟩ = some (.bool y.nt) := HG.out.bx.cell rfl
      have xl := HG.out.bx.lt
      have y0 : wx.cell? ⟨b7, 0, none⟩ = some (.int .i64 y.op) := HG.out.by_.cell rfl
      have y1 : wx.cell? ⟨b7, 1, none⟩ = some (.slice Ay y.rs.length cy) := HG.out.by_.cell rfl
      have y2 : wx.cell? ⟨b7, 2, none⟩ = some (.int .i64 y.fr) := HG.out.by_.cell rfl
      have y3 : wx.cell? ⟨b7, 3, none⟩ = some (.int .i64 y.to_) := HG.out.by_.cell rfl
      have y4 : wx.cell? ⟨b7, 4, none⟩ = some (.int .i64 y.st) := HG.out.by_.cell rfl
      have y5 : wx.cell? ⟨b7, 5, none⟩ = some (.bool y.nt) := HG.out.by_.cell rfl
      have yl := HG.out.by_.lt
      clear hG
      go_simp
      exact HK.out _ _ (Below.refl _ _) HG.out rfl
    · intro vs wx hG hd K hK
      have e1 : vs 1 = .bool true := hd.get (j := 1) (by simp [depsOf, Region.binds])
      have e2 : vs 2 = qv q A c := hd.get (j := 2) (by simp [depsOf, Region.binds])
      replace hK : ∀ (uu : Value) (w' : World), Below wx.heap.size wx w' → ((fun wx => Ax3 w wx K0 q y A c Ax cx Ay cy b5 b7)) w' → Hx (.q q) uu w' → K _ w' := hK
      simp only [Act.put, List.setIfInBounds_toArray, List.set_cons_zero, List.set_cons_succ, e1, e2] at hK ⊢
      have HK := Lib.hid hK
      have HG := Lib.hid hG
      clear hK hd e1 e2
      clear hG
      go_simp
      go_at_call 11
      refine (toQ_any wx HG.out.rr (Nat.le_trans HKW.out HG.out.bl.size) HLQ.out).mono ?_
      rintro e w9 ⟨A9, c9, rfl, h9, hb⟩
      exact HK.out _ _ hb (HG.out.below hb) ⟨A9, c9, rfl, (So.sr encR_len h9).1⟩
    · intro vs wx hG hd K hK
      have e1 : vs 1 = .bool true := hd.get (j := 1) (by simp [depsOf, Region.binds])
      obtain ⟨A3, c3, e3, r3⟩ : ∃ A' c', vs 3 = qv q A' c' ∧ Rr wx wx.heap.size A' c' q.rs := hd.get (j := 3) (by simp [depsOf, Region.binds])
      replace hK : ∀ (uu : Value) (w' : World), Below wx.heap.size wx w' → ((fun wx => Ax3 w wx K0 q y A c Ax cx Ay cy b5 b7)) w' → Hx (.v (.bool rq)) uu w' → K _ w' := hK
      simp only [Act.put, List.setIfInBounds_toArray, List.set_cons_zero, List.set_cons_succ, e1, e3] at hK ⊢
      have HK := Lib.hid hK
      have HG := Lib.hid hG
      clear hK hd e1 e3
      clear hG
      go_simp
      go_at_call 10
      refine ((HRQ.out ▸ akRight_any r3 (Nat.le_refl _) HSQ.out HQ.out.s2 : Calls _ _ _ _ fun e w' => e = .returned (.bool rq) ∧ Below wx.heap.size wx w')).mono ?_
      rintro e w1 ⟨rfl, hb⟩
      exact HK.out _ _ hb (HG.out.below hb) rfl
    · intro vs wx hG hd K hK
      have e1 : vs 1 = .bool true := hd.get (j := 1) (by simp [depsOf, Region.binds])
      replace hK : ∀ (uu : Value) (w' : World), Below wx.heap.size wx w' → ((fun wx => Ax3 w wx K0 q y A c Ax cx Ay cy b5 b7)) w' → Hx (.v (qv q A c)) uu w' → K _ w' := hK
      simp only [Act.put, List.setIfInBounds_toArray, List.set_cons_zero, List.set_cons_succ, e1] at hK ⊢
      have HK := Lib.hid hK
      have HG := Lib.hid hG
      clear hK hd e1
      have p0 : wx.cell? ⟨w.heap.size, 0, none⟩ = some (.int .i64 q.op) := HG.out.bq.cell rfl
      have p1 : wx.cell? ⟨w.heap.size, 1, none⟩ = some (.slice A q.rs.length c) := HG.out.bq.cell rfl
      have p2 : wx.cell? ⟨w.heap.size, 2, none⟩ = some (.int .i64 q.fr) := HG.out.bq.cell rfl
      have p3 : wx.cell? ⟨w.heap.size, 3, none⟩ = some (.int .i64 q.to_) := HG.out.bq.cell rfl
      have p4 : wx.cell? ⟨w.heap.size, 4, none⟩ = some (.int .i64 q.st) := HG.out.bq.cell rfl
      have p5 : wx.cell? ⟨w.heap.size, 5, none⟩ = some (.bool q.nt) := HG.out.bq.cell rfl
      have pl := HG.out.bq.lt
      have x0 : wx.cell? ⟨b5, 0, none⟩ = some (.int .i64 y.op) := HG.out.bx.cell rfl
      have x1 : wx.cell? ⟨b5, 1, none⟩ = some (.slice Ax y.rs.length cx) := HG.out.bx.cell rfl
      have x2 : wx.cell? ⟨b5, 2, none⟩ = some (.int .i64 y.fr) := HG.out.bx.cell rfl
      have x3 : wx.cell? ⟨b5, 3, none⟩ = some (.int .i64 y.to_) := HG.out.bx.cell rfl
      have x4 : wx.cell? ⟨b5, 4, none⟩ = some (.int .i64 y.st) := HG.out.bx.cell rfl
      have x5 : wx.cell? ⟨b5, 5, none⟩ = some (.bool y.nt) := HG.out.bx.cell rfl
      have xl := HG.out.bx.lt
      have y0 : wx.cell? ⟨b7, 0, none⟩ = some (.int .i64 y.op) := HG.out.by_.cell rfl
      have y1 : wx.cell? ⟨b7, 1, none⟩ = some (.slice Ay y.rs.length cy) := HG.out.by_.cell rfl
      have y2 : wx.cell? ⟨b7, 2, none⟩ = some (.int .i64 y.fr) := HG.out.by_.cell rfl
      have y3 : wx.cell? ⟨b7, 3, none⟩ = some (.int .i64 y.to_) := HG.out.by_.cell rfl
      have y4 : wx.cell? ⟨b7, 4, none⟩ = some (.int .i64 y.st) := HG.out.by_.cell rfl
      have y5 : wx.cell? ⟨b7, 5, none⟩ = some (.bool y.nt) := HG.out.by_.cell rfl
      have yl := HG.out.by_.lt
      clear hG
      go_simp
      exact HK.out _ _ (Below.refl _ _) HG.out rfl
    · intro vs wx hG hd K hK
      have e1 : vs 1 = .bool true := hd.get (j := 1) (by simp [depsOf, Region.binds])
      have e5 : vs 5 = qv q A c := hd.get (j := 5) (by simp [depsOf, Region.binds])
      replace hK : ∀ (uu : Value) (w' : World), Below wx.heap.size wx w' → ((fun wx => Ax3 w wx K0 q y A c Ax cx Ay cy b5 b7)) w' → Hx (.v (.bool rq)) uu w' → K _ w' := hK
      simp only [Act.put, List.setIfInBounds_toArray, List.set_cons_zero, List.set_cons_succ, e1, e5] at hK ⊢
      have HK := Lib.hid hK
      have HG := Lib.hid hG
      clear hK hd e1 e5
      clear hG
      go_simp
      go_at_call 12
      refine (HRR.out wx HG.out).mono ?_
      rintro e w1 ⟨rfl, hb⟩
      exact HK.out _ _ hb (HG.out.below hb) rfl
    · intro vs wx hG hd K hK
      have e1 : vs 1 = .bool true := hd.get (j := 1) (by simp [depsOf, Region.binds])
      have e4 : vs 4 = .bool rq := hd.get (j := 4) (by simp [depsOf, Region.binds])
      have e6 : vs 6 = .bool rq := hd.get (j := 6) (by simp [depsOf, Region.binds])
      replace hK : ∀ (uu : Value) (w' : World), Below wx.heap.size wx w' → ((fun wx => Ax3 w wx K0 q y A c Ax cx Ay cy b5 b7)) w' → Hx (.v (.bool true)) uu w' → K _ w' := hK
      simp only [Act.put, List.setIfInBounds_toArray, List.set_cons_zero, List.set_cons_succ, e1, e4, e6] at hK ⊢
      have HK := Lib.hid hK
      have HG := Lib.hid hG
      clear hK hd e1 e4 e6
      clear hG
      go_simp
      exact HK.out _ _ (Below.refl _ _) HG.out rfl
    · intro vs wx hG hd K hK
      have e1 : vs 1 = .bool true := hd.get (j := 1) (by simp [depsOf, Region.binds])
      have e7 : vs 7 = .bool true := hd.get (j := 7) (by simp [depsOf, Region.binds])
      replace hK : ∀ (uu : Value) (w' : World), Below wx.heap.size wx w' → ((fun wx => Ax3 w wx K0 q y A c Ax cx Ay cy b5 b7)) w' → Hx (.v (.bool true)) uu w' → K _ w' := hK
      simp only [Act.put, List.setIfInBounds_toArray, List.set_cons_zero, List.set_cons_succ, e1, e7] at hK ⊢
      have HK := Lib.hid hK
      have HG := Lib.hid hG
      clear hK hd e1 e7
      clear hG
      go_simp
      exact HK.out _ _ (Below.refl _ _) HG.out rfl
    · intro vs wx hG hd K hK
      have e8 : vs 8 = .bool true := hd.get (j := 8) (by simp [depsOf, Region.binds])
      replace hK : ∀ (uu : Value) (w' : World), Below wx.heap.size wx w' → ((fun wx => Ax3 w wx K0 q y A c Ax cx Ay cy b5 b7)) w' → Hx (.v (.bool true)) uu w' → K _ w' := hK
      simp only [Act.put, List.setIfInBounds_toArray, List.set_cons_zero, List.set_cons_succ, e8] at hK ⊢
      have HK := Lib.hid hK
      have HG := Lib.hid hG
      clear hK hd e8
      clear hG
      go_simp
      exact HK.out _ _ (Below.refl _ _) HG.out rfl
    · intro vs wx hG hd K hK
      have e9 : vs 9 = .bool true := hd.get (j := 9) (by simp [depsOf, Region.binds])
      replace hK : ∀ (uu : Value) (w' : World), Below wx.heap.size wx w' → ((fun wx => Ax3 w wx K0 q y A c Ax cx Ay cy b5 b7)) w' → Hx (.v (qv q A c)) uu w' → K _ w' := hK
      simp only [Act.put, List.setIfInBounds_toArray, List.set_cons_zero, List.set_cons_succ, e9] at hK ⊢
      have HK := Lib.hid hK
      have HG := Lib.hid hG
      clear hK hd e9
      have p0 : wx.cell? ⟨w.heap.size, 0, none⟩ = some (.int .i64 q.op) := HG.out.bq.cell rfl
      have p1 : wx.cell? ⟨w.heap.size, 1, none⟩ = some (.slice A q.rs.length c) := HG.out.bq.cell rfl
      have p2 : wx.cell? ⟨w.heap.size, 2, none⟩ = some (.int .i64 q.fr) := HG.out.bq.cell rfl
      have p3 : wx.cell? ⟨w.heap.size, 3, none⟩ = some (.int .i64 q.to_) := HG.out.bq.cell rfl
      have p4 : wx.cell? ⟨w.heap.size, 4, none⟩ = some (.int .i64 q.st) := HG.out.bq.cell rfl
      have p5 : wx.cell? ⟨w.heap.size, 5, none⟩ = some (.bool q.nt) := HG.out.bq.cell rfl
      have pl := HG.out.bq.lt
      have x0 : wx.cell? ⟨b5, 0, none⟩ = some (.int .i64 y.op) := HG.out.bx.cell rfl
      have x1 : wx.cell? ⟨b5, 1, none⟩ = some (.slice Ax y.rs.length cx) := HG.out.bx.cell rfl
      have x2 : wx.cell? ⟨b5, 2, none⟩ = some (.int .i64 y.fr) := HG.out.bx.cell rfl
      have x3 : wx.cell? ⟨b5, 3, none⟩ = some (.int .i64 y.to_) := HG.out.bx.cell rfl
      have x4 : wx.cell? ⟨b5, 4, none⟩ = some (.int .i64 y.st) := HG.out.bx.cell rfl
      have x5 : wx.cell? ⟨b5, 5, none⟩ = some (.bool y.nt) := HG.out.bx.cell rfl
      have xl := HG.out.bx.lt
      have y0 : wx.cell? ⟨b7, 0, none⟩ = some (.int .i64 y.op) := HG.out.by_.cell rfl
      have y1 : wx.cell? ⟨b7, 1, none⟩ = some (.slice Ay y.rs.length cy) := HG.out.by_.cell rfl
      have y2 : wx.cell? ⟨b7, 2, none⟩ = some (.int .i64 y.fr) := HG.out.by_.cell rfl
      have y3 : wx.cell? ⟨b7, 3, none⟩ = some (.int .i64 y.to_) := HG.out.by_.cell rfl
      have y4 : wx.cell? ⟨b7, 4, none⟩ = some (.int .i64 y.st) := HG.out.by_.cell rfl
      have y5 : wx.cell? ⟨b7, 5, none⟩ = some (.bool y.nt) := HG.out.by_.cell rfl
      have yl := HG.out.by_.lt
      clear hG
      go_simp
      exact HK.out _ _ (Below.refl _ _) HG.out rfl
    · intro vs wx hG hd K hK
      have e9 : vs 9 = .bool true := hd.get (j := 9) (by simp [depsOf, Region.binds])
      have e10 : vs 10 = qv q A c := hd.get (j := 10) (by simp [depsOf, Region.binds])
      replace hK : ∀ (uu : Value) (w' : World), Below wx.heap.size wx w' → ((fun wx => Ax3 w wx K0 q y A c Ax cx Ay cy b5 b7)) w' → Hx (.q q) uu w' → K _ w' := hK
      simp only [Act.put, List.setIfInBounds_toArray, List.set_cons_zero, List.set_cons_succ, e9, e10] at hK ⊢
      have HK := Lib.hid hK
      have HG := Lib.hid hG
      clear hK hd e9 e10
      clear hG
      go_simp
      go_at_call 11
      refine (toQ_any wx HG.out.rr (Nat.le_trans HKW.out HG.out.bl.size) HLQ.out).mono ?_
      rintro e w9 ⟨A9, c9, rfl, h9, hb⟩
      exact HK.out _ _ hb (HG.out.below hb) ⟨A9, c9, rfl, (So.sr encR_len h9).1⟩
    · intro vs wx hG hd K hK
      have e9 : vs 9 = .bool true := hd.get (j := 9) (by simp [depsOf, Region.binds])
      obtain ⟨A11, c11, e11, r11⟩ : ∃ A' c', vs 11 = qv q A' c' ∧ Rr wx wx.heap.size A' c' q.rs := hd.get (j := 11) (by simp [depsOf, Region.binds])
      replace hK : ∀ (uu : Value) (w' : World), Below wx.heap.size wx w' → ((fun wx => Ax3 w wx K0 q y A c Ax cx Ay cy b5 b7)) w' → Hx (.v (.string s)) uu w' → K _ w' := hK
      simp only [Act.put, List.setIfInBounds_toArray, List.set_cons_zero, List.set_cons_succ, e9, e11] at hK ⊢
      have HK := Lib.hid hK
      have HG := Lib.hid hG
      clear hK hd e9 e11
      clear hG
      go_simp
      go_at_call 13
      refine (HTX.out wx A11 c11 HG.out.bl r11).mono ?_
      rintro e w1 ⟨rfl, hb⟩
      exact HK.out _ _ hb (HG.out.below hb) rfl
    · intro vs wx hG hd K hK
      have e9 : vs 9 = .bool true := hd.get (j := 9) (by simp [depsOf, Region.binds])
      replace hK : ∀ (uu : Value) (w' : World), Below wx.heap.size wx w' → ((fun wx => Ax3 w wx K0 q y A c Ax cx Ay cy b5 b7)) w' → Hx (.v (qv q A c)) uu w' → K _ w' := hK
      simp only [Act.put, List.setIfInBounds_toArray, List.set_cons_zero, List.set_cons_succ, e9] at hK ⊢
      have HK := Lib.hid hK
      have HG := Lib.hid hG
      clear hK hd e9
      have p0 : wx.cell? ⟨w.heap.size, 0, none⟩ = some (.int .i64 q.op) := HG.out.bq.cell rfl
      have p1 : wx.cell? ⟨w.heap.size, 1, none⟩ = some (.slice A q.rs.length c) := HG.out.bq.cell rfl
      have p2 : wx.cell? ⟨w.heap.size, 2, none⟩ = some (.int .i64 q.fr) := HG.out.bq.cell rfl
      have p3 : wx.cell? ⟨w.heap.size, 3, none⟩ = some (.int .i64 q.to_) := HG.out.bq.cell rfl
      have p4 : wx.cell? ⟨w.heap.size, 4, none⟩ = some (.int .i64 q.st) := HG.out.bq.cell rfl
      have p5 : wx.cell? ⟨w.heap.size, 5, none⟩ = some (.bool q.nt) := HG.out.bq.cell rfl
      have pl := HG.out.bq.lt
      have x0 : wx.cell? ⟨b5, 0, none⟩ = some (.int .i64 y.op) := HG.out.bx.cell rfl
      have x1 : wx.cell? ⟨b5, 1, none⟩ = some (.slice Ax y.rs.length cx) := HG.out.bx.cell rfl
      have x2 : wx.cell? ⟨b5, 2, none⟩ = some (.int .i64 y.fr) := HG.out.bx.cell rfl
      have x3 : wx.cell? ⟨b5, 3, none⟩ = some (.int .i64 y.to_) := HG.out.bx.cell rfl
      have x4 : wx.cell? ⟨b5, 4, none⟩ = some (.int .i64 y.st) := HG.out.bx.cell rfl
      have x5 : wx.cell? ⟨b5, 5, none⟩ = some (.bool y.nt) := HG.out.bx.cell rfl
      have xl := HG.out.bx.lt
      have y0 : wx.cell? ⟨b7, 0, none⟩ = some (.int .i64 y.op) := HG.out.by_.cell rfl
      have y1 : wx.cell? ⟨b7, 1, none⟩ = some (.slice Ay y.rs.length cy) := HG.out.by_.cell rfl
      have y2 : wx.cell? ⟨b7, 2, none⟩ = some (.int .i64 y.fr) := HG.out.by_.cell rfl
      have y3 : wx.cell? ⟨b7, 3, none⟩ = some (.int .i64 y.to_) := HG.out.by_.cell rfl
      have y4 : wx.cell? ⟨b7, 4, none⟩ = some (.int .i64 y.st) := HG.out.by_.cell rfl
      have y5 : wx.cell? ⟨b7, 5, none⟩ = some (.bool y.nt) := HG.out.by_.cell rfl
      have yl := HG.out.by_.lt
      clear hG
      go_simp
      exact HK.out _ _ (Below.refl _ _) HG.out rfl
    · intro vs wx hG hd K hK
      have e9 : vs 9 = .bool true := hd.get (j := 9) (by simp [depsOf, Region.binds])
      have e13 : vs 13 = qv q A c := hd.get (j := 13) (by simp [depsOf, Region.binds])
      replace hK : ∀ (uu : Value) (w' : World), Below wx.heap.size wx w' → ((fun wx => Ax3 w wx K0 q y A c Ax cx Ay cy b5 b7)) w' → Hx (.v (.string s)) uu w' → K _ w' := hK
      simp only [Act.put, List.setIfInBounds_toArray, List.set_cons_zero, List.set_cons_succ, e9, e13] at hK ⊢
      have HK := Lib.hid hK
      have HG := Lib.hid hG
      clear hK hd e9 e13
      clear hG
      go_simp
      go_at_call 14
      refine (HTD.out wx HG.out).mono ?_
      rintro e w1 ⟨rfl, hb⟩
      exact HK.out _ _ hb (HG.out.below hb) rfl
    · intro vs wx hG hd K hK
      have e9 : vs 9 = .bool true := hd.get (j := 9) (by simp [depsOf, Region.binds])
      have e12 : vs 12 = .string s := hd.get (j := 12) (by simp [depsOf, Region.binds])
      have e14 : vs 14 = .string s := hd.get (j := 14) (by simp [depsOf, Region.binds])
      replace hK : ∀ (uu : Value) (w' : World), Below wx.heap.size wx w' → ((fun wx => Ax3 w wx K0 q y A c Ax cx Ay cy b5 b7)) w' → Hx (.v (.bool true)) uu w' → K _ w' := hK
      simp only [Act.put, List.setIfInBounds_toArray, List.set_cons_zero, List.set_cons_succ, e9, e12, e14] at hK ⊢
      have HK := Lib.hid hK
      have HG := Lib.hid hG
      clear hK hd e9 e12 e14
      clear hG
      go_simp
      exact HK.out _ _ (Below.refl _ _) HG.out rfl
    · intro vs wx hG hd K hK
      have e9 : vs 9 = .bool true := hd.get (j := 9) (by simp [depsOf, Region.binds])
      have e15 : vs 15 = .bool true := hd.get (j := 15) (by simp [depsOf, Region.binds])
      replace hK : ∀ (uu : Value) (w' : World), Below wx.heap.size wx w' → ((fun wx => Ax3 w wx K0 q y A c Ax cx Ay cy b5 b7)) w' → Hx (.v (.bool true)) uu w' → K _ w' := hK
      simp only [Act.put, List.setIfInBounds_toArray, List.set_cons_zero, List.set_cons_succ, e9, e15] at hK ⊢
      have HK := Lib.hid hK
      have HG := Lib.hid hG
      clear hK hd e9 e15
      clear hG
      go_simp
      exact HK.out _ _ (Below.refl _ _) HG.out rfl
    · intro vs wx hG hd K hK
      have e16 : vs 16 = .bool true := hd.get (j := 16) (by simp [depsOf, Region.binds])
      replace hK : ∀ (uu : Value) (w' : World), Below wx.heap.size wx w' → ((fun wx => Ax3 w wx K0 q y A c Ax cx Ay cy b5 b7)) w' → Hx (.v (.bool true)) uu w' → K _ w' := hK
      simp only [Act.put, List.setIfInBounds_toArray, List.set_cons_zero, List.set_cons_succ, e16] at hK ⊢
      have HK := Lib.hid hK
      have HG := Lib.hid hG
      clear hK hd e16
      clear hG
      go_simp
      exact HK.out _ _ (Below.refl _ _) HG.out rfl
    · intro vs wx hG hd K hK
      have e17 : vs 17 = .bool true := hd.get (j := 17) (by simp [depsOf, Region.binds])
      replace hK : ∀ (uu : Value) (w' : World), Below wx.heap.size wx w' → ((fun wx => Ax3 w wx K0 q y A c Ax cx Ay cy b5 b7)) w' → Hx (.v (.int .i64 er)) uu w' → K _ w' := hK
      simp only [Act.put, List.setIfInBounds_toArray, List.set_cons_zero, List.set_cons_succ, e17] at hK ⊢
      have HK := Lib.hid hK
      have HG := Lib.hid hG
      clear hK hd e17
      clear hG
      go_simp
      exact HK.out _ _ (Below.refl _ _) HG.out rfl
    · intro vs wx hG hd K hK
      have e17 : vs 17 = .bool true := hd.get (j := 17) (by simp [depsOf, Region.binds])
      replace hK : ∀ (uu : Value) (w' : World), Below wx.heap.size wx w' → ((fun wx => Ax3 w wx K0 q y A c Ax cx Ay cy b5 b7)) w' → Hx (.v (.int .i64 er)) uu w' → K _ w' := hK
      simp only [Act.put, List.setIfInBounds_toArray, List.set_cons_zero, List.set_cons_succ, e17] at hK ⊢
      have HK := Lib.hid hK
      have HG := Lib.hid hG
      clear hK hd e17
      clear hG
      go_simp
      exact HK.out _ _ (Below.refl _ _) HG.out rfl
    · intro vs wx hG hd K hK
      have e17 : vs 17 = .bool true := hd.get (j := 17) (by simp [depsOf, Region.binds])
      have e18 : vs 18 = .int .i64 er := hd.get (j := 18) (by simp [depsOf, Region.binds])
      have e19 : vs 19 = .int .i64 er := hd.get (j := 19) (by simp [depsOf, Region.binds])
      replace hK : ∀ (uu : Value) (w' : World), Below wx.heap.size wx w' → ((fun wx => Ax3 w wx K0 q y A c Ax cx Ay cy b5 b7)) w' → Hx (.v (.bool true)) uu w' → K _ w' := hK
      simp only [Act.put, List.setIfInBounds_toArray, List.set_cons_zero, List.set_cons_succ, e17, e18, e19] at hK ⊢
      have HK := Lib.hid hK
      have HG := Lib.hid hG
      clear hK hd e17 e18 e19
      clear hG
      go_simp
      exact HK.out _ _ (Below.refl _ _) HG.out rfl
    · intro vs wx hG hd K hK
      have e17 : vs 17 = .bool true := hd.get (j := 17) (by simp [depsOf, Region.binds])
      have e20 : vs 20 = .bool true := hd.get (j := 20) (by simp [depsOf, Region.binds])
      replace hK : ∀ (uu : Value) (w' : World), Below wx.heap.size wx w' → ((fun wx => Ax3 w wx K0 q y A c Ax cx Ay cy b5 b7)) w' → Hx (.v (.bool true)) uu w' → K _ w' := hK
      simp only [Act.put, List.setIfInBounds_toArray, List.set_cons_zero, List.set_cons_succ, e17, e20] at hK ⊢
      have HK := Lib.hid hK
      have HG := Lib.hid hG
      clear hK hd e17 e20
      clear hG
      go_simp
      exact HK.out _ _ (Below.refl _ _) HG.out rfl
    · intro vs wx hG hd K hK
      have e21 : vs 21 = .bool true := hd.get (j := 21) (by simp [depsOf, Region.binds])
      replace hK : ∀ (uu : Value) (w' : World), Below wx.heap.size wx w' → ((fun wx => Ax3 w wx K0 q y A c Ax cx Ay cy b5 b7)) w' → Hx (.v (.bool true)) uu w' → K _ w' := hK
      simp only [Act.put, List.setIfInBounds_toArray, List.set_cons_zero, List.set_cons_succ, e21] at hK ⊢
      have HK := Lib.hid hK
      have HG := Lib.hid hG
      clear hK hd e21
      clear hG
      go_simp
      exact HK.out _ _ (Below.refl _ _) HG.out rfl
    · intro vs wx hG hd K hK
      have e22 : vs 22 = .bool true := hd.get (j := 22) (by simp [depsOf, Region.binds])
      replace hK : ∀ (uu : Value) (w' : World), Below wx.heap.size wx w' → ((fun wx => Ax3 w wx K0 q y A c Ax cx Ay cy b5 b7)) w' → Hx (.v (qv y Ax cx)) uu w' → K _ w' := hK
      simp only [Act.put, List.setIfInBounds_toArray, List.set_cons_zero, List.set_cons_succ, e22] at hK ⊢
      have HK := Lib.hid hK
      have HG := Lib.hid hG
      clear hK hd e22
      have p0 : wx.cell? ⟨w.heap.size, 0, none⟩ = some (.int .i64 q.op) := HG.out.bq.cell rfl
      have p1 : wx.cell? ⟨w.heap.size, 1, none⟩ = some (.slice A q.rs.length c) := HG.out.bq.cell rfl
      have p2 : wx.cell? ⟨w.heap.size, 2, none⟩ = some (.int .i64 q.fr) := HG.out.bq.cell rfl
      have p3 : wx.cell? ⟨w.heap.size, 3, none⟩ = some (.int .i64 q.to_) := HG.out.bq.cell rfl
      have p4 : wx.cell? ⟨w.heap.size, 4, none⟩ = some (.int .i64 q.st) := HG.out.bq.cell rfl
      have p5 : wx.cell? ⟨w.heap.size, 5, none⟩ = some (.bool q.nt) := HG.out.bq.cell rfl
      have pl := HG.out.bq.lt
      have x0 : wx.cell? ⟨b5, 0, none⟩ = some (.int .i64 y.op) := HG.out.bx.cell rfl
      have x1 : wx.cell? ⟨b5, 1, none⟩ = some (.slice Ax y.rs.length cx) := HG.out.bx.cell rfl
      have x2 : wx.cell? ⟨b5, 2, none⟩ = some (.int .i64 y.fr) := HG.out.bx.cell rfl
      have x3 : wx.cell? ⟨b5, 3, none⟩ = some (.int .i64 y.to_) := HG.out.bx.cell rfl
      have x4 : wx.cell? ⟨b5, 4, none⟩ = some (.int .i64 y.st) := HG.out.bx.cell rfl
      have x5 : wx.cell? ⟨b5, 5, none⟩ = some (.bool y.nt) := HG.out.bx.cell rfl
      have xl := HG.out.bx.lt
      have y0 : wx.cell? ⟨b7, 0, none⟩ = some (.int .i64 y.op) := HG.out.by_.cell rfl
      have y1 : wx.cell? ⟨b7, 1, none⟩ = some (.slice Ay y.rs.length cy) := HG.out.by_.cell rfl
      have y2 : wx.cell? ⟨b7, 2, none⟩ = some (.int .i64 y.fr) := HG.out.by_.cell rfl
      have y3 : wx.cell? ⟨b7, 3, none⟩ = some (.int .i64 y.to_) := HG.out.by_.cell rfl
      have y4 : wx.cell? ⟨b7, 4, none⟩ = some (.int .i64 y.st) := HG.out.by_.cell rfl
      have y5 : wx.cell? ⟨b7, 5, none⟩ = some (.bool y.nt) := HG.out.by_.cell rfl
      have yl := HG.out.by_.lt
      clear hG
      go_simp
      exact HK.out _ _ (Below.refl _ _) HG.out rfl
    · intro vs wx hG hd K hK
      have e22 : vs 22 = .bool true := hd.get (j := 22) (by simp [depsOf, Region.binds])
      have e23 : vs 23 = qv y Ax cx := hd.get (j := 23) (by simp [depsOf, Region.binds])
      replace hK : ∀ (uu : Value) (w' : World), Below wx.heap.size wx w' → ((fun wx => Ax3 w wx K0 q y A c Ax cx Ay cy b5 b7)) w' → Hx (.q y) uu w' → K _ w' := hK
      simp only [Act.put, List.setIfInBounds_toArray, List.set_cons_zero, List.set_cons_succ, e22, e23] at hK ⊢
      have HK := Lib.hid hK
      have HG := Lib.hid hG
      clear hK hd e22 e23
      clear hG
      go_simp
      go_at_call 16
      refine (fromQ_any wx HG.out.rx (Nat.le_refl _) HLY.out).mono ?_
      rintro e w9 ⟨A9, c9, rfl, h9, hb⟩
      exact HK.out _ _ hb (HG.out.below hb) ⟨A9, c9, rfl, (So.sr encR_len h9).1⟩
    · intro vs wx hG hd K hK
      have e22 : vs 22 = .bool true := hd.get (j := 22) (by simp [depsOf, Region.binds])
      replace hK : ∀ (uu : Value) (w' : World), Below wx.heap.size wx w' → ((fun wx => Ax3 w wx K0 q y A c Ax cx Ay cy b5 b7)) w' → Hx (.v (qv y Ay cy)) uu w' → K _ w' := hK
      simp only [Act.put, List.setIfInBounds_toArray, List.set_cons_zero, List.set_cons_succ, e22] at hK ⊢
      have HK := Lib.hid hK
      have HG := Lib.hid hG
      clear hK hd e22
      have p0 : wx.cell? ⟨w.heap.size, 0, none⟩ = some (.int .i64 q.op) := HG.out.bq.cell rfl
      have p1 : wx.cell? ⟨w.heap.size, 1, none⟩ = some (.slice A q.rs.length c) := HG.out.bq.cell rfl
      have p2 : wx.cell? ⟨w.heap.size, 2, none⟩ = some (.int .i64 q.fr) := HG.out.bq.cell rfl
      have p3 : wx.cell? ⟨w.heap.size, 3, none⟩ = some (.int .i64 q.to_) := HG.out.bq.cell rfl
      have p4 : wx.cell? ⟨w.heap.size, 4, none⟩ = some (.int .i64 q.st) := HG.out.bq.cell rfl
      have p5 : wx.cell? ⟨w.heap.size, 5, none⟩ = some (.bool q.nt) := HG.out.bq.cell rfl
      have pl := HG.out.bq.lt
      have x0 : wx.cell? ⟨b5, 0, none⟩ = some (.int .i64 y.op) := HG.out.bx.cell rfl
      have x1 : wx.cell? ⟨b5, 1, none⟩ = some (.slice Ax y.rs.length cx) := HG.out.bx.cell rfl
      have x2 : wx.cell? ⟨b5, 2, none⟩ = some (.int .i64 y.fr) := HG.out.bx.cell rfl
      have x3 : wx.cell? ⟨b5, 3, none⟩ = some (.int .i64 y.to_) := HG.out.bx.cell rfl
      have x4 : wx.cell? ⟨b5, 4, none⟩ = some (.int .i64 y.st) := HG.out.bx.cell rfl
      have x5 : wx.cell? ⟨b5, 5, none⟩ = some (.bool y.nt) := HG.out.bx.cell rfl
      have xl := HG.out.bx.lt
      have y0 : wx.cell? ⟨b7, 0, none⟩ = some (.int .i64 y.op) := HG.out.by_.cell rfl
      have y1 : wx.cell? ⟨b7, 1, none⟩ = some (.slice Ay y.rs.length cy) := HG.out.by_.cell rfl
      have y2 : wx.cell? ⟨b7, 2, none⟩ = some (.int .i64 y.fr) := HG.out.by_.cell rfl
      have y3 : wx.cell? ⟨b7, 3, none⟩ = some (.int .i64 y.to_) := HG.out.by_.cell rfl
      have y4 : wx.cell? ⟨b7, 4, none⟩ = some (.int .i64 y.st) := HG.out.by_.cell rfl
      have y5 : wx.cell? ⟨b7, 5, none⟩ = some (.bool y.nt) := HG.out.by_.cell rfl
      have yl := HG.out.by_.lt
      clear hG
      go_simp
      exact HK.out _ _ (Below.refl _ _) HG.out rfl
    · intro vs wx hG hd K hK
      have e22 : vs 22 = .bool true := hd.get (j := 22) (by simp [depsOf, Region.binds])
      obtain ⟨A24, c24, e24, r24⟩ : ∃ A' c', vs 24 = qv y A' c' ∧ Rr wx wx.heap.size A' c' y.rs := hd.get (j := 24) (by simp [depsOf, Region.binds])
      have e25 : vs 25 = qv y Ay cy := hd.get (j := 25) (by simp [depsOf, Region.binds])
      replace hK : ∀ (uu : Value) (w' : World), Below wx.heap.size wx w' → ((fun wx => Ax3 w wx K0 q y A c Ax cx Ay cy b5 b7)) w' → Hx (.v (.bool true)) uu w' → K _ w' := hK
      simp only [Act.put, List.setIfInBounds_toArray, List.set_cons_zero, List.set_cons_succ, e22, e24, e25] at hK ⊢
      have HK := Lib.hid hK
      have HG := Lib.hid hG
      clear hK hd e22 e24 e25
      clear hG
      go_simp
      go_at_call 15
      refine (sameQ_refl wx r24 HG.out.ry (Nat.le_refl _)).mono ?_
      rintro e w1 ⟨rfl, hb⟩
      exact HK.out _ _ hb (HG.out.below hb) rfl
    · intro vs wx hG hd K hK
      have e22 : vs 22 = .bool true := hd.get (j := 22) (by simp [depsOf, Region.binds])
      have e26 : vs 26 = .bool true := hd.get (j := 26) (by simp [depsOf, Region.binds])
      replace hK : ∀ (uu : Value) (w' : World), Below wx.heap.size wx w' → ((fun wx => Ax3 w wx K0 q y A c Ax cx Ay cy b5 b7)) w' → Hx (.v (.bool true)) uu w' → K _ w' := hK
      simp only [Act.put, List.setIfInBounds_toArray, List.set_cons_zero, List.set_cons_succ, e22, e26] at hK ⊢
      have HK := Lib.hid hK
      have HG := Lib.hid hG
      clear hK hd e22 e26
      clear hG
      go_simp
      exact HK.out _ _ (Below.refl _ _) HG.out rfl
    · intro vs wx hG hd K hK
      have e27 : vs 27 = .bool true := hd.get (j := 27) (by simp [depsOf, Region.binds])
      replace hK : ∀ (uu : Value) (w' : World), Below wx.heap.size wx w' → ((fun wx => Ax3 w wx K0 q y A c Ax cx Ay cy b5 b7)) w' → Hx (.v (.bool true)) uu w' → K _ w' := hK
      simp only [Act.put, List.setIfInBounds_toArray, List.set_cons_zero, List.set_cons_succ, e27] at hK ⊢
      have HK := Lib.hid hK
      have HG := Lib.hid hG
      clear hK hd e27
      clear hG
      go_simp
      exact HK.out _ _ (Below.refl _ _) HG.out rfl
  case hend =>
    intro vs wx hG hv
    have e9 : vs 28 = .bool true := hv 28 (by decide)
    rw [e9]
    have HB := Lib.hid hG.bl
    clear hG hv e9
    go_wp2_with fail
    go_ret
    exact ⟨rfl, HB.out⟩

end Go.Proofs.YtcmpenmaphmifaaGreatDoor
