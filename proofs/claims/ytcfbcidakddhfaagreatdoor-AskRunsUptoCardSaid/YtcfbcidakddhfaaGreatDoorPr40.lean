/- The document's number. -/
import Derived.Test.YtcfbcidakddhfaaGreatDoorPr38
import Derived.Test.YtcfbcidakddhfaaGreatDoorPr20
import Derived.Test.YtcfbcidakddhfaaGreatDoorPr25
import Derived.Test.YtcfbcidakddhfaaGreatDoorPr22
namespace Go.Proofs.YtcfbcidakddhfaaGreatDoor
open Go.RowKit Go.BigFrame

/-- A query that was read, in memory of the call's own, and why not. -/
def ParP (w : World) (p : Qr × Int) (e : Ending) (w' : World) : Prop :=
  ∃ A c, e = .returned (.tuple #[qv p.1 A c, .int .i64 p.2]) ∧ Ra w' w.heap.size (.slice A p.1.rs.length c) p.1.rs ∧ Below w.heap.size w w'
theorem So.belowB {α : Type} {enc : α → List Value} {k K B : Nat} {w w' : World} {T : TypeId} {v : Value} {l : List α} (h : So enc k w K T v l) (hb : Below B w w') (hB : ∀ g, v.ownBlock = some g → g < B) : So enc k w' K T v l := by
  refine ⟨h.1, ?_⟩
  rcases h.2 with h2 | ⟨g, cap, cur, e, hg, hh, hr⟩
  · exact .inl h2
  · exact .inr ⟨g, cap, cur, e, hg, (hb.block g (hB g (by rw [e]; rfl))).trans hh, hr⟩
theorem So.ltB {α : Type} {enc : α → List Value} {k K : Nat} {w : World} {T : TypeId} {v : Value} {l : List α} (h : So enc k w K T v l) : ∀ g, v.ownBlock = some g → K ≤ g ∧ g < w.heap.size := by
  intro g hg
  rcases h.2 with ⟨e, _⟩ | ⟨g', cap, cur, e, hK, hh, _⟩
  · rw [e] at hg; cases hg
  · rw [e] at hg
    obtain rfl : g' = g := Option.some.inj hg
    refine ⟨hK, ?_⟩
    rcases Nat.lt_or_ge g' w.heap.size with h9 | h9
    · exact h9
    · rw [Array.getElem?_eq_none h9] at hh; cases hh
theorem Rwo.belowB {w w' : World} {g B : Nat} {cs : Array Value} {T : TypeId} (h : Rwo w g cs T) (hb : Below B w w') (hg : g < B) : Rwo w' g cs T := ⟨(hb.block g hg).trans h.hp⟩
theorem Rwo.set6 {w : World} {g : Nat} {a0 a1 a2 a3 a4 a5 : Value} {T : TypeId} (h : Rwo w g #[a0, a1, a2, a3, a4, a5] T) (v0 v1 v2 v3 v4 v5 : Value) :
    Rwo ((((((w.setCell ⟨g, 0, none⟩ v0).setCell ⟨g, 1, none⟩ v1).setCell ⟨g, 2, none⟩ v2).setCell ⟨g, 3, none⟩ v3).setCell ⟨g, 4, none⟩ v4).setCell ⟨g, 5, none⟩ v5) g #[v0, v1, v2, v3, v4, v5] T :=
  (((((h.set 0 v0).set 1 v1).set 2 v2).set 3 v3).set 4 v4).set 5 v5
theorem below_set6 {B : Nat} {w0 w : World} {g : Nat} (h : Below B w0 w) (hg : B ≤ g) (v0 v1 v2 v3 v4 v5 : Value) :
    Below B w0 ((((((w.setCell ⟨g, 0, none⟩ v0).setCell ⟨g, 1, none⟩ v1).setCell ⟨g, 2, none⟩ v2).setCell ⟨g, 3, none⟩ v3).setCell ⟨g, 4, none⟩ v4).setCell ⟨g, 5, none⟩ v5) :=
  (((((h.setCell (p := ⟨g, 0, none⟩) hg _).setCell (p := ⟨g, 1, none⟩) hg _).setCell (p := ⟨g, 2, none⟩) hg _).setCell (p := ⟨g, 3, none⟩) hg _).setCell (p := ⟨g, 4, none⟩) hg _).setCell (p := ⟨g, 5, none⟩) hg _
theorem So.set6 {w : World} {K g : Nat} {T : TypeId} {v : Value} {l : List Rp} (h : So encR 3 w K T v l) (hn : v.ownBlock ≠ some g) (v0 v1 v2 v3 v4 v5 : Value) :
    So encR 3 ((((((w.setCell ⟨g, 0, none⟩ v0).setCell ⟨g, 1, none⟩ v1).setCell ⟨g, 2, none⟩ v2).setCell ⟨g, 3, none⟩ v3).setCell ⟨g, 4, none⟩ v4).setCell ⟨g, 5, none⟩ v5) K T v l :=
  So.setC (So.setC (So.setC (So.setC (So.setC (So.setC h hn) hn) hn) hn) hn) hn
/-- An error's answer. -/
theorem par_bad {w w' : World} {x : Int} (h : Below w.heap.size w w') : ParP w (Qr.zero, x) (.returned (.tuple #[qv Qr.zero none 0, .int .i64 x])) w' := ⟨none, 0, rfl, So.empty _ _ _ _ _, h⟩
set_option maxRecDepth 100000 in
set_option maxHeartbeats 1000000 in
theorem akParse_any (t : ByteArray) (w : World) (hs : t.size ≤ 1048576) (hm : Mx w) (he : Errs w) (hp : Pow w) (hg : Sg w) (hwo : Wo w) : Calls Tryz.prog 21 #[.string t] w (ParP w (parseQ numA t.data.toList)) := by
  have htl : t.data.toList.length = t.size := by simp
  have HS := Lib.hid hs
  have HGL : Hid (∀ wx, Below w.heap.size w wx → Mx wx ∧ Errs wx ∧ Pow wx ∧ Sg wx ∧ Wo wx) := Lib.hid fun wx h => ⟨Mx.below hm h, he.below h, hp.below h, Sg.below hg h, hwo.below h⟩
  have HB : Hid (Below w.heap.size w (w.alloc (.cells #[.int .i64 0, .slice none 0 0, .int .i64 0, .int .i64 0, .int .i64 0, .bool false] 36))) := Lib.hid ((Below.refl _ _).alloc (Nat.le_refl _) _)
  have HZ : Hid (Rwo (w.alloc (.cells #[.int .i64 0, .slice none 0 0, .int .i64 0, .int .i64 0, .int .i64 0, .bool false] 36)) w.heap.size #[.int .i64 0, .slice none 0 0, .int .i64 0, .int .i64 0, .int .i64 0, .bool false] 36) := Lib.hid ⟨heap_alloc_new w _⟩
  clear hm he hp hg hwo hs
  obtain ⟨T, hT⟩ : ∃ T, T = t.data.toList := ⟨_, rfl⟩
  rw [← hT] at htl ⊢
  by_cases hl : 4096 < t.size
  · have HF : Hid (parseQ numA T = (Qr.zero, 8)) := Lib.hid (by unfold parseQ; rw [if_pos (by omega)])
    have el : decide ((4096 : Int) < (t.size : Int)) = true := by simp; omega
    clear hl htl hT
    go_enter Tryz.func21, Tryz.ntmps21
    go_upto_region 1 with fail
    generalize w.alloc (.cells #[.int .i64 0, .slice none 0 0, .int .i64 0, .int .i64 0, .int .i64 0, .bool false] 36) = W1 at HB HZ ⊢
    have z0 : W1.cell? ⟨w.heap.size, 0, none⟩ = some (.int .i64 0) := HZ.out.cell rfl
    have z1 : W1.cell? ⟨w.heap.size, 1, none⟩ = some (.slice none 0 0) := HZ.out.cell rfl
    have z2 : W1.cell? ⟨w.heap.size, 2, none⟩ = some (.int .i64 0) := HZ.out.cell rfl
    have z3 : W1.cell? ⟨w.heap.size, 3, none⟩ = some (.int .i64 0) := HZ.out.cell rfl
    have z4 : W1.cell? ⟨w.heap.size, 4, none⟩ = some (.int .i64 0) := HZ.out.cell rfl
    have z5 : W1.cell? ⟨w.heap.size, 5, none⟩ = some (.bool false) := HZ.out.cell rfl
    have zf := HZ.out.fr
    have zl := HZ.out.lt
    go_wp2
    have hZ9 := HZ.out.set6 (.int .i64 0) (.slice none 0 0) (.int .i64 0) (.int .i64 0) (.int .i64 0) (.bool false)
    have hB9 := below_set6 HB.out (Nat.le_refl w.heap.size) (.int .i64 0) (.slice none 0 0) (.int .i64 0) (.int .i64 0) (.int .i64 0) (.bool false)
    generalize hW9 : (World.setCell _ _ _ : World) = W9 at hZ9 hB9 ⊢
    clear hW9 z0 z1 z2 z3 z4 z5 zf
    have x0 : W9.cell? ⟨w.heap.size, 0, none⟩ = some (.int .i64 0) := hZ9.cell rfl
    have x1 : W9.cell? ⟨w.heap.size, 1, none⟩ = some (.slice none 0 0) := hZ9.cell rfl
    have x2 : W9.cell? ⟨w.heap.size, 2, none⟩ = some (.int .i64 0) := hZ9.cell rfl
    have x3 : W9.cell? ⟨w.heap.size, 3, none⟩ = some (.int .i64 0) := hZ9.cell rfl
    have x4 : W9.cell? ⟨w.heap.size, 4, none⟩ = some (.int .i64 0) := hZ9.cell rfl
    have x5 : W9.cell? ⟨w.heap.size, 5, none⟩ = some (.bool false) := hZ9.cell rfl
    have HB9 := Lib.hid hB9
    clear hZ9 hB9
    refine bodyPost_ret (v := .tuple #[qv Qr.zero none 0, .int .i64 8]) (by simp [results, Tryz.results21, go_sem, Qr.zero, x0, x1, x2, x3, x4, x5]) rfl ?_
    rw [HF.out]
    exact par_bad HB9.out

  have el : decide ((4096 : Int) < (t.size : Int)) = false := by simp; omega
  have hcl := cutB_len 123 T
  have HF0 : parseQ numA T = tailQ numA T (cutB 123 T) (opA (cutB 123 T)) := by unfold parseQ; rw [if_neg (by omega)]
  have HC1 : Hid (∀ wx, Below w.heap.size w wx → Calls Tryz.prog 41 #[.string t, .string ⟨#[123]⟩] wx fun e w' => (∃ x : ByteArray, e = .returned (.tuple #[.string (strB (cutB 123 T)), .string x, .bool (decide ((123 : UInt8) ∈ T))])) ∧ Below wx.heap.size wx w') := Lib.hid fun wx h => by rw [hT]; exact cutc_any t 123 ⟨#[123]⟩ wx rfl HS.out (HGL.out _ h).1
  obtain ⟨wd, hwd⟩ : ∃ wd, wd = cutB 123 T := ⟨_, rfl⟩
  rw [← hwd] at HF0 HC1 hcl
  have HC2 : Hid (∀ wx, Below w.heap.size w wx → Calls Tryz.prog 42 #[.string (strB wd)] wx fun e w' => e = .returned (.tuple #[.int .i64 ((opA wd).getD 0), .bool (opA wd).isSome]) ∧ wx = w') := Lib.hid fun wx h => by
    have h1 := akOpOf_any (strB wd) wx (HGL.out _ h).2.2.2.2
    rwa [ls_strB] at h1
  generalize hfd : decide ((123 : UInt8) ∈ T) = fd at HC1
  cases hop : opA wd with
  | none =>
    rw [hop] at HF0 HC2
    have HF : Hid (parseQ numA T = (Qr.zero, 90)) := Lib.hid HF0
    clear hl htl hT HF0 hop hwd hfd hcl
    go_enter Tryz.func21, Tryz.ntmps21
    go_upto_region 1 with fail
    generalize w.alloc (.cells #[.int .i64 0, .slice none 0 0, .int .i64 0, .int .i64 0, .int .i64 0, .bool false] 36) = W1 at HB HZ ⊢
    go_wp2_with fail
    refine (HC1.out _ HB.out).mono ?_
    rintro e W2 ⟨⟨x, rfl⟩, b2⟩
    replace HB := Lib.hid (HB.out.trans (b2.mono HB.out.size))
    replace HZ := Lib.hid (HZ.out.below b2)
    clear b2
    go_wp2_with fail
    refine (HC2.out _ HB.out).mono ?_
    rintro e w' ⟨rfl, rfl⟩
    cases fd
    · have z0 : W2.cell? ⟨w.heap.size, 0, none⟩ = some (.int .i64 0) := HZ.out.cell rfl
      have z1 : W2.cell? ⟨w.heap.size, 1, none⟩ = some (.slice none 0 0) := HZ.out.cell rfl
      have z2 : W2.cell? ⟨w.heap.size, 2, none⟩ = some (.int .i64 0) := HZ.out.cell rfl
      have z3 : W2.cell? ⟨w.heap.size, 3, none⟩ = some (.int .i64 0) := HZ.out.cell rfl
      have z4 : W2.cell? ⟨w.heap.size, 4, none⟩ = some (.int .i64 0) := HZ.out.cell rfl
      have z5 : W2.cell? ⟨w.heap.size, 5, none⟩ = some (.bool false) := HZ.out.cell rfl
      have zf := HZ.out.fr
      have zl := HZ.out.lt
      go_wp2
      have hZ9 := HZ.out.set6 (.int .i64 0) (.slice none 0 0) (.int .i64 0) (.int .i64 0) (.int .i64 0) (.bool false)
      have hB9 := below_set6 HB.out (Nat.le_refl w.heap.size) (.int .i64 0) (.slice none 0 0) (.int .i64 0) (.int .i64 0) (.int .i64 0) (.bool false)
      generalize hW9 : (World.setCell _ _ _ : World) = W9 at hZ9 hB9 ⊢
      clear hW9 z0 z1 z2 z3 z4 z5 zf
      have x0 : W9.cell? ⟨w.heap.size, 0, none⟩ = some (.int .i64 0) := hZ9.cell rfl
      have x1 : W9.cell? ⟨w.heap.size, 1, none⟩ = some (.slice none 0 0) := hZ9.cell rfl
      have x2 : W9.cell? ⟨w.heap.size, 2, none⟩ = some (.int .i64 0) := hZ9.cell rfl
      have x3 : W9.cell? ⟨w.heap.size, 3, none⟩ = some (.int .i64 0) := hZ9.cell rfl
      have x4 : W9.cell? ⟨w.heap.size, 4, none⟩ = some (.int .i64 0) := hZ9.cell rfl
      have x5 : W9.cell? ⟨w.heap.size, 5, none⟩ = some (.bool false) := hZ9.cell rfl
      have HB9 := Lib.hid hB9
      clear hZ9 hB9
      refine bodyPost_ret (v := .tuple #[qv Qr.zero none 0, .int .i64 90]) (by simp [results, Tryz.results21, go_sem, Qr.zero, x0, x1, x2, x3, x4, x5]) rfl ?_
      rw [HF.out]
      exact par_bad HB9.out
    · have z0 : W2.cell? ⟨w.heap.size, 0, none⟩ = some (.int .i64 0) := HZ.out.cell rfl
      have z1 : W2.cell? ⟨w.heap.size, 1, none⟩ = some (.slice none 0 0) := HZ.out.cell rfl
      have z2 : W2.cell? ⟨w.heap.size, 2, none⟩ = some (.int .i64 0) := HZ.out.cell rfl
      have z3 : W2.cell? ⟨w.heap.size, 3, none⟩ = some (.int .i64 0) := HZ.out.cell rfl
      have z4 : W2.cell? ⟨w.heap.size, 4, none⟩ = some (.int .i64 0) := HZ.out.cell rfl
      have z5 : W2.cell? ⟨w.heap.size, 5, none⟩ = some (.bool false) := HZ.out.cell rfl
      have zf := HZ.out.fr
      have zl := HZ.out.lt
      go_wp2
      have hZ9 := HZ.out.set6 (.int .i64 0) (.slice none 0 0) (.int .i64 0) (.int .i64 0) (.int .i64 0) (.bool false)
      have hB9 := below_set6 HB.out (Nat.le_refl w.heap.size) (.int .i64 0) (.slice none 0 0) (.int .i64 0) (.int .i64 0) (.int .i64 0) (.bool false)
      generalize hW9 : (World.setCell _ _ _ : World) = W9 at hZ9 hB9 ⊢
      clear hW9 z0 z1 z2 z3 z4 z5 zf
      have x0 : W9.cell? ⟨w.heap.size, 0, none⟩ = some (.int .i64 0) := hZ9.cell rfl
      have x1 : W9.cell? ⟨w.heap.size, 1, none⟩ = some (.slice none 0 0) := hZ9.cell rfl
      have x2 : W9.cell? ⟨w.heap.size, 2, none⟩ = some (.int .i64 0) := hZ9.cell rfl
      have x3 : W9.cell? ⟨w.heap.size, 3, none⟩ = some (.int .i64 0) := hZ9.cell rfl
      have x4 : W9.cell? ⟨w.heap.size, 4, none⟩ = some (.int .i64 0) := hZ9.cell rfl
      have x5 : W9.cell? ⟨w.heap.size, 5, none⟩ = some (.bool false) := hZ9.cell rfl
      have HB9 := Lib.hid hB9
      clear hZ9 hB9
      refine bodyPost_ret (v := .tuple #[qv Qr.zero none 0, .int .i64 90]) (by simp [results, Tryz.results21, go_sem, Qr.zero, x0, x1, x2, x3, x4, x5]) rfl ?_
      rw [HF.out]
      exact par_bad HB9.out
  | some op =>
    have hop0 := (opA_range hop).2.1
    have hop5 := (opA_range hop).2.2
    rw [hop] at HF0 HC2
    unfold tailQ at HF0
    simp only at HF0
    cases fd with
    | false =>
      have HF : Hid (parseQ numA T = (Qr.zero, 90)) := Lib.hid (by rw [HF0, if_neg (of_decide_eq_false hfd)])
      clear hl htl hT HF0 hop hwd hfd hcl hop0 hop5
      go_enter Tryz.func21, Tryz.ntmps21
      go_upto_region 1 with fail
      generalize w.alloc (.cells #[.int .i64 0, .slice none 0 0, .int .i64 0, .int .i64 0, .int .i64 0, .bool false] 36) = W1 at HB HZ ⊢
      go_wp2_with fail
      refine (HC1.out _ HB.out).mono ?_
      rintro e W2 ⟨⟨x, rfl⟩, b2⟩
      replace HB := Lib.hid (HB.out.trans (b2.mono HB.out.size))
      replace HZ := Lib.hid (HZ.out.below b2)
      clear b2
      go_wp2_with fail
      refine (HC2.out _ HB.out).mono ?_
      rintro e w' ⟨rfl, rfl⟩
      have z0 : W2.cell? ⟨w.heap.size, 0, none⟩ = some (.int .i64 0) := HZ.out.cell rfl
      have z1 : W2.cell? ⟨w.heap.size, 1, none⟩ = some (.slice none 0 0) := HZ.out.cell rfl
      have z2 : W2.cell? ⟨w.heap.size, 2, none⟩ = some (.int .i64 0) := HZ.out.cell rfl
      have z3 : W2.cell? ⟨w.heap.size, 3, none⟩ = some (.int .i64 0) := HZ.out.cell rfl
      have z4 : W2.cell? ⟨w.heap.size, 4, none⟩ = some (.int .i64 0) := HZ.out.cell rfl
      have z5 : W2.cell? ⟨w.heap.size, 5, none⟩ = some (.bool false) := HZ.out.cell rfl
      have zf := HZ.out.fr
      have zl := HZ.out.lt
      go_wp2
      have hZ9 := HZ.out.set6 (.int .i64 0) (.slice none 0 0) (.int .i64 0) (.int .i64 0) (.int .i64 0) (.bool false)
      have hB9 := below_set6 HB.out (Nat.le_refl w.heap.size) (.int .i64 0) (.slice none 0 0) (.int .i64 0) (.int .i64 0) (.int .i64 0) (.bool false)
      generalize hW9 : (World.setCell _ _ _ : World) = W9 at hZ9 hB9 ⊢
      clear hW9 z0 z1 z2 z3 z4 z5 zf
      have x0 : W9.cell? ⟨w.heap.size, 0, none⟩ = some (.int .i64 0) := hZ9.cell rfl
      have x1 : W9.cell? ⟨w.heap.size, 1, none⟩ = some (.slice none 0 0) := hZ9.cell rfl
      have x2 : W9.cell? ⟨w.heap.size, 2, none⟩ = some (.int .i64 0) := hZ9.cell rfl
      have x3 : W9.cell? ⟨w.heap.size, 3, none⟩ = some (.int .i64 0) := hZ9.cell rfl
      have x4 : W9.cell? ⟨w.heap.size, 4, none⟩ = some (.int .i64 0) := hZ9.cell rfl
      have x5 : W9.cell? ⟨w.heap.size, 5, none⟩ = some (.bool false) := hZ9.cell rfl
      have HB9 := Lib.hid hB9
      clear hZ9 hB9
      refine bodyPost_ret (v := .tuple #[qv Qr.zero none 0, .int .i64 90]) (by simp [results, Tryz.results21, go_sem, Qr.zero, x0, x1, x2, x3, x4, x5]) rfl ?_
      rw [HF.out]
      exact par_bad HB9.out

    | true =>
      rw [if_pos (of_decide_eq_true hfd)] at HF0
      have hds : (t.extract wd.length t.size).data.toList = T.drop wd.length := by rw [ex_list, hT]
      have hdz : (t.extract wd.length t.size).size ≤ 4096 := by rw [ex_size]; omega
      have HC3 : Hid (∀ wx, Below w.heap.size w wx → Calls Tryz.prog 43 #[.string (t.extract wd.length t.size)] wx (RsPost wx (parseB (T.drop wd.length)))) := Lib.hid fun wx h => by
        have h1 := parseR_any (t.extract wd.length t.size) wx (by omega) (fun k => idx_any _ (by rw [ex_size]; omega)) (HGL.out _ h).2.2.2.1
        rwa [hds] at h1
      have hsm := parseB_sm (T.drop wd.length)
      have hused := parseB_used (T.drop wd.length)
      generalize hpb : parseB (T.drop wd.length) = pb at HF0 HC3 hsm hused
      obtain ⟨rs, used⟩ := pb
      simp only at HF0 hused hsm
      have hSR : SmR rs := fun x hx => by
        have := hsm x hx
        rw [List.length_drop] at this
        omega
      have HSR := Lib.hid hSR
      have w1 : 0 ≤ (wd.length : Int) := by omega
      have w2 : (wd.length : Int) ≤ (t.size : Int) := by omega
      have hwsz : (strB wd).size = wd.length := sz_strB wd
      rw [List.length_drop] at hused
      clear hds hsm hSR hpb
      by_cases hu0 : used = 0
      · have HF : Hid (parseQ numA T = (Qr.zero, 50)) := Lib.hid (by rw [HF0, if_pos hu0])
        clear hl htl hT HF0 hop hwd hfd hop0 hop5 hdz hused hcl
        subst hu0
        go_enter Tryz.func21, Tryz.ntmps21
        go_upto_region 1 with fail
        generalize w.alloc (.cells #[.int .i64 0, .slice none 0 0, .int .i64 0, .int .i64 0, .int .i64 0, .bool false] 36) = W1 at HB HZ ⊢
        go_wp2_with fail
        refine (HC1.out _ HB.out).mono ?_
        rintro e W2 ⟨⟨x, rfl⟩, b2⟩
        replace HB := Lib.hid (HB.out.trans (b2.mono HB.out.size))
        replace HZ := Lib.hid (HZ.out.below b2)
        clear b2
        go_wp2_with fail
        refine (HC2.out _ HB.out).mono ?_
        rintro e w' ⟨rfl, rfl⟩
        go_wp2_with fail
        refine (HC3.out _ HB.out).mono ?_
        rintro e W3 ⟨A9, c9, rfl, _, b3⟩
        replace HB := Lib.hid (HB.out.trans (b3.mono HB.out.size))
        replace HZ := Lib.hid (HZ.out.below b3)
        clear b3
        have z0 : W3.cell? ⟨w.heap.size, 0, none⟩ = some (.int .i64 0) := HZ.out.cell rfl
        have z1 : W3.cell? ⟨w.heap.size, 1, none⟩ = some (.slice none 0 0) := HZ.out.cell rfl
        have z2 : W3.cell? ⟨w.heap.size, 2, none⟩ = some (.int .i64 0) := HZ.out.cell rfl
        have z3 : W3.cell? ⟨w.heap.size, 3, none⟩ = some (.int .i64 0) := HZ.out.cell rfl
        have z4 : W3.cell? ⟨w.heap.size, 4, none⟩ = some (.int .i64 0) := HZ.out.cell rfl
        have z5 : W3.cell? ⟨w.heap.size, 5, none⟩ = some (.bool false) := HZ.out.cell rfl
        have zf := HZ.out.fr
        have zl := HZ.out.lt
        go_wp2
        have hZ9 := HZ.out.set6 (.int .i64 0) (.slice none 0 0) (.int .i64 0) (.int .i64 0) (.int .i64 0) (.bool false)
        have hB9 := below_set6 HB.out (Nat.le_refl w.heap.size) (.int .i64 0) (.slice none 0 0) (.int .i64 0) (.int .i64 0) (.int .i64 0) (.bool false)
        generalize hW9 : (World.setCell _ _ _ : World) = W9 at hZ9 hB9 ⊢
        clear hW9 z0 z1 z2 z3 z4 z5 zf
        have x0 : W9.cell? ⟨w.heap.size, 0, none⟩ = some (.int .i64 0) := hZ9.cell rfl
        have x1 : W9.cell? ⟨w.heap.size, 1, none⟩ = some (.slice none 0 0) := hZ9.cell rfl
        have x2 : W9.cell? ⟨w.heap.size, 2, none⟩ = some (.int .i64 0) := hZ9.cell rfl
        have x3 : W9.cell? ⟨w.heap.size, 3, none⟩ = some (.int .i64 0) := hZ9.cell rfl
        have x4 : W9.cell? ⟨w.heap.size, 4, none⟩ = some (.int .i64 0) := hZ9.cell rfl
        have x5 : W9.cell? ⟨w.heap.size, 5, none⟩ = some (.bool false) := hZ9.cell rfl
        have HB9 := Lib.hid hB9
        clear hZ9 hB9
        refine bodyPost_ret (v := .tuple #[qv Qr.zero none 0, .int .i64 50]) (by simp [results, Tryz.results21, go_sem, Qr.zero, x0, x1, x2, x3, x4, x5]) rfl ?_
        rw [HF.out]
        exact par_bad HB9.out

      · rw [if_neg hu0] at HF0
        have HF1 := Lib.hid HF0
        have HTR : Hid ((t.extract (wd.length + used) t.size).data.toList = T.drop (wd.length + used)) := Lib.hid (by rw [ex_list, hT])
        have HTZ : Hid ((t.extract (wd.length + used) t.size).size ≤ 1048576) := Lib.hid (by rw [ex_size]; have := HS.out; omega)
        have hul : wd.length + used ≤ t.size := by omega
        have u0 : ((used : Int) == (0 : Int)) = false := by simp; omega
        have u1 : 0 ≤ (used : Int) := by omega
        have u2 : (wd.length : Int) + (used : Int) ≤ (t.size : Int) := by omega
        have htz : (t.size : Int) ≤ 4096 := by omega
        clear hl htl hT HF0 hop hwd hfd hop0 hop5 hdz hused hcl hu0 hul
        go_enter Tryz.func21, Tryz.ntmps21
        go_upto_region 1 with fail
        generalize w.alloc (.cells #[.int .i64 0, .slice none 0 0, .int .i64 0, .int .i64 0, .int .i64 0, .bool false] 36) = W1 at HB HZ ⊢
        go_wp2_with fail
        refine (HC1.out _ HB.out).mono ?_
        rintro e W2 ⟨⟨x, rfl⟩, b2⟩
        replace HB := Lib.hid (HB.out.trans (b2.mono HB.out.size))
        replace HZ := Lib.hid (HZ.out.below b2)
        have hw2 := HZ.out.lt
        clear b2
        go_wp2_with fail
        refine (HC2.out _ HB.out).mono ?_
        rintro e w' ⟨rfl, rfl⟩
        go_wp2_with fail
        refine (HC3.out _ HB.out).mono ?_
        rintro e W3 ⟨A9, c9, rfl, hr3, b3⟩
        replace HB := Lib.hid (HB.out.trans (b3.mono HB.out.size))
        replace HZ := Lib.hid (HZ.out.below b3)
        have HRA : Hid (Ra W3 W2.heap.size (.slice A9 rs.length c9) rs) := Lib.hid hr3
        have hz2 := HZ.out.lt
        clear b3 hr3
        go_wp2_with fail
        have hX4 : Rwo (W3.alloc (.cells #[.int .i64 op, .slice A9 rs.length c9, .int .i64 0, .int .i64 0, .int .i64 0, .bool false] 36)) W3.heap.size (qc (mkN op rs [] false) A9 c9) 36 := ⟨heap_alloc_new W3 _⟩
        have hb4 : Below W3.heap.size W3 (W3.alloc (.cells #[.int .i64 op, .slice A9 rs.length c9, .int .i64 0, .int .i64 0, .int .i64 0, .bool false] 36)) := (Below.refl _ _).alloc (Nat.le_refl _) _
        generalize (W3.alloc (.cells #[.int .i64 op, .slice A9 rs.length c9, .int .i64 0, .int .i64 0, .int .i64 0, .bool false] 36)) = W4 at hX4 hb4 ⊢
        have HX4 := Lib.hid hX4
        have HB4 : Hid (Below w.heap.size w W4) := Lib.hid (HB.out.trans (hb4.mono HB.out.size))
        have HZ4 := Lib.hid (HZ.out.below hb4)
        have HRR := Lib.hid (((So.sr encR_len HRA.out).1).below hb4)
        have HRA4 := Lib.hid (So.below HRA.out hb4)
        have HOW : Hid (∀ g, (Value.slice A9 rs.length c9).ownBlock = some g → W2.heap.size ≤ g ∧ g < W3.heap.size) := Lib.hid (So.ltB HRA.out)
        clear hX4 hb4 HB HZ HRA
        have hz4 := HX4.out.lt
        generalize W3.heap.size = b at HX4 HRR HOW hz2 hz4 ⊢
        have HC5 := Lib.hid (readRest_any (B := b) (t.extract (wd.length + used) t.size) W4 HTZ.out HX4.out (Nat.le_refl _) fun wx h => by
          have h2 := HGL.out wx (HB4.out.trans (h.mono (Nat.le_of_lt hz2)))
          exact ⟨h2.1, h2.2.1, h2.2.2.1⟩)
        rw [HTR.out] at HC5
        refine HC5.out.mono ?_
        rintro e W5 ⟨b5, hcase⟩
        have HB : Hid (Below w.heap.size w W5) := Lib.hid (HB4.out.trans (b5.mono (Nat.le_of_lt hz2)))
        have HZ := Lib.hid (HZ4.out.belowB b5 hz2)
        have HRR5 := Lib.hid (HRR.out.below b5)
        have HRA5 := Lib.hid (So.belowB HRA4.out b5 fun g hg => (HOW.out g hg).2)
        have hbs : b ≤ W5.heap.size := Nat.le_trans (Nat.le_of_lt hz4) b5.size
        clear b5 HC5 HX4 HB4 HZ4 HRR HRA4 hz4
        rcases hcase with ⟨hx, rfl⟩ | ⟨vs, r, hx, rfl, hX5⟩
        · have HF : Hid (parseQ numA T = (Qr.zero, 90)) := Lib.hid (by rw [HF1.out, hx]; rfl)
          clear hx
          have z0 : W5.cell? ⟨w.heap.size, 0, none⟩ = some (.int .i64 0) := HZ.out.cell rfl
          have z1 : W5.cell? ⟨w.heap.size, 1, none⟩ = some (.slice none 0 0) := HZ.out.cell rfl
          have z2 : W5.cell? ⟨w.heap.size, 2, none⟩ = some (.int .i64 0) := HZ.out.cell rfl
          have z3 : W5.cell? ⟨w.heap.size, 3, none⟩ = some (.int .i64 0) := HZ.out.cell rfl
          have z4 : W5.cell? ⟨w.heap.size, 4, none⟩ = some (.int .i64 0) := HZ.out.cell rfl
          have z5 : W5.cell? ⟨w.heap.size, 5, none⟩ = some (.bool false) := HZ.out.cell rfl
          have zf := HZ.out.fr
          have zl := HZ.out.lt
          go_wp2
          have hZ9 := HZ.out.set6 (.int .i64 0) (.slice none 0 0) (.int .i64 0) (.int .i64 0) (.int .i64 0) (.bool false)
          have hB9 := below_set6 HB.out (Nat.le_refl w.heap.size) (.int .i64 0) (.slice none 0 0) (.int .i64 0) (.int .i64 0) (.int .i64 0) (.bool false)
          generalize hW9 : (World.setCell _ _ _ : World) = W9 at hZ9 hB9 ⊢
          clear hW9 z0 z1 z2 z3 z4 z5 zf
          have x0 : W9.cell? ⟨w.heap.size, 0, none⟩ = some (.int .i64 0) := hZ9.cell rfl
          have x1 : W9.cell? ⟨w.heap.size, 1, none⟩ = some (.slice none 0 0) := hZ9.cell rfl
          have x2 : W9.cell? ⟨w.heap.size, 2, none⟩ = some (.int .i64 0) := hZ9.cell rfl
          have x3 : W9.cell? ⟨w.heap.size, 3, none⟩ = some (.int .i64 0) := hZ9.cell rfl
          have x4 : W9.cell? ⟨w.heap.size, 4, none⟩ = some (.int .i64 0) := hZ9.cell rfl
          have x5 : W9.cell? ⟨w.heap.size, 5, none⟩ = some (.bool false) := hZ9.cell rfl
          have HB9 := Lib.hid hB9
          clear hZ9 hB9
          refine bodyPost_ret (v := .tuple #[qv Qr.zero none 0, .int .i64 90]) (by simp [results, Tryz.results21, go_sem, Qr.zero, x0, x1, x2, x3, x4, x5]) rfl ?_
          rw [HF.out]
          exact par_bad HB9.out

        · have hst : vs.getD 2 0 ≤ 9223372036854775807 := getD_le (readX_le hx) 2
          have hF2 : parseQ numA T = if (r = notesL ∨ r = []) ∧ rightQ (mkQ op rs vs r) = true then (mkQ op rs vs r, 0) else (Qr.zero, 90) := by rw [HF1.out, hx]; rfl
          have hcond : (r == notesL || r == []) = decide (r = notesL ∨ r = []) := by
            by_cases h1 : r = notesL
            · simp [h1]
            · by_cases h2 : r = []
              · simp [h2]
              · simp [h1, h2]
          rw [hcond]
          obtain ⟨q, hq⟩ : ∃ q, q = mkQ op rs vs r := ⟨_, rfl⟩
          have hqs : q.st = vs.getD 2 0 := by rw [hq]; rfl
          have hqr : q.rs = rs := by rw [hq]; rfl
          rw [← hqs] at hst
          rw [← hq] at hF2 hX5
          have HX5 := Lib.hid hX5
          have HSR2 : Hid (SmR q.rs) := Lib.hid (by rw [hqr]; exact HSR.out)
          have HRQ : Hid (Rr W5 b A9 c9 q.rs) := Lib.hid (by rw [hqr]; exact HRR5.out)
          have HRAQ : Hid (Ra W5 W2.heap.size (.slice A9 q.rs.length c9) q.rs) := Lib.hid (by rw [hqr]; exact HRA5.out)
          have HOQ : Hid (∀ g, (Value.slice A9 q.rs.length c9).ownBlock = some g → W2.heap.size ≤ g) := Lib.hid (by rw [hqr]; exact fun g hg => (HOW.out g hg).1)
          have HST := Lib.hid hst
          clear hx hcond hq hqs hqr hst hX5 HRR5 HRA5 HOW
          by_cases hc : r = notesL ∨ r = []
          · rw [decide_eq_true hc]
            have hF3 : parseQ numA T = if rightQ q = true then (q, 0) else (Qr.zero, 90) := by
              rw [hF2]
              by_cases h9 : rightQ q = true
              · rw [if_pos ⟨hc, h9⟩, if_pos h9]
              · rw [if_neg (fun h => h9 h.2), if_neg h9]
            have HC6 := Lib.hid (akRight_any HRQ.out hbs HSR2.out HST.out)
            generalize hrq : rightQ q = rq at hF3 HC6
            have HF3 := Lib.hid hF3
            have y0 : W5.cell? ⟨b, 0, none⟩ = some (.int .i64 q.op) := HX5.out.cell rfl
            have y1 : W5.cell? ⟨b, 1, none⟩ = some (.slice A9 q.rs.length c9) := HX5.out.cell rfl
            have y2 : W5.cell? ⟨b, 2, none⟩ = some (.int .i64 q.fr) := HX5.out.cell rfl
            have y3 : W5.cell? ⟨b, 3, none⟩ = some (.int .i64 q.to_) := HX5.out.cell rfl
            have y4 : W5.cell? ⟨b, 4, none⟩ = some (.int .i64 q.st) := HX5.out.cell rfl
            have y5 : W5.cell? ⟨b, 5, none⟩ = some (.bool q.nt) := HX5.out.cell rfl
            have yl := HX5.out.lt
            clear hF2 hF3 hc hrq
            go_wp2_with fail
            refine HC6.out.mono ?_
            rintro e W6 ⟨rfl, b6⟩
            replace HB := Lib.hid (HB.out.trans (b6.mono HB.out.size))
            replace HZ := Lib.hid (HZ.out.below b6)
            have HX6 := Lib.hid (HX5.out.below b6)
            have HRA6 := Lib.hid (So.below HRAQ.out b6)
            clear b6 y0 y1 y2 y3 y4 y5 yl HC6 HX5
            cases rq with
            | false =>
              have HF : Hid (parseQ numA T = (Qr.zero, 90)) := Lib.hid (by rw [HF3.out]; rfl)
              have z0 : W6.cell? ⟨w.heap.size, 0, none⟩ = some (.int .i64 0) := HZ.out.cell rfl
              have z1 : W6.cell? ⟨w.heap.size, 1, none⟩ = some (.slice none 0 0) := HZ.out.cell rfl
              have z2 : W6.cell? ⟨w.heap.size, 2, none⟩ = some (.int .i64 0) := HZ.out.cell rfl
              have z3 : W6.cell? ⟨w.heap.size, 3, none⟩ = some (.int .i64 0) := HZ.out.cell rfl
              have z4 : W6.cell? ⟨w.heap.size, 4, none⟩ = some (.int .i64 0) := HZ.out.cell rfl
              have z5 : W6.cell? ⟨w.heap.size, 5, none⟩ = some (.bool false) := HZ.out.cell rfl
              have zf := HZ.out.fr
              have zl := HZ.out.lt
              go_wp2
              have hZ9 := HZ.out.set6 (.int .i64 0) (.slice none 0 0) (.int .i64 0) (.int .i64 0) (.int .i64 0) (.bool false)
              have hB9 := below_set6 HB.out (Nat.le_refl w.heap.size) (.int .i64 0) (.slice none 0 0) (.int .i64 0) (.int .i64 0) (.int .i64 0) (.bool false)
              generalize hW9 : (World.setCell _ _ _ : World) = W9 at hZ9 hB9 ⊢
              clear hW9 z0 z1 z2 z3 z4 z5 zf
              have x0 : W9.cell? ⟨w.heap.size, 0, none⟩ = some (.int .i64 0) := hZ9.cell rfl
              have x1 : W9.cell? ⟨w.heap.size, 1, none⟩ = some (.slice none 0 0) := hZ9.cell rfl
              have x2 : W9.cell? ⟨w.heap.size, 2, none⟩ = some (.int .i64 0) := hZ9.cell rfl
              have x3 : W9.cell? ⟨w.heap.size, 3, none⟩ = some (.int .i64 0) := hZ9.cell rfl
              have x4 : W9.cell? ⟨w.heap.size, 4, none⟩ = some (.int .i64 0) := hZ9.cell rfl
              have x5 : W9.cell? ⟨w.heap.size, 5, none⟩ = some (.bool false) := hZ9.cell rfl
              have HB9 := Lib.hid hB9
              clear hZ9 hB9
              refine bodyPost_ret (v := .tuple #[qv Qr.zero none 0, .int .i64 90]) (by simp [results, Tryz.results21, go_sem, Qr.zero, x0, x1, x2, x3, x4, x5]) rfl ?_
              rw [HF.out]
              exact par_bad HB9.out

            | true =>
              have HF : Hid (parseQ numA T = (q, 0)) := Lib.hid (by rw [HF3.out]; rfl)
              have y0 : W6.cell? ⟨b, 0, none⟩ = some (.int .i64 q.op) := HX6.out.cell rfl
              have y1 : W6.cell? ⟨b, 1, none⟩ = some (.slice A9 q.rs.length c9) := HX6.out.cell rfl
              have y2 : W6.cell? ⟨b, 2, none⟩ = some (.int .i64 q.fr) := HX6.out.cell rfl
              have y3 : W6.cell? ⟨b, 3, none⟩ = some (.int .i64 q.to_) := HX6.out.cell rfl
              have y4 : W6.cell? ⟨b, 4, none⟩ = some (.int .i64 q.st) := HX6.out.cell rfl
              have y5 : W6.cell? ⟨b, 5, none⟩ = some (.bool q.nt) := HX6.out.cell rfl
              have yl := HX6.out.lt
              have z0 : W6.cell? ⟨w.heap.size, 0, none⟩ = some (.int .i64 0) := HZ.out.cell rfl
              have z1 : W6.cell? ⟨w.heap.size, 1, none⟩ = some (.slice none 0 0) := HZ.out.cell rfl
              have z2 : W6.cell? ⟨w.heap.size, 2, none⟩ = some (.int .i64 0) := HZ.out.cell rfl
              have z3 : W6.cell? ⟨w.heap.size, 3, none⟩ = some (.int .i64 0) := HZ.out.cell rfl
              have z4 : W6.cell? ⟨w.heap.size, 4, none⟩ = some (.int .i64 0) := HZ.out.cell rfl
              have z5 : W6.cell? ⟨w.heap.size, 5, none⟩ = some (.bool false) := HZ.out.cell rfl

              have zf := HZ.out.fr
              have zl := HZ.out.lt
              go_wp2
              have hZ9 := HZ.out.set6 (.int .i64 q.op) (.slice A9 q.rs.length c9) (.int .i64 q.fr) (.int .i64 q.to_) (.int .i64 q.st) (.bool q.nt)
              have hB9 := below_set6 HB.out (Nat.le_refl w.heap.size) (.int .i64 q.op) (.slice A9 q.rs.length c9) (.int .i64 q.fr) (.int .i64 q.to_) (.int .i64 q.st) (.bool q.nt)
              have hR9 := So.set6 (g := w.heap.size) HRA6.out (fun h => by have := HOQ.out _ h; omega) (.int .i64 q.op) (.slice A9 q.rs.length c9) (.int .i64 q.fr) (.int .i64 q.to_) (.int .i64 q.st) (.bool q.nt)
              generalize hW9 : (World.setCell _ _ _ : World) = W9 at hZ9 hB9 hR9 ⊢
              clear hW9 z0 z1 z2 z3 z4 z5 zf y0 y1 y2 y3 y4 y5
              have x0 : W9.cell? ⟨w.heap.size, 0, none⟩ = some (.int .i64 q.op) := hZ9.cell rfl
              have x1 : W9.cell? ⟨w.heap.size, 1, none⟩ = some (.slice A9 q.rs.length c9) := hZ9.cell rfl
              have x2 : W9.cell? ⟨w.heap.size, 2, none⟩ = some (.int .i64 q.fr) := hZ9.cell rfl
              have x3 : W9.cell? ⟨w.heap.size, 3, none⟩ = some (.int .i64 q.to_) := hZ9.cell rfl
              have x4 : W9.cell? ⟨w.heap.size, 4, none⟩ = some (.int .i64 q.st) := hZ9.cell rfl
              have x5 : W9.cell? ⟨w.heap.size, 5, none⟩ = some (.bool q.nt) := hZ9.cell rfl
              have HB9 := Lib.hid hB9
              have HR9 := Lib.hid hR9
              clear hZ9 hB9 hR9
              refine bodyPost_ret (v := .tuple #[qv q A9 c9, .int .i64 0]) (by simp [results, Tryz.results21, go_sem, x0, x1, x2, x3, x4, x5]) rfl ?_
              rw [HF.out]
              exact ⟨A9, c9, rfl, HR9.out.more (Nat.le_of_lt hw2), HB9.out⟩
          · rw [decide_eq_false hc]
            have HF : Hid (parseQ numA T = (Qr.zero, 90)) := Lib.hid (by rw [hF2, if_neg (fun h => hc h.1)])
            clear hF2 hc
            have z0 : W5.cell? ⟨w.heap.size, 0, none⟩ = some (.int .i64 0) := HZ.out.cell rfl
            have z1 : W5.cell? ⟨w.heap.size, 1, none⟩ = some (.slice none 0 0) := HZ.out.cell rfl
            have z2 : W5.cell? ⟨w.heap.size, 2, none⟩ = some (.int .i64 0) := HZ.out.cell rfl
            have z3 : W5.cell? ⟨w.heap.size, 3, none⟩ = some (.int .i64 0) := HZ.out.cell rfl
            have z4 : W5.cell? ⟨w.heap.size, 4, none⟩ = some (.int .i64 0) := HZ.out.cell rfl
            have z5 : W5.cell? ⟨w.heap.size, 5, none⟩ = some (.bool false) := HZ.out.cell rfl
            have zf := HZ.out.fr
            have zl := HZ.out.lt
            go_wp2
            have hZ9 := HZ.out.set6 (.int .i64 0) (.slice none 0 0) (.int .i64 0) (.int .i64 0) (.int .i64 0) (.bool false)
            have hB9 := below_set6 HB.out (Nat.le_refl w.heap.size) (.int .i64 0) (.slice none 0 0) (.int .i64 0) (.int .i64 0) (.int .i64 0) (.bool false)
            generalize hW9 : (World.setCell _ _ _ : World) = W9 at hZ9 hB9 ⊢
            clear hW9 z0 z1 z2 z3 z4 z5 zf
            have x0 : W9.cell? ⟨w.heap.size, 0, none⟩ = some (.int .i64 0) := hZ9.cell rfl
            have x1 : W9.cell? ⟨w.heap.size, 1, none⟩ = some (.slice none 0 0) := hZ9.cell rfl
            have x2 : W9.cell? ⟨w.heap.size, 2, none⟩ = some (.int .i64 0) := hZ9.cell rfl
            have x3 : W9.cell? ⟨w.heap.size, 3, none⟩ = some (.int .i64 0) := hZ9.cell rfl
            have x4 : W9.cell? ⟨w.heap.size, 4, none⟩ = some (.int .i64 0) := hZ9.cell rfl
            have x5 : W9.cell? ⟨w.heap.size, 5, none⟩ = some (.bool false) := hZ9.cell rfl
            have HB9 := Lib.hid hB9
            clear hZ9 hB9
            refine bodyPost_ret (v := .tuple #[qv Qr.zero none 0, .int .i64 90]) (by simp [results, Tryz.results21, go_sem, Qr.zero, x0, x1, x2, x3, x4, x5]) rfl ?_
            rw [HF.out]
            exact par_bad HB9.out

end Go.Proofs.YtcfbcidakddhfaaGreatDoor
namespace Go.Proofs.YtcfbcidakddhfaaGreatDoor
open Go.RowKit Go.BigFrame

/-- A place in a text, or none. -/
def atI (x : Option Nat) : Int := match x with
  | none => -1
  | some k => (k : Int)
/-- The number behind a place, and the place behind it. -/
def numStep (T : List UInt8) (x : Option Nat) : Int × Option Nat := match x with
  | none => (0, none)
  | some k => match numZ (T.drop k) with
    | none => (0, none)
    | some (v, u) => (v, some (k + u))
theorem numOf_run_none {d : List UInt8} (hd : ∀ y ∈ d, 48 ≤ y.toNat ∧ y.toNat ≤ 57) (h : ∀ m, m ≤ 9223372036854775807 → d ≠ dec m) : numOf d = none := by
  cases hn : numOf d with
  | none => rfl
  | some v =>
    obtain ⟨e, _, v2, _⟩ := numOf_some hn
    have hv : 0 ≤ v := by
      rcases Int.lt_or_le v 0 with h9 | h9
      · rw [e, itoa_neg h9] at hd
        have := hd 45 List.mem_cons_self
        simp at this
      · exact h9
    obtain ⟨n, rfl⟩ := Int.eq_ofNat_of_zero_le hv
    rw [itoa_nat] at e
    exact absurd e (h n (by omega))
theorem runB_next {T : List UInt8} {e : Nat} (he : e < T.length) (hd : 48 ≤ (T[e]).toNat ∧ (T[e]).toNat ≤ 57) : runB (T.drop e) = T[e] :: runB (T.drop (e + 1)) := by
  rw [List.drop_eq_getElem_cons he]
  conv => lhs; unfold runB
  rw [if_pos hd]
theorem runB_end {T : List UInt8} {e : Nat} (h : T.length ≤ e ∨ ∃ he : e < T.length, ¬ (48 ≤ (T[e]).toNat ∧ (T[e]).toNat ≤ 57)) : runB (T.drop e) = [] := by
  rcases h with h | ⟨he, h⟩
  · rw [List.drop_eq_nil_of_le h]
    rfl
  · rw [List.drop_eq_getElem_cons he]
    unfold runB
    rw [if_neg h]
theorem byte_at (t : ByteArray) (k : Nat) (h : k < t.size) : t.data.toList[k]'(by simpa using h) = t[k] := by
  simp
  rfl
end Go.Proofs.YtcfbcidakddhfaaGreatDoor
