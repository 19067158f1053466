/- The document's Change and Active. -/
import Derived.Test.YtcgkbpjfbahleaaVw7
import Derived.ChangeAlike
namespace Go.Proofs.Ytcgkbpjfbahleaa
open Go.RowKit Go.BigFrame

/-- What the document's Change and Active answer. -/
def RchP (w : World) (mA sA A : Option Addr) (r : Int) (c' : Vc) (e : Ending) (w' : World) : Prop :=
  ∃ mA' mc' sA' sc', e = .returned (.tuple #[.int .i64 r, .agg #[.int .i64 c'.e, .int .i64 c'.p, .slice mA' c'.ms.length mc', .slice sA' c'.sf.length sc']]) ∧ Sr encI 1 w' w'.heap.size mA' mc' c'.ms ∧ Sr encI 1 w' w'.heap.size sA' sc' c'.sf ∧
    (mA' = mA ∨ mA' = A) ∧ (sA' = sA ∨ sA' = mA ∨ ∀ ad, sA' = some ad → w.heap.size ≤ ad.block) ∧ Below w.heap.size w w'
/-- The control's box, the result's cells. -/
structure Rx (w wr : World) (c : Vc) (mA : Option Addr) (mc : Nat) (sA : Option Addr) (sc : Nat) : Prop where
  x0 : wr.cell? ⟨w.heap.size, 0, none⟩ = some (.int .i64 c.e)
  x1 : wr.cell? ⟨w.heap.size, 1, none⟩ = some (.int .i64 c.p)
  x2 : wr.cell? ⟨w.heap.size, 2, none⟩ = some (.slice mA c.ms.length mc)
  x3 : wr.cell? ⟨w.heap.size, 3, none⟩ = some (.slice sA c.sf.length sc)
  z0 : wr.cell? ⟨w.heap.size + 1, 0, none⟩ = some (.int .i64 0)
  z1 : wr.cell? ⟨w.heap.size + 1, 1, none⟩ = some (.int .i64 0)
  z2 : wr.cell? ⟨w.heap.size + 1, 2, none⟩ = some (.slice none 0 0)
  z3 : wr.cell? ⟨w.heap.size + 1, 3, none⟩ = some (.slice none 0 0)
  f0 : ∀ j, wr.frozen? ⟨w.heap.size + 1, j, none⟩ = false
  f1 : ∀ j, wr.frozen? ⟨w.heap.size, j, none⟩ = false
  hz : w.heap.size + 1 < wr.heap.size
  bl : Below w.heap.size w wr
theorem Rx.below {w wr w' : World} {c : Vc} {mA sA : Option Addr} {mc sc : Nat} (h : Rx w wr c mA mc sA sc) (hb : Below wr.heap.size wr w') : Rx w w' c mA mc sA sc :=
  have hz := h.hz
  ⟨kept hb h.x0, kept hb h.x1, kept hb h.x2, kept hb h.x3, kept hb h.z0, kept hb h.z1, kept hb h.z2, kept hb h.z3, fun j => (hb.frozen (p := ⟨w.heap.size + 1, j, none⟩) hz).trans (h.f0 j), fun j => (hb.frozen (p := ⟨w.heap.size, j, none⟩) (by show w.heap.size < _; omega)).trans (h.f1 j), Nat.lt_of_lt_of_le hz hb.size, h.bl.trans (hb.mono h.bl.size)⟩
theorem Rx.set {w wr : World} {c : Vc} {mA sA : Option Addr} {mc sc : Nat} (h : Rx w wr c mA mc sA sc) (a0 a1 a2 a3 : Value) :
    Below w.heap.size w ((((wr.setCell ⟨w.heap.size + 1, 0, none⟩ a0).setCell ⟨w.heap.size + 1, 1, none⟩ a1).setCell ⟨w.heap.size + 1, 2, none⟩ a2).setCell ⟨w.heap.size + 1, 3, none⟩ a3) ∧
    Tn (· = w.heap.size + 1) wr ((((wr.setCell ⟨w.heap.size + 1, 0, none⟩ a0).setCell ⟨w.heap.size + 1, 1, none⟩ a1).setCell ⟨w.heap.size + 1, 2, none⟩ a2).setCell ⟨w.heap.size + 1, 3, none⟩ a3) :=
  ⟨(((h.bl.setCell (p := ⟨w.heap.size + 1, 0, none⟩) (Nat.le_succ _) _).setCell (p := ⟨w.heap.size + 1, 1, none⟩) (Nat.le_succ _) _).setCell (p := ⟨w.heap.size + 1, 2, none⟩) (Nat.le_succ _) _).setCell (p := ⟨w.heap.size + 1, 3, none⟩) (Nat.le_succ _) _,
   (((Tn.setCell _ (w.heap.size + 1) 0 _).then (Tn.setCell _ (w.heap.size + 1) 1 _)).then (Tn.setCell _ (w.heap.size + 1) 2 _)).then (Tn.setCell _ (w.heap.size + 1) 3 _)⟩
theorem Rx.start {w : World} {c : Vc} {mA sA : Option Addr} {mc sc : Nat} : Rx w ((w.alloc (.cells #[.int .i64 c.e, .int .i64 c.p, .slice mA c.ms.length mc, .slice sA c.sf.length sc] 31)).alloc (.cells #[.int .i64 0, .int .i64 0, .slice none 0 0, .slice none 0 0] 31)) c mA mc sA sc :=
  ⟨by simp [go_sem], by simp [go_sem], by simp [go_sem], by simp [go_sem], by simp [go_sem], by simp [go_sem], by simp [go_sem], by simp [go_sem], fun j => by simp [go_sem], fun j => by simp [go_sem], by simp, by go_grown⟩
theorem below_dw {B : Nat} {a w : World} (h : Below B a w) : Below B a w.drew := ⟨h.os, h.tape, h.output, h.size, h.block⟩
section
variable {w : World} {c : Vc} {mA sA A : Option Addr} {mc sc K0 K1 K2 mc0 : Nat} {p : Int} {ms : List Int}
set_option maxRecDepth 100000 in
set_option maxHeartbeats 1600000 in
theorem rchange_no (h1 : Sr encI 1 w K1 mA mc c.ms) (h2 : Sr encI 1 w K2 sA sc c.sf) (h3 : Sr encI 1 w K0 A mc0 ms) (k1 : K1 ≤ w.heap.size) (k2 : K2 ≤ w.heap.size) (k0 : K0 ≤ w.heap.size) {r : Int} {c' : Vc} (hr : chV c p ms = (r, c')) (hr0 : r ≠ 0) :
    Calls Try.prog 11 #[.agg #[.int .i64 c.e, .int .i64 c.p, .slice mA c.ms.length mc, .slice sA c.sf.length sc], .int .i64 p, .slice A ms.length mc0] w (RchP w mA sA mA r c) := by
  have HX0 : Hid (Rx w _ c mA mc sA sc) := Lib.hid (Rx.start (w := w))
  have HR := Lib.hid (fun W (h : Below w.heap.size w W) => rright_any 1 p K0 A ms.length mc0 ms W rfl (h3.below (h.mono k0)) (Nat.le_trans k0 h.size))
  have HH := Lib.hid (fun W (h : Below w.heap.size w W) => rhas_any K2 sA c.sf.length sc c.sf p W rfl (h2.below (h.mono k2)))
  have HFin : Hid (∀ W, Below w.heap.size w W → RchP w mA sA mA r c (.returned (.tuple #[.int .i64 r, .agg #[.int .i64 c.e, .int .i64 c.p, .slice mA c.ms.length mc, .slice sA c.sf.length sc]])) W) := Lib.hid fun W h => ⟨mA, mc, sA, sc, rfl, (h1.below (h.mono k1)).more (Nat.le_trans k1 h.size), (h2.below (h.mono k2)).more (Nat.le_trans k2 h.size), .inl rfl, .inl rfl, h⟩
  clear h1 h2 h3
  unfold chV at hr
  by_cases q1 : rightV 1 p ms = false
  · rw [if_pos q1] at hr
    have hr9 := congrArg Prod.fst hr
    clear hr
    simp only at hr9
    subst hr9
    rw [q1] at HR
    clear q1 hr0
    go_enter Try.func11, Try.ntmps11
    go_wp2_with fail
    go_at_call 20
    refine (HR.out _ HX0.out.bl).mono ?_
    rintro e w1 ⟨rfl, b1⟩
    have X := HX0.out.below b1
    have x0 := X.x0
    have x1 := X.x1
    have x2 := X.x2
    have x3 := X.x3
    have z0 := X.z0
    have z1 := X.z1
    have z2 := X.z2
    have z3 := X.z3
    have f0 := X.f0
    have hz := X.hz
    have HX := Lib.hid X
    clear X b1
    go_wp2_with fail
    go_region
    go_wp2_with fail
    refine bodyPost_ret (v := .tuple #[.int .i64 1, .agg #[.int .i64 c.e, .int .i64 c.p, .slice mA c.ms.length mc, .slice sA c.sf.length sc]]) (by simp [results, Try.results11, go_sem, z0, z1, z2, z3]) rfl ?_
    exact HFin.out _ (below_dw (HX.out.set _ _ _ _).1)
  rw [if_neg q1] at hr
  have q1' : rightV 1 p ms = true := by simpa using q1
  rw [q1'] at HR
  clear q1 q1'
  by_cases q2 : hasB c.sf p = false
  · rw [if_pos q2] at hr
    have hr9 := congrArg Prod.fst hr
    clear hr
    simp only at hr9
    subst hr9
    rw [q2] at HH
    clear q2 hr0
    go_enter Try.func11, Try.ntmps11
    go_wp2_with fail
    go_at_call 20
    refine (HR.out _ HX0.out.bl).mono ?_
    rintro e w1 ⟨rfl, b1⟩
    have X := HX0.out.below b1
    have x0 := X.x0
    have x1 := X.x1
    have x2 := X.x2
    have x3 := X.x3
    have z0 := X.z0
    have z1 := X.z1
    have z2 := X.z2
    have z3 := X.z3
    have f0 := X.f0
    have hz := X.hz
    have HX := Lib.hid X
    clear X b1
    go_wp2_with (go_at_call 21; refine (HH.out _ HX.out.bl).mono ?_; rintro r w9 ⟨rfl, rfl⟩)
    go_region
    go_wp2_with fail
    refine bodyPost_ret (v := .tuple #[.int .i64 111, .agg #[.int .i64 c.e, .int .i64 c.p, .slice mA c.ms.length mc, .slice sA c.sf.length sc]]) (by simp [results, Try.results11, go_sem, z0, z1, z2, z3]) rfl ?_
    exact HFin.out _ (below_dw (HX.out.set _ _ _ _).1)
  rw [if_neg q2] at hr
  have q2' : hasB c.sf p = true := by simpa using q2
  rw [q2'] at HH
  clear q2 q2'
  by_cases q3 : 4611686018427387904 ≤ c.e
  · rw [if_pos q3] at hr
    have hr9 := congrArg Prod.fst hr
    clear hr
    simp only at hr9
    subst hr9
    have d3 : decide (4611686018427387904 ≤ c.e) = true := by simpa using q3
    clear q3 hr0
    go_enter Try.func11, Try.ntmps11
    go_wp2_with fail
    go_at_call 20
    refine (HR.out _ HX0.out.bl).mono ?_
    rintro e w1 ⟨rfl, b1⟩
    have X := HX0.out.below b1
    have x0 := X.x0
    have x1 := X.x1
    have x2 := X.x2
    have x3 := X.x3
    have z0 := X.z0
    have z1 := X.z1
    have z2 := X.z2
    have z3 := X.z3
    have f0 := X.f0
    have hz := X.hz
    have HX := Lib.hid X
    clear X b1
    go_wp2_with (go_at_call 21; refine (HH.out _ HX.out.bl).mono ?_; rintro r w9 ⟨rfl, rfl⟩)
    go_region
    go_wp2_with fail
    refine bodyPost_ret (v := .tuple #[.int .i64 20, .agg #[.int .i64 c.e, .int .i64 c.p, .slice mA c.ms.length mc, .slice sA c.sf.length sc]]) (by simp [results, Try.results11, go_sem, z0, z1, z2, z3]) rfl ?_
    exact HFin.out _ (below_dw (HX.out.set _ _ _ _).1)
  · rw [if_neg q3] at hr
    have hr9 := congrArg Prod.fst hr
    simp only at hr9
    exact absurd hr9.symm hr0
set_option maxRecDepth 100000 in
set_option maxHeartbeats 3200000 in
theorem rchange_yes (h2 : Sr encI 1 w K2 sA sc c.sf) (h3 : Sr encI 1 w K0 A mc0 ms) (k2 : K2 ≤ w.heap.size) (k0 : K0 ≤ w.heap.size) (q1 : rightV 1 p ms = true) (q2 : hasB c.sf p = true) (q3 : c.e < 4611686018427387904) (q0 : 1 ≤ c.e) (hl : c.sf.length ≤ 8) :
    Calls Try.prog 11 #[.agg #[.int .i64 c.e, .int .i64 c.p, .slice mA c.ms.length mc, .slice sA c.sf.length sc], .int .i64 p, .slice A ms.length mc0] w (RchP w mA sA A 0 ⟨c.e + 1, p, ms, c.sf.filter fun n => hasB ms n⟩) := by
  have HX0 : Hid (Rx w _ c mA mc sA sc) := Lib.hid (Rx.start (w := w))
  have HR := Lib.hid (fun W (h : Below w.heap.size w W) => rright_any 1 p K0 A ms.length mc0 ms W rfl (h3.below (h.mono k0)) (Nat.le_trans k0 h.size))
  have HH := Lib.hid (fun W (h : Below w.heap.size w W) => rhas_any K2 sA c.sf.length sc c.sf p W rfl (h2.below (h.mono k2)))
  have HHM := Lib.hid (fun W (h : Below w.heap.size w W) n => rhas_any K0 A ms.length mc0 ms n W rfl (h3.below (h.mono k0)))
  have HS2 := Lib.hid h2
  have HS3 := Lib.hid h3
  rw [q1] at HR
  rw [q2] at HH
  have d3 : decide (4611686018427387904 ≤ c.e) = false := by simp; omega
  have hwr : IntKind.i64.wrap (c.e + 1) = c.e + 1 := IntWalk.i64_in _ (by omega)
  have HWR := Lib.hid hwr
  clear h2 h3 q1 q2 hwr
  go_enter Try.func11, Try.ntmps11
  go_wp2_with fail
  go_at_call 20
  refine (HR.out _ HX0.out.bl).mono ?_
  rintro e w1 ⟨rfl, b1⟩
  have X := HX0.out.below b1
  have x0 := X.x0
  have x3 := X.x3
  have hz := X.hz
  have HX := Lib.hid X
  clear X b1
  go_wp2_with (go_at_call 21; refine (HH.out _ HX.out.bl).mono ?_; rintro r w9 ⟨rfl, rfl⟩)
  clear x0 x3
  go_loopw [8, 9] (fun sv iv wr => ∃ (i : Nat) (B : Option Addr) (m c' : Nat), i ≤ c.sf.length ∧ iv = .int .i64 (i : Int) ∧ sv = .slice B m c' ∧ m ≤ i ∧ So encI 1 wr w1.heap.size 3 (.slice B m c') ((c.sf.take i).filter fun n => hasB ms n) ∧ Below w1.heap.size w1 wr) (fun _ iv _ => c.sf.length - (intOf iv).toNat)
  case atStart => exact ⟨0, none, 0, 0, Nat.zero_le _, rfl, rfl, Nat.le_refl _, So.empty _ _ _ _ _, Below.refl _ _⟩
  case round =>
    obtain ⟨i, B, m, c', hi, rfl, rfl, hmi, so, hb⟩ := hrel
    rename World => W0
    have X := HX.out.below hb
    have x0 := X.x0
    have x1 := X.x1
    have x2 := X.x2
    have x3 := X.x3
    have z0 := X.z0
    have z1 := X.z1
    have z2 := X.z2
    have z3 := X.z3
    have f0 := X.f0
    have hz := X.hz
    have HX := Lib.hid X
    have hz1 := hb.size
    have HB := Lib.hid hb
    have HSO := Lib.hid so
    clear X hb so
    by_cases hlt : i < c.sf.length
    · have hlI : (i : Int) < (c.sf.length : Int) := by omega
      have hi0 : (0 : Int) ≤ (i : Int) := by omega
      obtain ⟨ad, rfl, hadK, hcell⟩ := (HS2.out.below (HX.out.bl.mono k2)).int hlt
      have HS := Lib.hid (take_snocI c.sf i hlt)
      generalize c.sf[i] = x at *
      have HC := Lib.hid (HHM.out W0 HX.out.bl x)
      cases hd : hasB ms x with
      | true =>
        rw [hd] at HC
        have HT : Hid (((c.sf.take (i + 1)).filter fun n => hasB ms n) = ((c.sf.take i).filter fun n => hasB ms n) ++ [x]) := Lib.hid (by rw [HS.out, List.filter_append]; simp [hd])
        have HLM : Hid (((c.sf.take i).filter fun n => hasB ms n).length = m) := Lib.hid HSO.out.lenI
        clear hd
        go_wp2_with (first
          | (go_at_call 21; refine HC.out.mono ?_; rintro r w9 ⟨rfl, rfl⟩)
          | (at_builtin; refine wpList_pushE Try.underlying22 info_i64 rfl (by decide) W0 rfl (.tmp 41) (.tmp 47) rfl w1.heap.size (.slice B m c') _ rfl HSO.out x _ rfl rfl (encI_one _) _ W0.heap.size rfl rfl (m + 1) (by rw [HLM.out]) (by unfold maxLen; omega) (by omega) hz1 ?_; intro A2 cap2 w2 so2 hgrow2 hat2; have B2 : Below w1.heap.size w1 w2 := grown_belowI HB.out hgrow2 hz1 (fun _ h => (HSO.out.lt _ h).1); have HS2' := Lib.hid so2; have HB2' := Lib.hid B2; clear so2 hgrow2 hat2 B2))
        go_roundw
        case rel => exact ⟨i + 1, A2, m + 1, cap2, by omega, by go_num, rfl, by omega, by rw [HT.out]; exact HS2'.out, HB2'.out⟩
        case measure => simp [intOf]; omega
      | false =>
        rw [hd] at HC
        have HT : Hid (((c.sf.take (i + 1)).filter fun n => hasB ms n) = ((c.sf.take i).filter fun n => hasB ms n)) := Lib.hid (by rw [HS.out, List.filter_append]; simp [hd])
        clear hd
        go_wp2_with (go_at_call 21; refine HC.out.mono ?_; rintro r w9 ⟨rfl, rfl⟩)
        go_roundw
        case rel => exact ⟨i + 1, B, m, c', by omega, by go_num, rfl, by omega, by rw [HT.out]; exact HSO.out, HB.out⟩
        case measure => simp [intOf]; omega
    · have hil : i = c.sf.length := by omega
      have HF : Hid (So encI 1 W0 w1.heap.size 3 (.slice B m c') (c.sf.filter fun n => hasB ms n)) := Lib.hid (by have := HSO.out; rwa [hil, List.take_length] at this)
      have HLM : Hid ((c.sf.filter fun n => hasB ms n).length = m) := Lib.hid HF.out.lenI
      clear hil HSO
      have hwr := HWR.out
      go_wp2_with fail
      go_region
      clear hwr
      go_wp2_with fail
      refine bodyPost_ret (v := .tuple #[.int .i64 0, .agg #[.int .i64 (c.e + 1), .int .i64 p, .slice A ms.length mc0, .slice B m c']]) (by simp [results, Try.results11, go_sem, z0, z1, z2, z3]) rfl ?_
      have hbb := below_dw (HX.out.set (.int .i64 (IntKind.i64.wrap (c.e + 1))) (.int .i64 p) (.slice A ms.length mc0) (.slice B m c')).1
      have htt := (HX.out.set (.int .i64 (IntKind.i64.wrap (c.e + 1))) (.int .i64 p) (.slice A ms.length mc0) (.slice B m c')).2
      rw [HWR.out] at hbb htt
      have hs := (HF.out.tn htt (fun k e q => by have := (HF.out.lt k e).1; omega)).drew
      refine ⟨A, mc0, B, c', by simp only [HLM.out], (HS3.out.below (hbb.mono k0)).more (Nat.le_trans k0 hbb.size), by have h9 := (hs.sr encI_len).1; exact h9, .inr rfl, .inr (.inr fun ad e => ?_), hbb⟩
      subst e
      obtain ⟨g, e9, _⟩ : ∃ g, (Value.slice (some ad) m c').ownBlock = some g ∧ True := ⟨ad.block, rfl, trivial⟩
      have := (HF.out.lt g e9).1
      injection e9 with e9
      omega
set_option maxRecDepth 100000 in
set_option maxHeartbeats 1600000 in
theorem ractive_any (n : Int) (h1 : Sr encI 1 w K1 mA mc c.ms) (h2 : Sr encI 1 w K2 sA sc c.sf) (k1 : K1 ≤ w.heap.size) (k2 : K2 ≤ w.heap.size) :
    Calls Try.prog 14 #[.agg #[.int .i64 c.e, .int .i64 c.p, .slice mA c.ms.length mc, .slice sA c.sf.length sc], .int .i64 n] w (RchP w mA sA mA (acV c n).1 (acV c n).2) := by
  have HX0 : Hid (Rx w _ c mA mc sA sc) := Lib.hid (Rx.start (w := w))
  have HFin : Hid (∀ W, Below w.heap.size w W → ∀ r, RchP w mA sA mA r c (.returned (.tuple #[.int .i64 r, .agg #[.int .i64 c.e, .int .i64 c.p, .slice mA c.ms.length mc, .slice sA c.sf.length sc]])) W) := Lib.hid fun W h r => ⟨mA, mc, sA, sc, rfl, (h1.below (h.mono k1)).more (Nat.le_trans k1 h.size), (h2.below (h.mono k2)).more (Nat.le_trans k2 h.size), .inl rfl, .inl rfl, h⟩
  have HFin2 : Hid (∀ W, Below w.heap.size w W → RchP w mA sA mA 0 ⟨c.e, c.p, c.ms, c.ms⟩ (.returned (.tuple #[.int .i64 0, .agg #[.int .i64 c.e, .int .i64 c.p, .slice mA c.ms.length mc, .slice mA c.ms.length mc]])) W) := Lib.hid fun W h => ⟨mA, mc, mA, mc, rfl, (h1.below (h.mono k1)).more (Nat.le_trans k1 h.size), (h1.below (h.mono k1)).more (Nat.le_trans k1 h.size), .inl rfl, .inr (.inl rfl), h⟩
  clear h1 h2
  have HA : ∀ (d1 d2 d3 : Bool), decide (n < 1) = d1 → decide (c.e < n) = d2 → (n == c.e) = d3 → Hid (acV c n = if d1 = true ∨ d2 = true then (1, c) else if d3 = true then (0, ⟨c.e, c.p, c.ms, c.ms⟩) else (0, c)) := by
    rintro d1 d2 d3 rfl rfl rfl
    refine Lib.hid ?_
    unfold acV
    simp
  have X := HX0.out
  have x0 := X.x0
  have x1 := X.x1
  have x2 := X.x2
  have x3 := X.x3
  have z0 := X.z0
  have z1 := X.z1
  have z2 := X.z2
  have z3 := X.z3
  have f0 := X.f0
  have hz := X.hz
  have HX := Lib.hid X
  clear X
  clear HX
  cases e1 : decide (n < 1) with
  | true =>
    have HQ : Hid (acV c n = (1, c)) := Lib.hid (by rw [(HA _ _ _ e1 rfl rfl).out, if_pos (.inl rfl)])
    clear HA
    go_enter Try.func14, Try.ntmps14
    go_wp2_with fail
    go_region
    go_wp2_with fail
    refine bodyPost_ret (v := .tuple #[.int .i64 1, .agg #[.int .i64 c.e, .int .i64 c.p, .slice mA c.ms.length mc, .slice sA c.sf.length sc]]) (by simp [results, Try.results14, go_sem]) rfl ?_
    rw [HQ.out]
    exact HFin.out _ (below_dw (by go_grown)) 1
  | false =>
    cases e2 : decide (c.e < n) with
    | true =>
      have HQ : Hid (acV c n = (1, c)) := Lib.hid (by rw [(HA _ _ _ e1 e2 rfl).out, if_pos (.inr rfl)])
      clear HA
      go_enter Try.func14, Try.ntmps14
      go_wp2_with fail
      go_region
      go_wp2_with fail
      refine bodyPost_ret (v := .tuple #[.int .i64 1, .agg #[.int .i64 c.e, .int .i64 c.p, .slice mA c.ms.length mc, .slice sA c.sf.length sc]]) (by simp [results, Try.results14, go_sem]) rfl ?_
      rw [HQ.out]
      exact HFin.out _ (below_dw (by go_grown)) 1
    | false =>
      cases e3 : (n == c.e) with
      | true =>
        have HQ : Hid (acV c n = (0, ⟨c.e, c.p, c.ms, c.ms⟩)) := Lib.hid (by rw [(HA _ _ _ e1 e2 e3).out, if_neg (by decide), if_pos rfl])
        clear HA
        go_enter Try.func14, Try.ntmps14
        go_wp2_with fail
        go_region
        go_wp2_with fail
        refine bodyPost_ret (v := .tuple #[.int .i64 0, .agg #[.int .i64 c.e, .int .i64 c.p, .slice mA c.ms.length mc, .slice mA c.ms.length mc]]) (by simp [results, Try.results14, go_sem]) rfl ?_
        rw [HQ.out]
        exact HFin2.out _ (below_dw (by go_grown))
      | false =>
        have HQ : Hid (acV c n = (0, c)) := Lib.hid (by rw [(HA _ _ _ e1 e2 e3).out, if_neg (by decide), if_neg (by decide)])
        clear HA
        go_enter Try.func14, Try.ntmps14
        go_wp2_with fail
        go_region
        go_wp2_with fail
        refine bodyPost_ret (v := .tuple #[.int .i64 0, .agg #[.int .i64 c.e, .int .i64 c.p, .slice mA c.ms.length mc, .slice sA c.sf.length sc]]) (by simp [results, Try.results14, go_sem]) rfl ?_
        rw [HQ.out]
        exact HFin.out _ (below_dw (by go_grown)) 0
end
end Go.Proofs.Ytcgkbpjfbahleaa
