/- The program's Open of a log that is laid anew. -/
import Derived.Test.YtpckbbjlihhpdaaWl6
namespace Go.Proofs.Ytpckbbjlihhpdaa
open Go.RowKit Go.BigFrame

section
variable {w wx : World} {B : Nat → Prop} {d c K : Nat} {a a' : Ad} {A : Option Addr} {r : Int} {L : List As}
theorem greatest_seg (so : So encI 1 wx K 3 (.slice A L.length c) (L.map As.n)) : Calls Try.prog 37 #[.slice A L.length c] wx fun e w' => e = .returned (.int .i64 (grA L)) ∧ w' = wx := by
  by_cases hL : 0 < L.length
  · obtain ⟨g, rfl⟩ := so_addr so (by simpa using hL)
    obtain ⟨sg, hsg⟩ : ∃ sg, (L.map As.n)[L.length - 1]? = some sg := ⟨_, List.getElem?_eq_getElem (by simp; omega)⟩
    have hsg2 : grA L = sg := by unfold grA; rw [hsg]; rfl
    rw [hsg2]
    have h1 := greatest_any (x := sg) (by rw [List.length_map]; exact so) (by rw [List.length_map]; exact hsg)
    rwa [List.length_map] at h1
  · obtain rfl : L = [] := List.eq_nil_of_length_eq_zero (by omega)
    exact greatest_nil
theorem above_seg {n : Int} (h1 : 0 ≤ n) (h2 : n ≤ 9223372036854775807) : Calls Try.prog 38 #[.int .i64 n] wx fun e w' => e = .returned (.int .i64 (abv n)) ∧ w' = wx := by
  unfold abv
  by_cases h : n = 9223372036854775807
  · rw [if_pos h, h]
    exact above_max
  · rw [if_neg h]
    exact above_any (by omega) (by omega)
theorem abv_range {n : Int} (h1 : 0 ≤ n) (h2 : n ≤ 9223372036854775807) : 0 ≤ abv n ∧ abv n ≤ 9223372036854775807 := by
  unfold abv
  split <;> omega
theorem grA_range (D : DD wx B d a) : 0 ≤ grA a.L ∧ grA a.L ≤ 9223372036854775807 := by
  unfold grA
  cases h : (a.L.map As.n)[a.L.length - 1]? with
  | none => simp
  | some x =>
    have := segs_le D x (List.mem_of_getElem? h)
    simp
    omega
theorem lgA_bounds (D : DD wx B d a) : (lgA a.L).1.length ≤ 1048576 ∧ (∀ x ∈ (lgA a.L).2, x.length ≤ 1048576) ∧ (recsB (lgA a.L).2).length ≤ 67108864 := by
  unfold lgA
  cases h : newA a.L with
  | none => exact ⟨by simp, fun x hx => (by cases hx), by simp [recsB]⟩
  | some q =>
    obtain ⟨x, b, rs, n⟩ := q
    have h1 := newA_at h
    have h2 := readB_bounds h1.2
    have h3 := sum_mem h1.1
    have h4 := D.le
    have h5 := D.rm
    exact ⟨h2.1, h2.2.1, by simp only; omega⟩
theorem new_post2 {e : Ending} (h : NewPost w L e wx) (hal : aloneA L = false) : Below w.heap.size w wx ∧ ∃ A1 c1 A2 c2, e = .returned (.tuple #[.agg #[.slice A1 (lgA L).1.length c1, .slice A2 (lgA L).2.length c2], .bool false, .int .i64 0]) ∧ Ob wx w.heap.size (.slice A1 (lgA L).1.length c1) (lgA L).1 ∧ Rw wx w.heap.size 30 (.slice A2 (lgA L).2.length c2) (lgA L).2 := by
  obtain ⟨hb, h⟩ := h
  refine ⟨hb, ?_⟩
  rcases h with ⟨h9, rfl⟩ | ⟨x, base, rs, n, A1, c1, A2, c2, h9, rfl, ob, rw_⟩
  · unfold lgA
    rw [h9]
    exact ⟨none, 0, none, 0, rfl, Ob.empty _ _, Rw.empty _ _ _⟩
  · unfold aloneA at hal
    rw [h9] at hal
    simp only at hal
    unfold lgA
    rw [h9, hal]
    exact ⟨A1, c1, A2, c2, rfl, ob, rw_⟩
/-- What Open leaves, where a log is laid anew. -/
def LaidP (w : World) (B : Nat → Prop) (d : Nat) (seg : Int) (base : List UInt8) (rs : List (List UInt8)) (r : Int) (a' : Ad) (e : Ending) (w' : World) : Prop :=
  (r = 0 ∧ ∃ p B', OutP w w' d seg base rs e p ∧ DD w' B' d a' ∧ Tn B w w' ∧ (∀ k, B' k → B k ∨ w.heap.size ≤ k) ∧ ¬ B' p) ∨
  (r ≠ 0 ∧ e = .returned (.tuple #[.pointer none, .slice none 0 0, .slice none 0 0, .int .i64 r]) ∧ Dw w B d a' w')
set_option maxRecDepth 100000 in
set_option maxHeartbeats 6400000 in
theorem open_lay (D : DD w B d a) (hd : a.down = false) (hal : aloneA a.L = false) (hr : layA a (abv (grA a.L)) (framesB (lgA a.L).1 (lgA a.L).2) (a.L.map As.n) = (r, a')) :
    Calls Try.prog 13 #[dP d] w (LaidP w B d (abv (grA a.L)) (lgA a.L).1 (lgA a.L).2 r a') := by
  have HAL := Lib.hid hal
  have HD := Lib.hid D
  have HBT : Hid (∀ k, B k → k < w.heap.size) := Lib.hid D.bt
  have hgr := grA_range D
  have hbnd := lgA_bounds D
  have hsl := segs_le D
  have HA := Lib.hid (abv_range hgr.1 hgr.2)
  have HGR := Lib.hid hgr
  have HBND := Lib.hid hbnd
  have HSL := Lib.hid hsl
  have HR := Lib.hid hr
  have HDN := Lib.hid hd
  obtain ⟨sg, hsg⟩ : ∃ sg, grA a.L = sg := ⟨_, rfl⟩
  have HSG := Lib.hid hsg
  rw [hsg] at HGR HA HR ⊢
  obtain ⟨sn, hsn⟩ : ∃ sn, abv sg = sn := ⟨_, rfl⟩
  have HAC : Hid (∀ W : World, Calls Try.prog 38 #[.int .i64 sg] W fun e w' => e = .returned (.int .i64 sn) ∧ w' = W) := Lib.hid fun W => by
    rw [← hsn]
    exact above_seg HGR.out.1 HGR.out.2
  rw [hsn] at HA HR ⊢
  clear D hal hgr hbnd hsl hr hsg hsn HGR
  go_enter Try.func13, Try.ntmps13
  go_wp2_with fail
  refine (segs_DD HD.out HDN.out).mono ?_
  rintro e w1 ⟨v, rfl, so, b1⟩
  obtain ⟨A, c, hv⟩ := so.form
  subst hv
  simp only [List.length_map] at so ⊢
  have HSO := Lib.hid so
  have HB1 := Lib.hid b1
  clear so b1
  go_wp2_with fail
  refine (newest_any (HD.out.below HB1.out) HDN.out HSO.out).mono ?_
  rintro e w2 hnp
  obtain ⟨b2, A1, c1, A2, c2, rfl, ob, rw_⟩ := new_post2 hnp HAL.out
  have HB2 : Hid (Below w.heap.size w w2) := Lib.hid (HB1.out.trans (b2.mono HB1.out.size))
  have HSO2 := Lib.hid (HSO.out.below b2)
  have HOB := Lib.hid (ob.more (K' := w.heap.size) HB1.out.size)
  have HRW := Lib.hid (rw_.more (K' := w.heap.size) HB1.out.size)
  have hz2 := HB2.out.size
  have hcl1 := ob.bs.1.le
  have hcl2 := rw_.pr.1.le
  clear ob rw_ b2 hnp hd
  have HGC : Hid (∀ o : Obj, Calls Try.prog 37 #[.slice A a.L.length c] (w2.alloc o) fun e w' => e = .returned (.int .i64 sg) ∧ w' = w2.alloc o) := Lib.hid fun o => by
    rw [← HSG.out]
    exact greatest_seg (HSO2.out.alloc o)
  go_wp2_with (first
    | (go_at_call 37; refine (HGC.out _).mono ?_; rintro e w3 ⟨rfl, rfl⟩)
    | (go_at_call 38; refine (HAC.out _).mono ?_; rintro e w3 ⟨rfl, rfl⟩))
  obtain ⟨o7, ho7⟩ : ∃ o7 : Obj, o7 = .cells #[.slice A1 (lgA a.L).1.length c1, .slice A2 (lgA a.L).2.length c2] 78 := ⟨_, rfl⟩
  have HB3 : Hid (Below w2.heap.size w2 (w2.alloc o7)) := Lib.hid ((Below.refl _ _).alloc (Nat.le_refl _) _)
  have HLY : Hid (Calls Try.prog 39 #[dP d, .int .i64 sn, .agg #[.slice A1 (lgA a.L).1.length c1, .slice A2 (lgA a.L).2.length c2], .slice A a.L.length c] (w2.alloc o7) (Dn (w2.alloc o7) B d r a')) := Lib.hid (by
    have hD3 : DD (w2.alloc o7) B d a := (HD.out.below HB2.out).alloc _
    have hs3 := (HSO2.out.alloc o7).sr encI_len
    have hfar : 0 < (a.L.map As.n).length → ∀ ad : Addr, A = some ad → ¬ B ad.block := fun hl ad e hb => by
      have h1 := HSO2.out
      subst e
      have h2 := (h1.lt ad.block rfl).1
      have h3 := HBT.out _ hb
      have h4 := HB1.out.size
      omega
    have h := lay_any (K := (w2.alloc o7).heap.size) (n := sn) (os := a.L.map As.n) hD3 (by have := HA.out; omega) HA.out.2 (HOB.out.alloc o7).bs.1 (HRW.out.alloc o7).pr.1 (Nat.le_refl _) HBND.out.1 HBND.out.2.1 (by rw [framesB_len]; have h1 := HBND.out.1; have h2 := HBND.out.2.2; omega) hs3.1 (Nat.le_refl _) hfar (fun o ho => by have := HSL.out o ho; omega) HR.out
    rw [List.length_map] at h
    exact h)
  clear HGC HAC HSO HSO2 HSL HA HR
  rw [← ho7]
  go_at_call 39
  refine HLY.out.mono ?_
  rintro e w4 ⟨rfl, B4, D4, t4, hB4⟩
  have HB30 : Hid (Below w.heap.size w (w2.alloc o7)) := Lib.hid (HB2.out.alloc hz2 _)
  have hnB : ¬ B w2.heap.size := fun h => by have := HBT.out _ h; omega
  have hx0 : (w2.alloc o7).cell? ⟨w2.heap.size, 0, none⟩ = some (.slice A1 (lgA a.L).1.length c1) := by rw [ho7]; simp [go_sem]
  have hx1 : (w2.alloc o7).cell? ⟨w2.heap.size, 1, none⟩ = some (.slice A2 (lgA a.L).2.length c2) := by rw [ho7]; simp [go_sem]
  have x0 := t4.cell hx0 hnB
  have x1 := t4.cell hx1 hnB
  have hz4 : w2.heap.size < w4.heap.size := by have := t4.size; simp at this; omega
  have HT4 : Hid (Tn B w w4) := Lib.hid ((Tn.ofNew HB30.out).then t4)
  have HBB : Hid (∀ k, B4 k → B k ∨ w.heap.size ≤ k) := Lib.hid fun k hk => (hB4 k hk).elim .inl fun h => .inr (by have := HB30.out.size; omega)
  have HD4 := Lib.hid D4
  have HOB4 := Lib.hid (t4.ob (HOB.out.alloc o7) fun g hg hb => by have h1 := (HOB.out.lt g hg).1; have h2 := HBT.out _ hb; omega)
  have HRW4 := Lib.hid ((HRW.out.alloc o7).tn t4 fun k hk hb => by have h2 := HBT.out _ hb; omega)
  clear HLY hx0 hx1 hnB D4 t4 hB4 HOB HRW HB3 HB30 ho7
  by_cases hr0 : r = 0
  · subst hr0
    have HFIN : Hid (∀ o : Obj, Ob ((w4.alloc o).drew) w.heap.size (.slice A1 (lgA a.L).1.length c1) (lgA a.L).1 ∧ Rw ((w4.alloc o).drew) w.heap.size 30 (.slice A2 (lgA a.L).2.length c2) (lgA a.L).2 ∧ DD ((w4.alloc o).drew) B4 d a' ∧ Tn B w ((w4.alloc o).drew)) := Lib.hid fun o =>
      have hb : Below w4.heap.size w4 ((w4.alloc o).drew) := ((Below.refl w4.heap.size w4).alloc (Nat.le_refl _) o).trans ⟨rfl, rfl, rfl, Nat.le_refl _, fun _ _ => rfl⟩
      ⟨HOB4.out.below hb, HRW4.out.below hb, HD4.out.below hb, HT4.out.then (Tn.ofNew hb)⟩
    have HBT4 : Hid (∀ k, B4 k → k < w4.heap.size) := Lib.hid HD4.out.bt
    have hsw : w.heap.size ≤ w4.heap.size := HT4.out.size
    clear HOB4 HRW4 HD4 HT4 HD HB1 HB2 HBT HBND
    go_wp2_with fail
    go_region
    go_wp2_with fail
    refine bodyPost_ret (v := .tuple #[wP w4.heap.size, .slice A1 (lgA a.L).1.length c1, .slice A2 (lgA a.L).2.length c2, .int .i64 0]) (by simp [results, Try.results13, go_sem]) rfl ?_
    obtain ⟨f1, f2, f3, f4⟩ := HFIN.out (.cells #[dP d, .int .i64 sn] 84)
    exact .inl ⟨rfl, w4.heap.size, B4, ⟨A1, c1, A2, c2, rfl, ⟨by simp [go_sem], by simp [go_sem], fun j => by simp [go_sem]⟩, hsw, by simp [go_sem], f1, f2⟩, f3, f4, HBB.out, fun h => Nat.lt_irrefl _ (HBT4.out _ h)⟩
  · have q0 : (r == (0 : Int)) = false := by simpa using hr0
    have HFIN : Hid (Dw w B d a' w4) := Lib.hid ⟨B4, HD4.out, HT4.out, HBB.out⟩
    have HR0 := Lib.hid hr0
    clear hr0 HOB4 HRW4 HD4 HT4 HD HB1 HB2 HBT HBND
    go_wp2_with fail
    refine bodyPost_ret (v := .tuple #[.pointer none, .slice none 0 0, .slice none 0 0, .int .i64 r]) (by simp [results, Try.results13, go_sem]) rfl ?_
    exact .inr ⟨HR0.out, rfl, HFIN.out⟩
end
end Go.Proofs.Ytpckbbjlihhpdaa
