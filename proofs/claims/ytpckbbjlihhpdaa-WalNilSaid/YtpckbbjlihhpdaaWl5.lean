/- The program's keepOnly, lay, greatest, above. -/
import Derived.Test.YtpckbbjlihhpdaaWl4
namespace Go.Proofs.Ytpckbbjlihhpdaa
open Go.RowKit Go.BigFrame

/-- The disk, seen from the world w, in which its blocks were B. -/
def Dw (w : World) (B : Nat → Prop) (d : Nat) (a : Ad) (wr : World) : Prop := ∃ B', DD wr B' d a ∧ Tn B w wr ∧ ∀ k, B' k → B k ∨ w.heap.size ≤ k
section
variable {w wx wy : World} {B : Nat → Prop} {d : Nat} {a a' : Ad} {r : Int} {f : Nat} {args : Array Value}
theorem Dw.start (h : DD w B d a) : Dw w B d a w := ⟨B, h, Tn.refl _ _, fun _ h => .inl h⟩
theorem Dw.tn (h : Dw w B d a wx) : Tn B w wx := by obtain ⟨B', D, t, _⟩ := h; exact t
theorem Dw.below (h : Dw w B d a wx) (hb : Below wx.heap.size wx wy) : Dw w B d a wy := by
  obtain ⟨B', D, t, hB⟩ := h
  exact ⟨B', D.below hb, t.then (Tn.ofNew hb), hB⟩
theorem Dw.step (h : Dw w B d a wx) (H : ∀ B', DD wx B' d a → (∀ k, B' k → B k ∨ w.heap.size ≤ k) → Calls Try.prog f args wx (Dn wx B' d r a')) : Calls Try.prog f args wx fun e w' => e = .returned (.int .i64 r) ∧ Dw w B d a' w' := by
  obtain ⟨B', D, t, hB⟩ := h
  refine (H B' D hB).mono ?_
  rintro e w' ⟨rfl, B2, D2, t2, hB2⟩
  have hs := t.size
  exact ⟨rfl, B2, D2, t.thenQ t2 fun k hk hb => (hB k hb).elim id fun h => absurd hk (by omega), fun k hk => (hB2 k hk).elim (hB k) fun h => .inr (by omega)⟩
theorem Dw.of (hb : Below w.heap.size w wx) (h : Calls Try.prog f args wx (Dn wx B d r a')) : Calls Try.prog f args wx fun e w' => e = .returned (.int .i64 r) ∧ Dw w B d a' w' := by
  refine h.mono ?_
  rintro e w' ⟨rfl, B', D', t, hB⟩
  exact ⟨rfl, B', D', (Tn.ofNew hb).then t, fun k hk => (hB k hk).elim .inl fun h => .inr (Nat.le_trans hb.size h)⟩
theorem Dw.dn (h : Dw w B d a wx) (r : Int) : Dn w B d r a (.returned (.int .i64 r)) wx := by
  obtain ⟨B', D, t, hB⟩ := h
  exact ⟨rfl, B', D, t, hB⟩
end
theorem sr_tn {w w' : World} {P : Nat → Prop} {K c : Nat} {A : Option Addr} {l : List Int} (h : Sr encI 1 w K A c l) (t : Tn P w w') (hf : 0 < l.length → ∀ ad : Addr, A = some ad → ¬ P ad.block) : Sr encI 1 w' K A c l :=
  ⟨h.le, h.max, h.nil, fun hn => by
    obtain ⟨ad, e, hb, hc⟩ := h.at_ hn
    exact ⟨ad, e, hb, fun i x hi j u hu => t.cell (hc i x hi j u hu) (by rw [block_of_add]; exact hf hn ad e)⟩⟩
/-- Segments are dropped, one behind the other. -/
def dropsA : Int × Ad → List Int → Int × Ad
  | p, [] => p
  | p, o :: os => if p.1 = 0 then dropsA (opD dropA p.2 o) os else p
def keepA (a : Ad) (n : Int) (os : List Int) : Int × Ad := dropsA (opD syncA a n) os
def layA (a : Ad) (n : Int) (b : List UInt8) (os : List Int) : Int × Ad := if (appD a n b).1 = 0 then keepA (appD a n b).2 n os else appD a n b
theorem drops_stop {p : Int × Ad} (h : ¬ p.1 = 0) (os : List Int) : dropsA p os = p := by
  cases os with
  | nil => rfl
  | cons o os => simp [dropsA, h]
section
variable {w : World} {B : Nat → Prop} {d c K : Nat} {a a' : Ad} {A : Option Addr} {n r : Int} {os : List Int}
theorem greatest_nil : Calls Try.prog 37 #[.slice A 0 c] w fun e w' => e = .returned (.int .i64 0) ∧ w' = w := by
  go_enter Try.func37, Try.ntmps37
  go_wp2
  go_ret
  exact ⟨rfl, rfl⟩
theorem greatest_any {g : Nat} {x : Int} (so : So encI 1 w K 3 (.slice (some ⟨g, 0, none⟩) os.length c) os) (hx : os[os.length - 1]? = some x) : Calls Try.prog 37 #[.slice (some ⟨g, 0, none⟩) os.length c] w fun e w' => e = .returned (.int .i64 x) ∧ w' = w := by
  have x1 := so_slot so hx
  have hc := (so.sr encI_len).1.le
  have hm := (so.sr encI_len).1.max
  unfold maxLen at hm
  have hl := (List.getElem?_eq_some_iff.1 hx).1
  clear so hx
  have e0 : ((os.length : Int) == 0) = false := beq_false_of_ne (by omega)
  have e1 : (os.length : Int) - 1 = ((os.length - 1 : Nat) : Int) := by omega
  generalize os.length - 1 = q at x1 e1 hl
  have E1 := Lib.hid e1
  clear e1
  go_enter Try.func37, Try.ntmps37
  have e1 := E1.out
  go_wp2
  go_ret
  exact ⟨rfl, rfl⟩
theorem above_max : Calls Try.prog 38 #[.int .i64 9223372036854775807] w fun e w' => e = .returned (.int .i64 0) ∧ w' = w := by
  go_enter Try.func38, Try.ntmps38
  go_wp2
  go_ret
  exact ⟨rfl, rfl⟩
theorem above_any (h1 : -9223372036854775808 ≤ n) (h2 : n < 9223372036854775807) : Calls Try.prog 38 #[.int .i64 n] w fun e w' => e = .returned (.int .i64 (n + 1)) ∧ w' = w := by
  have e0 : (n == 9223372036854775807) = false := by simp; omega
  go_enter Try.func38, Try.ntmps38
  go_wp2
  go_ret
  exact ⟨rfl, rfl⟩
set_option maxRecDepth 100000 in
set_option maxHeartbeats 3200000 in
theorem keep_any (D : DD w B d a) (hn1 : -9223372036854775808 ≤ n) (hn2 : n ≤ 9223372036854775807) (sr : Sr encI 1 w K A c os) (hfar : 0 < os.length → ∀ ad : Addr, A = some ad → ¬ B ad.block) (hos : ∀ o ∈ os, -9223372036854775808 ≤ o ∧ o ≤ 9223372036854775807) (hr : keepA a n os = (r, a')) :
    Calls Try.prog 48 #[dP d, .int .i64 n, .slice A os.length c] w (Dn w B d r a') := by
  have hcl := sr.le
  have hcm := sr.max
  unfold maxLen at hcm
  obtain ⟨r0, a0, h0⟩ : ∃ r0 a0, opD syncA a n = (r0, a0) := ⟨_, _, rfl⟩
  unfold keepA at hr
  rw [h0] at hr
  have HR := Lib.hid hr
  have HS := Lib.hid ((Dw.start D).step fun B' D' _ => sync_DD D' hn1 hn2 h0)
  have HSR := Lib.hid sr
  have HF := Lib.hid hfar
  clear hr h0 D sr hfar
  go_enter Try.func48, Try.ntmps48
  go_wp2_with (go_at_call 23; refine HS.out.mono ?_; rintro e w1 ⟨rfl, D1⟩; have HD1 := Lib.hid D1; clear D1)
  go_loopw [15, 7] (fun iv ev wr => ∃ (i : Nat) (r1 : Int) (a1 : Ad), iv = .int .i64 (i : Int) ∧ ev = .int .i64 r1 ∧ i ≤ os.length ∧ Hid (dropsA (r1, a1) (os.drop i) = (r, a')) ∧ Hid (Dw w B d a1 wr)) (fun iv _ _ => os.length - (intOf iv).toNat)
  case atStart => exact ⟨0, r0, a0, rfl, rfl, Nat.zero_le _, HR, HD1⟩
  case round =>
    obtain ⟨i, r1, a1, rfl, rfl, hi, HR1, HD⟩ := hrel
    rename World => wr
    clear HD1 HS HR
    by_cases hlt : i < os.length
    · have i1 : (i : Int) < os.length := by omega
      have sr2 : Sr encI 1 wr K A c os := sr_tn HSR.out HD.out.tn HF.out
      obtain ⟨ad, e2, had, hcell⟩ := sr2.get hlt
      subst e2
      have x1 : wr.cell? (ad.add i) = some (.int .i64 os[i]) := by have := hcell 0 _ rfl; simpa using this
      have ho := hos os[i] (List.getElem_mem hlt)
      have hdr : os.drop i = os[i] :: os.drop (i + 1) := List.drop_eq_getElem_cons hlt
      have HDR := Lib.hid hdr
      generalize os[i] = o at x1 ho HDR
      clear hcell sr2 hdr
      by_cases hr0 : r1 = 0
      · subst hr0
        obtain ⟨r2, a2, h2⟩ : ∃ r2 a2, opD dropA a1 o = (r2, a2) := ⟨_, _, rfl⟩
        have HN : Hid (dropsA (r2, a2) (os.drop (i + 1)) = (r, a')) := Lib.hid (by have := HR1.out; rw [HDR.out] at this; simpa [dropsA, h2] using this)
        have HC := Lib.hid (HD.out.step fun B' D' _ => drop_DD D' ho.1 ho.2 h2)
        clear h2 HR1 HDR ho
        go_wp2_with (go_at_call 27; refine HC.out.mono ?_; rintro e w2 ⟨rfl, D2⟩; have HD2 := Lib.hid D2; clear D2)
        go_roundw
        case rel => exact ⟨i + 1, r2, a2, by go_num, rfl, hlt, HN, HD2⟩
        case measure => simp [intOf]; omega
      · have q0 : (r1 == (0 : Int)) = false := by simpa using hr0
        have HN : Hid ((r1, a1) = (r, a')) := Lib.hid (by rw [← HR1.out, drops_stop hr0])
        clear hr0 HR1 HDR ho
        go_wp2
        (try rw [Exit.noGoto_ret])
        go_ret
        obtain ⟨rfl, rfl⟩ := Prod.mk.inj HN.out
        exact HD.out.dn _
    · obtain rfl : i = os.length := by omega
      have HN : Hid ((r1, a1) = (r, a')) := Lib.hid (by rw [← HR1.out, List.drop_length]; rfl)
      clear HR1
      go_wp2
      go_ret
      obtain ⟨rfl, rfl⟩ := Prod.mk.inj HN.out
      exact HD.out.dn _
set_option maxRecDepth 100000 in
set_option maxHeartbeats 3200000 in
theorem lay_any {A1 A2 : Option Addr} {c1 c2 K1 : Nat} {base : List UInt8} {rs : List (List UInt8)} (D : DD w B d a) (hn1 : -9223372036854775808 ≤ n) (hn2 : n ≤ 9223372036854775807) (hb : Bs w K1 A1 c1 base) (hrr : Rr w K1 A2 c2 rs) (hK1 : K1 ≤ w.heap.size) (hl : base.length ≤ 1048576) (hrl : ∀ x ∈ rs, x.length ≤ 1048576) (hsz : (framesB base rs).length ≤ 140737488355328)
    (sr : Sr encI 1 w K A c os) (hKw : K ≤ w.heap.size) (hfar : 0 < os.length → ∀ ad : Addr, A = some ad → ¬ B ad.block) (hos : ∀ o ∈ os, -9223372036854775808 ≤ o ∧ o ≤ 9223372036854775807) (hr : layA a n (framesB base rs) os = (r, a')) :
    Calls Try.prog 39 #[dP d, .int .i64 n, .agg #[.slice A1 base.length c1, .slice A2 rs.length c2], .slice A os.length c] w (Dn w B d r a') := by
  have hbl := hb.le
  have hrle := hrr.le
  obtain ⟨L9, hL9⟩ : ∃ L9, L9 = framesB base rs := ⟨_, rfl⟩
  obtain ⟨r0, a0, h0⟩ : ∃ r0 a0, appD a n L9 = (r0, a0) := ⟨_, _, rfl⟩
  have hw1 : Below K1 w (w.alloc (.cells #[.slice A1 base.length c1, .slice A2 rs.length c2] 78)) := (Below.refl _ _).alloc hK1 _
  have hF := frames_any K1 A1 c1 base A2 c2 rs _ (hb.below hw1) (hrr.below hw1) (by simp; omega) hl hrl hsz
  rw [← hL9] at hF hr
  have HFR := Lib.hid hF
  have HW1 : Hid (Below w.heap.size w (w.alloc (.cells #[.slice A1 base.length c1, .slice A2 rs.length c2] 78))) := Lib.hid ((Below.refl _ _).alloc (Nat.le_refl _) _)
  have HD := Lib.hid D
  have HSR := Lib.hid sr
  have HF := Lib.hid hfar
  have HOS := Lib.hid hos
  unfold layA at hr
  rw [h0] at hr
  have HR := Lib.hid hr
  have H0 := Lib.hid h0
  have hD1 : ∀ k, B k → k < w.heap.size := D.bt
  clear hw1 hF hL9 hr h0 D sr hfar hos hb hrr hrl hsz
  go_enter Try.func39, Try.ntmps39
  go_wp2_with (go_at_call 47; refine HFR.out.mono ?_; rintro e w1 ⟨A3, c3, rfl, ho1, hb1⟩; have HB1 : Hid (Below w.heap.size w w1) := Lib.hid (HW1.out.trans (hb1.mono HW1.out.size)); have z1 := HB1.out.size; have HO1 := Lib.hid ho1; have zz : w.heap.size < w1.heap.size := (by have := hb1.size; simp at this; omega); clear ho1 hb1)
  refine (Dw.of HB1.out (app_DD (HD.out.below HB1.out) hn2 HO1.out.bs.1 rfl (fun hl ad e hb => ?_) H0.out)).mono ?_
  · have h5 := own_block HO1.out hl e rfl
    have h6 := hD1 _ hb
    have h7 := h5.1
    simp at h7
    omega
  rintro e w2 ⟨rfl, D2⟩
  have HD2 := Lib.hid D2
  clear D2
  by_cases hr0 : r0 = 0
  · subst hr0
    have HK := HR.out
    rw [if_pos rfl] at HK
    have sr2 := sr_tn HSR.out HD2.out.tn HF.out
    have HSR2 := Lib.hid sr2
    have HKK := Lib.hid HK
    have HC := Lib.hid (HD2.out.step (r := r) (a' := a') fun B' D' hB' => keep_any D' hn1 hn2 HSR2.out (fun hl ad e hb => by
      obtain ⟨ad', e', hbk, _⟩ := HSR.out.at_ hl
      rw [e] at e'
      cases e'
      exact (hB' _ hb).elim (HF.out hl ad e) fun h => by omega) HOS.out HKK.out)
    clear HK sr2
    go_wp2_with (go_at_call 48; refine HC.out.mono ?_; rintro e w3 ⟨rfl, D3⟩; have HD3 := Lib.hid D3; clear D3)
    go_ret
    exact HD3.out.dn _
  · have q0 : (r0 == (0 : Int)) = false := by simpa using hr0
    have HN : Hid ((r0, a0) = (r, a')) := Lib.hid (by have := HR.out; rw [if_neg hr0] at this; exact this)
    clear hr0 HR
    go_wp2
    go_ret
    obtain ⟨rfl, rfl⟩ := Prod.mk.inj HN.out
    exact HD2.out.dn _
end
end Go.Proofs.Ytpckbbjlihhpdaa
