/- A law for a statement whose order is open, whose operations only make new memory, but for the last but one, a call that waits for all others and turns memory, and whose result the last one takes. -/
import Derived.Test.YtkkaehaoahpibaaPk16
import Derived.Test.YtkkaehaoahpibaaPk15
import Derived.Test.YtkkaehaoahpibaaPk3
namespace Go.Proofs.Ytkkaehaoahpibaa
open Go.RowKit Go.BigFrame

/-- The disk, seen from the world w, in which its blocks were B. -/
def Dw (w : World) (B : Nat → Prop) (d : Nat) (a : Ad) (wr : World) : Prop := ∃ B', DD wr B' d a ∧ Tn B w wr ∧ ∀ k, B' k → B k ∨ w.heap.size ≤ k
section
variable {w wx wy : World} {B : Nat → Prop} {d : Nat} {a a' : Ad} {r : Int} {f : Nat} {args : Array Value}
theorem Dw.start (h : DD w B d a) : Dw w B d a w := ⟨B, h, Tn.refl _ _, fun _ h => .inl h⟩
theorem Dw.tn (h : Dw w B d a wx) : Tn B w wx := by obtain ⟨B', D, t, _⟩ := h; exact t
theorem Dw.below (h : Dw w B d a wx) (hb : Below wx.heap.size wx wy) : Dw w B d a wy := by
  obtain ⟨B', D, t, hB⟩ := h
  exact ⟨B', D.below hb, t.then (Tn.ofNew hb), hB⟩
theorem Dw.step (h : Dw w B d a wx) (H : ∀ B', DD wx B' d a → (∀ k, B' k → B k ∨ w.heap.size ≤ k) → Calls Try.prog f args wx (Dn wx B' d r a')) : Calls Try.prog f args wx fun e w' => e = .returned (.int .i64 r) ∧ Dw w B d a' w' := by
  obtain ⟨B', D, t, hB⟩ := h
  refine (H B' D hB).mono ?_
  rintro e w' ⟨rfl, B2, D2, t2, hB2⟩
  have hs := t.size
  exact ⟨rfl, B2, D2, t.thenQ t2 fun k hk hb => (hB k hb).elim id fun h => absurd hk (by omega), fun k hk => (hB2 k hk).elim (hB k) fun h => .inr (by omega)⟩
theorem Dw.of (hb : Below w.heap.size w wx) (h : Calls Try.prog f args wx (Dn wx B d r a')) : Calls Try.prog f args wx fun e w' => e = .returned (.int .i64 r) ∧ Dw w B d a' w' := by
  refine h.mono ?_
  rintro e w' ⟨rfl, B', D', t, hB⟩
  exact ⟨rfl, B', D', (Tn.ofNew hb).then t, fun k hk => (hB k hk).elim .inl fun h => .inr (Nat.le_trans hb.size h)⟩
theorem Dw.dn (h : Dw w B d a wx) (r : Int) : Dn w B d r a (.returned (.int .i64 r)) wx := by
  obtain ⟨B', D, t, hB⟩ := h
  exact ⟨rfl, B', D, t, hB⟩
end
theorem sr_tn {w w' : World} {P : Nat → Prop} {K c : Nat} {A : Option Addr} {l : List Int} (h : Sr encI 1 w K A c l) (t : Tn P w w') (hf : 0 < l.length → ∀ ad : Addr, A = some ad → ¬ P ad.block) : Sr encI 1 w' K A c l :=
  ⟨h.le, h.max, h.nil, fun hn => by
    obtain ⟨ad, e, hb, hc⟩ := h.at_ hn
    exact ⟨ad, e, hb, fun i x hi j u hu => t.cell (hc i x hi j u hu) (by rw [block_of_add]; exact hf hn ad e)⟩⟩
/-- Segments are dropped, one behind the other. -/
def dropsA : Int × Ad → List Int → Int × Ad
  | p, [] => p
  | p, o :: os => if p.1 = 0 then dropsA (opD dropA p.2 o) os else p
def keepA (a : Ad) (n : Int) (os : List Int) : Int × Ad := dropsA (opD syncA a n) os
def layA (a : Ad) (n : Int) (b : List UInt8) (os : List Int) : Int × Ad := if (appD a n b).1 = 0 then keepA (appD a n b).2 n os else appD a n b
theorem drops_stop {p : Int × Ad} (h : ¬ p.1 = 0) (os : List Int) : dropsA p os = p := by
  cases os with
  | nil => rfl
  | cons o os => simp [dropsA, h]
section
variable {w : World} {B : Nat → Prop} {d c K : Nat} {a a' : Ad} {A : Option Addr} {n r : Int} {os : List Int}
theorem greatest_nil : Calls Try.prog 28 #[.slice A 0 c] w fun e w' => e = .returned (.int .i64 0) ∧ w' = w := by
  go_enter Try.func28, Try.ntmps28
  go_wp2
  go_ret
  exact ⟨rfl, rfl⟩
theorem greatest_any {g : Nat} {x : Int} (so : So encI 1 w K 3 (.slice (some ⟨g, 0, none⟩) os.length c) os) (hx : os[os.length - 1]? = some x) : Calls Try.prog 28 #[.slice (some ⟨g, 0, none⟩) os.length c] w fun e w' => e = .returned (.int .i64 x) ∧ w' = w := by
  have x1 := so_slot so hx
  have hc := (so.sr encI_len).1.le
  have hm := (so.sr encI_len).1.max
  unfold maxLen at hm
  have hl := (List.getElem?_eq_some_iff.1 hx).1
  clear so hx
  have e0 : ((os.length : Int) == 0) = false := beq_false_of_ne (by omega)
  have e1 : (os.length : Int) - 1 = ((os.length - 1 : Nat) : Int) := by omega
  generalize os.length - 1 = q at x1 e1 hl
  have E1 := Lib.hid e1
  clear e1
  go_enter Try.func28, Try.ntmps28
  have e1 := E1.out
  go_wp2
  go_ret
  exact ⟨rfl, rfl⟩
theorem above_max : Calls Try.prog 29 #[.int .i64 9223372036854775807] w fun e w' => e = .returned (.int .i64 0) ∧ w' = w := by
  go_enter Try.func29, Try.ntmps29
  go_wp2
  go_ret
  exact ⟨rfl, rfl⟩
theorem above_any (h1 : -9223372036854775808 ≤ n) (h2 : n < 9223372036854775807) : Calls Try.prog 29 #[.int .i64 n] w fun e w' => e = .returned (.int .i64 (n + 1)) ∧ w' = w := by
  have e0 : (n == 9223372036854775807) = false := by simp; omega
  go_enter Try.func29, Try.ntmps29
  go_wp2
  go_ret
  exact ⟨rfl, rfl⟩
set_option maxRecDepth 100000 in
set_option maxHeartbeats 3200000 in
theorem keep_any (D : DD w B d a) (hn1 : -9223372036854775808 ≤ n) (hn2 : n ≤ 9223372036854775807) (sr : Sr encI 1 w K A c os) (hfar : 0 < os.length → ∀ ad : Addr, A = some ad → ¬ B ad.block) (hos : ∀ o ∈ os, -9223372036854775808 ≤ o ∧ o ≤ 9223372036854775807) (hr : keepA a n os = (r, a')) :
    Calls Try.prog 44 #[dP d, .int .i64 n, .slice A os.length c] w (Dn w B d r a') := by
  have hcl := sr.le
  have hcm := sr.max
  unfold maxLen at hcm
  obtain ⟨r0, a0, h0⟩ : ∃ r0 a0, opD syncA a n = (r0, a0) := ⟨_, _, rfl⟩
  unfold keepA at hr
  rw [h0] at hr
  have HR := Lib.hid hr
  have HS := Lib.hid ((Dw.start D).step fun B' D' _ => sync_DD D' hn1 hn2 h0)
  have HSR := Lib.hid sr
  have HF := Lib.hid hfar
  clear hr h0 D sr hfar
  go_enter Try.func44, Try.ntmps44
  go_wp2_with (go_at_call 21; refine HS.out.mono ?_; rintro e w1 ⟨rfl, D1⟩; have HD1 := Lib.hid D1; clear D1)
  go_loopw [15, 7] (fun iv ev wr => ∃ (i : Nat) (r1 : Int) (a1 : Ad), iv = .int .i64 (i : Int) ∧ ev = .int .i64 r1 ∧ i ≤ os.length ∧ Hid (dropsA (r1, a1) (os.drop i) = (r, a')) ∧ Hid (Dw w B d a1 wr)) (fun iv _ _ => os.length - (intOf iv).toNat)
  case atStart => exact ⟨0, r0, a0, rfl, rfl, Nat.zero_le _, HR, HD1⟩
  case round =>
    obtain ⟨i, r1, a1, rfl, rfl, hi, HR1, HD⟩ := hrel
    rename World => wr
    clear HD1 HS HR
    by_cases hlt : i < os.length
    · have i1 : (i : Int) < os.length := by omega
      have sr2 : Sr encI 1 wr K A c os := sr_tn HSR.out HD.out.tn HF.out
      obtain ⟨ad, e2, had, hcell⟩ := sr2.get hlt
      subst e2
      have x1 : wr.cell? (ad.add i) = some (.int .i64 os[i]) := by have := hcell 0 _ rfl; simpa using this
      have ho := hos os[i] (List.getElem_mem hlt)
      have hdr : os.drop i = os[i] :: os.drop (i + 1) := List.drop_eq_getElem_cons hlt
      have HDR := Lib.hid hdr
      generalize os[i] = o at x1 ho HDR
      clear hcell sr2 hdr
      by_cases hr0 : r1 = 0
      · subst hr0
        obtain ⟨r2, a2, h2⟩ : ∃ r2 a2, opD dropA a1 o = (r2, a2) := ⟨_, _, rfl⟩
        have HN : Hid (dropsA (r2, a2) (os.drop (i + 1)) = (r, a')) := Lib.hid (by have := HR1.out; rw [HDR.out] at this; simpa [dropsA, h2] using this)
        have HC := Lib.hid (HD.out.step fun B' D' _ => drop_DD D' ho.1 ho.2 h2)
        clear h2 HR1 HDR ho
        go_wp2_with (go_at_call 22; refine HC.out.mono ?_; rintro e w2 ⟨rfl, D2⟩; have HD2 := Lib.hid D2; clear D2)
        go_roundw
        case rel => exact ⟨i + 1, r2, a2, by go_num, rfl, hlt, HN, HD2⟩
        case measure => simp [intOf]; omega
      · have q0 : (r1 == (0 : Int)) = false := by simpa using hr0
        have HN : Hid ((r1, a1) = (r, a')) := Lib.hid (by rw [← HR1.out, drops_stop hr0])
        clear hr0 HR1 HDR ho
        go_wp2
        (try rw [Exit.noGoto_ret])
        go_ret
        obtain ⟨rfl, rfl⟩ := Prod.mk.inj HN.out
        exact HD.out.dn _
    · obtain rfl : i = os.length := by omega
      have HN : Hid ((r1, a1) = (r, a')) := Lib.hid (by rw [← HR1.out, List.drop_length]; rfl)
      clear HR1
      go_wp2
      go_ret
      obtain ⟨rfl, rfl⟩ := Prod.mk.inj HN.out
      exact HD.out.dn _
set_option maxRecDepth 100000 in
set_option maxHeartbeats 3200000 in
theorem lay_any {A1 A2 : Option Addr} {c1 c2 K1 : Nat} {base : List UInt8} {rs : List (List UInt8)} (D : DD w B d a) (hn1 : -9223372036854775808 ≤ n) (hn2 : n ≤ 9223372036854775807) (hb : Bs w K1 A1 c1 base) (hrr : Rr w K1 A2 c2 rs) (hK1 : K1 ≤ w.heap.size) (hl : base.length ≤ 1048576) (hrl : ∀ x ∈ rs, x.length ≤ 1048576) (hsz : (framesB base rs).length ≤ 140737488355328)
    (sr : Sr encI 1 w K A c os) (hKw : K ≤ w.heap.size) (hfar : 0 < os.length → ∀ ad : Addr, A = some ad → ¬ B ad.block) (hos : ∀ o ∈ os, -9223372036854775808 ≤ o ∧ o ≤ 9223372036854775807) (hr : layA a n (framesB base rs) os = (r, a')) :
    Calls Try.prog 30 #[dP d, .int .i64 n, .agg #[.slice A1 base.length c1, .slice A2 rs.length c2], .slice A os.length c] w (Dn w B d r a') := by
  have hbl := hb.le
  have hrle := hrr.le
  obtain ⟨L9, hL9⟩ : ∃ L9, L9 = framesB base rs := ⟨_, rfl⟩
  obtain ⟨r0, a0, h0⟩ : ∃ r0 a0, appD a n L9 = (r0, a0) := ⟨_, _, rfl⟩
  have hw1 : Below K1 w (w.alloc (.cells #[.slice A1 base.length c1, .slice A2 rs.length c2] 69)) := (Below.refl _ _).alloc hK1 _
  have hF := frames_any K1 A1 c1 base A2 c2 rs _ (hb.below hw1) (hrr.below hw1) (by simp; omega) hl hrl hsz
  rw [← hL9] at hF hr
  have HFR := Lib.hid hF
  have HW1 : Hid (Below w.heap.size w (w.alloc (.cells #[.slice A1 base.length c1, .slice A2 rs.length c2] 69))) := Lib.hid ((Below.refl _ _).alloc (Nat.le_refl _) _)
  have HD := Lib.hid D
  have HSR := Lib.hid sr
  have HF := Lib.hid hfar
  have HOS := Lib.hid hos
  unfold layA at hr
  rw [h0] at hr
  have HR := Lib.hid hr
  have H0 := Lib.hid h0
  have hD1 : ∀ k, B k → k < w.heap.size := D.bt
  clear hw1 hF hL9 hr h0 D sr hfar hos hb hrr hrl hsz
  go_enter Try.func30, Try.ntmps30
  go_wp2_with (go_at_call 43; refine HFR.out.mono ?_; rintro e w1 ⟨A3, c3, rfl, ho1, hb1⟩; have HB1 : Hid (Below w.heap.size w w1) := Lib.hid (HW1.out.trans (hb1.mono HW1.out.size)); have z1 := HB1.out.size; have HO1 := Lib.hid ho1; have zz : w.heap.size < w1.heap.size := (by have := hb1.size; simp at this; omega); clear ho1 hb1)
  refine (Dw.of HB1.out (app_DD (HD.out.below HB1.out) hn2 HO1.out.bs.1 rfl (fun hl ad e hb => ?_) H0.out)).mono ?_
  · have h5 := own_block HO1.out hl e rfl
    have h6 := hD1 _ hb
    have h7 := h5.1
    simp at h7
    omega
  rintro e w2 ⟨rfl, D2⟩
  have HD2 := Lib.hid D2
  clear D2
  by_cases hr0 : r0 = 0
  · subst hr0
    have HK := HR.out
    rw [if_pos rfl] at HK
    have sr2 := sr_tn HSR.out HD2.out.tn HF.out
    have HSR2 := Lib.hid sr2
    have HKK := Lib.hid HK
    have HC := Lib.hid (HD2.out.step (r := r) (a' := a') fun B' D' hB' => keep_any D' hn1 hn2 HSR2.out (fun hl ad e hb => by
      obtain ⟨ad', e', hbk, _⟩ := HSR.out.at_ hl
      rw [e] at e'
      cases e'
      exact (hB' _ hb).elim (HF.out hl ad e) fun h => by omega) HOS.out HKK.out)
    clear HK sr2
    go_wp2_with (go_at_call 44; refine HC.out.mono ?_; rintro e w3 ⟨rfl, D3⟩; have HD3 := Lib.hid D3; clear D3)
    go_ret
    exact HD3.out.dn _
  · have q0 : (r0 == (0 : Int)) = false := by simpa using hr0
    have HN : Hid ((r0, a0) = (r, a')) := Lib.hid (by have := HR.out; rw [if_neg hr0] at this; exact this)
    clear hr0 HR
    go_wp2
    go_ret
    obtain ⟨rfl, rfl⟩ := Prod.mk.inj HN.out
    exact HD2.out.dn _
end
end Go.Proofs.Ytkkaehaoahpibaa
namespace Go.Proofs.Ytkkaehaoahpibaa
open Go.RowKit

theorem put_ri (n : Int) (p : List UInt8) : ∀ {L : List As}, L.Pairwise (fun x y => x.n < y.n) → (putA n p L).Pairwise (fun x y => x.n < y.n)
  | [], _ => by simp [putA]
  | x :: r, h => by
    rw [List.pairwise_cons] at h
    unfold putA
    by_cases h1 : n < x.n
    · rw [if_pos h1]
      refine List.pairwise_cons.2 ⟨fun y hy => ?_, List.pairwise_cons.2 h⟩
      rcases List.mem_cons.1 hy with rfl | hy
      · exact h1
      · exact Int.lt_trans h1 (h.1 y hy)
    · rw [if_neg h1]
      by_cases h2 : x.n = n
      · rw [if_pos h2]
        exact List.pairwise_cons.2 ⟨h.1, h.2⟩
      · rw [if_neg h2]
        refine List.pairwise_cons.2 ⟨fun y hy => ?_, put_ri n p h.2⟩
        have hm : ∀ {L : List As}, y ∈ putA n p L → y.n = n ∨ ∃ z ∈ L, z.n = y.n := by
          intro L
          induction L with
          | nil => intro hy; simp [putA] at hy; subst hy; exact .inl rfl
          | cons z L ih =>
            intro hy
            unfold putA at hy
            split at hy
            · rcases List.mem_cons.1 hy with rfl | hy
              · exact .inl rfl
              · exact .inr ⟨y, hy, rfl⟩
            · split at hy
              · rcases List.mem_cons.1 hy with rfl | hy
                · exact .inr ⟨z, by simp, rfl⟩
                · exact .inr ⟨y, by simp [hy], rfl⟩
              · rcases List.mem_cons.1 hy with rfl | hy
                · exact .inr ⟨y, by simp, rfl⟩
                · rcases ih hy with h | ⟨u, hu, e⟩
                  · exact .inl h
                  · exact .inr ⟨u, by simp [hu], e⟩
        rcases hm hy with h3 | ⟨z, hz, e⟩
        · show x.n < y.n
          omega
        · have := h.1 z hz
          show x.n < y.n
          omega
theorem sum_filter (q : As → Bool) : ∀ L : List As, sumA (L.filter q) ≤ sumA L
  | [] => Nat.le_refl _
  | x :: r => by
    have ih := sum_filter q r
    rw [List.filter_cons]
    split <;> simp only [sumA] <;> omega
section
variable {a a' : Ad} {n r : Int} {p : List UInt8}
theorem lim_app (h : Lim a) (hr : appD a n p = (r, a')) : Lim a' := by
  unfold appD at hr
  split at hr
  · cases hr; exact h
  split at hr
  · cases hr; exact h
  split at hr
  · cases hr; exact h
  rename_i h3
  split at hr
  · cases hr; exact h
  rename_i h4
  split at hr
  · cases hr
    exact ⟨h.le, h.rm, h.ln, show (-1 : Int) ≤ 0 by decide, show (0 : Int) ≤ 9223372036854775807 by decide, h.ri⟩
  · cases hr
    have hb := fz_bd h.f1 h.f2
    refine ⟨?_, h.rm, ?_, hb.1, hb.2, put_ri n p h.ri⟩
    · show ((sumA (putA n p a.L) : Nat) : Int) ≤ a.room
      rw [sum_put]
      omega
    · show (putA n p a.L).length ≤ 1024
      by_cases hh : hasA a.L n = false
      · have := len_put n p a.L
        have h5 : ¬ 1024 ≤ a.L.length := fun h => h4 ⟨hh, h⟩
        omega
      · have hl : ∀ L : List As, hasA L n = true → L.Pairwise (fun x y => x.n < y.n) → (putA n p L).length = L.length := by
          intro L
          induction L with
          | nil => intro h; simp [hasA] at h
          | cons x L ih =>
            intro hx hp
            rw [List.pairwise_cons] at hp
            unfold putA
            by_cases h1 : n < x.n
            · exfalso
              simp only [hasA, List.any_cons, Bool.or_eq_true, decide_eq_true_eq, List.any_eq_true] at hx
              rcases hx with e | ⟨y, hy, e⟩
              · omega
              · have := hp.1 y hy; omega
            · rw [if_neg h1]
              by_cases h2 : x.n = n
              · rw [if_pos h2]; rfl
              · rw [if_neg h2, List.length_cons, List.length_cons, ih _ hp.2]
                simp only [hasA, List.any_cons, Bool.or_eq_true, decide_eq_true_eq] at hx
                exact hx.resolve_left h2
        rw [hl a.L (by simpa using hh) h.ri]
        exact h.ln
theorem lim_sync (h : Lim a) (hr : opD syncA a n = (r, a')) : Lim a' := by
  unfold opD at hr
  split at hr
  · cases hr; exact h
  split at hr
  · cases hr; exact h
  split at hr
  · cases hr
    exact ⟨h.le, h.rm, h.ln, show (-1 : Int) ≤ 0 by decide, show (0 : Int) ≤ 9223372036854775807 by decide, h.ri⟩
  · cases hr
    have hb := fz_bd h.f1 h.f2
    refine ⟨by show ((sumA (syncA n a.L) : Nat) : Int) ≤ a.room; rw [sum_sync]; exact h.le, h.rm, by show (syncA n a.L).length ≤ 1024; simp [syncA]; exact h.ln, hb.1, hb.2, ?_⟩
    show (syncA n a.L).Pairwise _
    unfold syncA
    rw [List.pairwise_map]
    refine h.ri.imp fun {x y} hxy => ?_
    split <;> split <;> exact hxy
theorem lim_drop (h : Lim a) (hr : opD dropA a n = (r, a')) : Lim a' := by
  unfold opD at hr
  split at hr
  · cases hr; exact h
  split at hr
  · cases hr; exact h
  split at hr
  · cases hr
    exact ⟨h.le, h.rm, h.ln, show (-1 : Int) ≤ 0 by decide, show (0 : Int) ≤ 9223372036854775807 by decide, h.ri⟩
  · cases hr
    have hb := fz_bd h.f1 h.f2
    have h1 := sum_filter (fun t => !decide (t.n = n)) a.L
    have h2 := h.le
    refine ⟨by show ((sumA (dropA n a.L) : Nat) : Int) ≤ a.room; unfold dropA; omega, h.rm, Nat.le_trans (len_drop n a.L) h.ln, hb.1, hb.2, ?_⟩
    exact h.ri.filter _
end
end Go.Proofs.Ytkkaehaoahpibaa
namespace Go.Proofs.Ytkkaehaoahpibaa
open Go.RowKit Go.BigFrame

theorem walGo_bounds : ∀ (m : Nat) (l : List UInt8) (s : Bool) (n : Nat), l.length ≤ m → (∀ x ∈ (walGo l s n).1, x.length ≤ 1048576) ∧ (recsB (walGo l s n).1).length ≤ l.length
  | 0, l, s, n, h => by
    have : l = [] := List.eq_nil_of_length_eq_zero (by omega)
    subst this
    rw [walGo_nil]
    exact ⟨fun x hx => (by cases hx), Nat.le_refl _⟩
  | m + 1, l, s, n, h => by
    by_cases h0 : (openB l).2.2.2 = 0
    · have hu := openB_used h0
      have hdl : (l.drop (openB l).2.2.1).length = l.length - (openB l).2.2.1 := List.length_drop
      by_cases h1 : (openB l).1 = 1
      · rw [walGo_rec h0 h1]
        have ih := walGo_bounds m (l.drop (openB l).2.2.1) s (n + (openB l).2.2.1) (by omega)
        refine ⟨fun x hx => ?_, ?_⟩
        · rcases List.mem_cons.1 hx with rfl | hx
          · exact hu.2.2.1
          · exact ih.1 x hx
        · have el : (recsB ((openB l).2.1 :: (walGo (l.drop (openB l).2.2.1) s (n + (openB l).2.2.1)).1)).length = 9 + (openB l).2.1.length + (recsB (walGo (l.drop (openB l).2.2.1) s (n + (openB l).2.2.1)).1).length := by simp [recsB, sealB_length]
          have h2 := ih.2
          simp only
          omega
      · by_cases h3 : (openB l).1 = 3 ∧ s = false
        · obtain ⟨h3, rfl⟩ := h3
          rw [walGo_seal h0 h3]
          have ih := walGo_bounds m (l.drop (openB l).2.2.1) true (n + (openB l).2.2.1) (by omega)
          exact ⟨ih.1, by omega⟩
        · rw [walGo_else h0 h1 h3]
          exact ⟨fun x hx => (by cases hx), Nat.zero_le _⟩
    · rw [walGo_bad h0]
      exact ⟨fun x hx => (by cases hx), Nat.zero_le _⟩
theorem readB_bounds {b base : List UInt8} {rs : List (List UInt8)} {n : Nat} (h : readB b = some (base, rs, n)) : base.length ≤ 1048576 ∧ (∀ x ∈ rs, x.length ≤ 1048576) ∧ (recsB rs).length ≤ b.length := by
  unfold readB at h
  split at h
  · rename_i h1
    have hu := openB_used h1.1
    have hw := walGo_bounds _ (b.drop (openB b).2.2.1) false (openB b).2.2.1 (Nat.le_refl _)
    have hdl : (b.drop (openB b).2.2.1).length = b.length - (openB b).2.2.1 := List.length_drop
    split at h
    · cases h
      exact ⟨hu.2.2.1, hw.1, by omega⟩
    · cases h
  · cases h
theorem newA_at : ∀ {L : List As} {x : As} {b : List UInt8} {r : List (List UInt8)} {n : Nat}, newA L = some (x, b, r, n) → x ∈ L ∧ readB x.b = some (b, r, n)
  | [], _, _, _, _, h => by simp [newA] at h
  | z :: L, x, b, r, n, h => by
    unfold newA at h
    cases hL : newA L with
    | some q =>
      rw [hL] at h
      obtain ⟨x', b', r', n'⟩ := q
      cases h
      have := newA_at hL
      exact ⟨by simp [this.1], this.2⟩
    | none =>
      rw [hL] at h
      cases hz : readB z.b with
      | none => rw [hz] at h; cases h
      | some q =>
        rw [hz] at h
        obtain ⟨b', r', n'⟩ := q
        cases h
        exact ⟨by simp, hz⟩
def grA (L : List As) : Int := ((L.map As.n)[L.length - 1]?).getD 0
def abv (n : Int) : Int := if n = 9223372036854775807 then 0 else n + 1
def lgA (L : List As) : List UInt8 × List (List UInt8) := match newA L with
  | some (_, b, r, _) => (b, r)
  | none => ([], [])
def aloneA (L : List As) : Bool := match newA L with
  | some (x, _, _, n) => alB L x n
  | none => false
/-- A log in memory: its disk, its segment. -/
structure Wp (w : World) (p d : Nat) (seg : Int) : Prop where
  c0 : w.cell? ⟨p, 0, none⟩ = some (dP d)
  c1 : w.cell? ⟨p, 1, none⟩ = some (.int .i64 seg)
  fr : ∀ j, w.frozen? ⟨p, j, none⟩ = false
abbrev wP (p : Nat) : Value := .pointer (some ⟨p, 0, none⟩)
section
variable {w wx wy : World} {B P : Nat → Prop} {d p : Nat} {a : Ad} {seg : Int}
theorem Wp.tn (h : Wp wx p d seg) (t : Tn P wx wy) (hp : ¬ P p) : Wp wy p d seg :=
  ⟨t.cell h.c0 hp, t.cell h.c1 hp, fun j => (t.frozen (p := ⟨p, j, none⟩) (show p < wx.heap.size from World.block_lt_of_cell? _ _ h.c0) hp).trans (h.fr j)⟩
theorem Wp.below (h : Wp wx p d seg) (hb : Below wx.heap.size wx wy) : Wp wy p d seg := h.tn (Tn.ofNew (P := fun _ => False) hb) fun h => h
theorem segs_le (D : DD wx B d a) : ∀ o ∈ a.L.map As.n, 1 ≤ o ∧ o ≤ 9223372036854775807 := by
  obtain ⟨K, mb, M, D1, e, _⟩ := D.ex
  intro o ho
  rw [← e, List.map_map] at ho
  obtain ⟨s, hs, rfl⟩ := List.mem_map.1 ho
  exact ⟨(D1.sg s hs).n1, (D1.sg s hs).n2⟩
theorem open_nild : Calls Try.prog 8 #[.pointer none] w fun e w' => e = .returned (.tuple #[.pointer none, .slice none 0 0, .slice none 0 0, .int .i64 2]) ∧ w' = w := by
  go_enter Try.func8, Try.ntmps8
  go_wp2_with (go_at_call 26; refine segs_nil.mono ?_; rintro e w' ⟨rfl, rfl⟩)
  exact bodyPost_ret (v := .tuple #[.pointer none, .slice none 0 0, .slice none 0 0, .int .i64 2]) (by simp [results, Try.results8, go_sem]) rfl ⟨rfl, rfl⟩
theorem open_down {room fuse : Int} {L : List As} (D : DD w B d ⟨room, fuse, true, L⟩) : Calls Try.prog 8 #[dP d] w fun e w' => e = .returned (.tuple #[.pointer none, .slice none 0 0, .slice none 0 0, .int .i64 5]) ∧ w' = w := by
  have HS := Lib.hid (segs_DDn D)
  clear D
  go_enter Try.func8, Try.ntmps8
  go_wp2_with (go_at_call 26; refine HS.out.mono ?_; rintro e w' ⟨rfl, rfl⟩)
  exact bodyPost_ret (v := .tuple #[.pointer none, .slice none 0 0, .slice none 0 0, .int .i64 5]) (by simp [results, Try.results8, go_sem]) rfl ⟨rfl, rfl⟩
/-- The log is handed out. -/
def OutP (w w' : World) (d : Nat) (seg : Int) (base : List UInt8) (rs : List (List UInt8)) (e : Ending) (p : Nat) : Prop :=
  ∃ A1 c1 A2 c2, e = .returned (.tuple #[wP p, .slice A1 base.length c1, .slice A2 rs.length c2, .int .i64 0]) ∧ Wp w' p d seg ∧ w.heap.size ≤ p ∧ p < w'.heap.size ∧ Ob w' w.heap.size (.slice A1 base.length c1) base ∧ Rw w' w.heap.size 32 (.slice A2 rs.length c2) rs
set_option maxRecDepth 100000 in
set_option maxHeartbeats 3200000 in
theorem open_alone {room fuse : Int} {L : List As} {x : As} {base : List UInt8} {rs : List (List UInt8)} {n : Nat} (D : DD w B d ⟨room, fuse, false, L⟩) (hN : newA L = some (x, base, rs, n)) (hal : alB L x n = true) :
    Calls Try.prog 8 #[dP d] w fun e w' => Below w.heap.size w w' ∧ ∃ p, OutP w w' d (grA L) base rs e p := by
  have HN := Lib.hid hN
  have HAL := Lib.hid hal
  have hxm := (newA_at hN).1
  have hL0 : 0 < L.length := List.length_pos_of_mem hxm
  have HD := Lib.hid D
  obtain ⟨sg, hsg⟩ : ∃ sg, (L.map As.n)[L.length - 1]? = some sg := ⟨_, List.getElem?_eq_getElem (by simp; omega)⟩
  have hsg2 : grA L = sg := by unfold grA; rw [hsg]; rfl
  rw [hsg2]
  have HSG := Lib.hid hsg
  clear D hN hal hxm hsg hsg2
  go_enter Try.func8, Try.ntmps8
  go_wp2_with fail
  refine (segs_DD HD.out rfl).mono ?_
  rintro e w1 ⟨v, rfl, so, b1⟩
  obtain ⟨A, c, hv⟩ := so.form
  subst hv
  simp only [List.length_map] at so ⊢
  have HSO := Lib.hid so
  have HB1 := Lib.hid b1
  clear so b1
  go_wp2_with fail
  refine (newest_any (HD.out.below HB1.out) rfl HSO.out).mono ?_
  rintro e w2 ⟨b2, hcase⟩
  rcases hcase with ⟨h9, _⟩ | ⟨x', base', rs', n', A1, c1, A2, c2, h9, rfl, ob, rw_⟩
  · exact absurd (h9.symm.trans HN.out) (by simp)
  have h8 := h9.symm.trans HN.out
  simp only [Option.some.injEq, Prod.mk.injEq] at h8
  obtain ⟨rfl, rfl, rfl, rfl⟩ := h8
  rw [show alB L x' n' = true from HAL.out]
  have HB2 : Hid (Below w.heap.size w w2) := Lib.hid (HB1.out.trans (b2.mono HB1.out.size))
  have HSO2 := Lib.hid (HSO.out.below b2)
  have HOB := Lib.hid (ob.more (K' := w.heap.size) HB1.out.size)
  have HRW := Lib.hid (rw_.more (K' := w.heap.size) HB1.out.size)
  obtain ⟨g, rfl⟩ := so_addr HSO.out (by simpa using hL0)
  have hg2 : ∀ o : Obj, So encI 1 (w2.alloc o) w.heap.size 3 (.slice (some ⟨g, 0, none⟩) (L.map As.n).length c) (L.map As.n) := fun o => by rw [List.length_map]; exact HSO2.out.alloc o
  have HGR : Hid (∀ o : Obj, Calls Try.prog 28 #[.slice (some ⟨g, 0, none⟩) L.length c] (w2.alloc o) fun e w' => e = .returned (.int .i64 sg) ∧ w' = w2.alloc o) := Lib.hid fun o => by
    have h1 := greatest_any (x := sg) (hg2 o) (by rw [List.length_map]; exact HSG.out)
    rwa [List.length_map] at h1
  have hz2 := HB2.out.size
  clear hg2 ob rw_ b2 h9 HSO HSO2 HN
  go_wp2_with (go_at_call 28; refine (HGR.out _).mono ?_; rintro e w3 ⟨rfl, rfl⟩)
  have HFIN : Hid (∀ o o2 : Obj, Below w.heap.size w (((w2.alloc o).alloc o2).drew) ∧ Ob (((w2.alloc o).alloc o2).drew) w.heap.size (.slice A1 base'.length c1) base' ∧ Rw (((w2.alloc o).alloc o2).drew) w.heap.size 32 (.slice A2 rs'.length c2) rs') := Lib.hid fun o o2 =>
    have hb : Below w2.heap.size w2 (((w2.alloc o).alloc o2).drew) := (((Below.refl w2.heap.size w2).alloc (Nat.le_refl _) o).alloc (by simp) o2).trans ⟨rfl, rfl, rfl, Nat.le_refl _, fun _ _ => rfl⟩
    ⟨HB2.out.trans (hb.mono hz2), HOB.out.below hb, HRW.out.below hb⟩
  clear HGR HOB HRW HB2 HB1 HD HAL
  go_region
  go_wp2_with fail
  refine bodyPost_ret (v := .tuple #[wP (w2.heap.size + 1), .slice A1 base'.length c1, .slice A2 rs'.length c2, .int .i64 0]) (by simp [results, Try.results8, go_sem]) rfl ?_
  refine ⟨(HFIN.out _ _).1, w2.heap.size + 1, A1, c1, A2, c2, rfl, ⟨by simp [go_sem], by simp [go_sem], fun j => by simp [go_sem]⟩, by omega, by simp [go_sem], (HFIN.out _ _).2.1, (HFIN.out _ _).2.2⟩
end
end Go.Proofs.Ytkkaehaoahpibaa
namespace Go.Proofs.Ytkkaehaoahpibaa
open Go.RowKit Go.BigFrame

section
variable {w wx : World} {B : Nat → Prop} {d c K : Nat} {a a' : Ad} {A : Option Addr} {r : Int} {L : List As}
theorem greatest_seg (so : So encI 1 wx K 3 (.slice A L.length c) (L.map As.n)) : Calls Try.prog 28 #[.slice A L.length c] wx fun e w' => e = .returned (.int .i64 (grA L)) ∧ w' = wx := by
  by_cases hL : 0 < L.length
  · obtain ⟨g, rfl⟩ := so_addr so (by simpa using hL)
    obtain ⟨sg, hsg⟩ : ∃ sg, (L.map As.n)[L.length - 1]? = some sg := ⟨_, List.getElem?_eq_getElem (by simp; omega)⟩
    have hsg2 : grA L = sg := by unfold grA; rw [hsg]; rfl
    rw [hsg2]
    have h1 := greatest_any (x := sg) (by rw [List.length_map]; exact so) (by rw [List.length_map]; exact hsg)
    rwa [List.length_map] at h1
  · obtain rfl : L = [] := List.eq_nil_of_length_eq_zero (by omega)
    exact greatest_nil
theorem above_seg {n : Int} (h1 : 0 ≤ n) (h2 : n ≤ 9223372036854775807) : Calls Try.prog 29 #[.int .i64 n] wx fun e w' => e = .returned (.int .i64 (abv n)) ∧ w' = wx := by
  unfold abv
  by_cases h : n = 9223372036854775807
  · rw [if_pos h, h]
    exact above_max
  · rw [if_neg h]
    exact above_any (by omega) (by omega)
theorem abv_range {n : Int} (h1 : 0 ≤ n) (h2 : n ≤ 9223372036854775807) : 0 ≤ abv n ∧ abv n ≤ 9223372036854775807 := by
  unfold abv
  split <;> omega
theorem grA_range (D : DD wx B d a) : 0 ≤ grA a.L ∧ grA a.L ≤ 9223372036854775807 := by
  unfold grA
  cases h : (a.L.map As.n)[a.L.length - 1]? with
  | none => simp
  | some x =>
    have := segs_le D x (List.mem_of_getElem? h)
    simp
    omega
theorem lgA_bounds (D : DD wx B d a) : (lgA a.L).1.length ≤ 1048576 ∧ (∀ x ∈ (lgA a.L).2, x.length ≤ 1048576) ∧ (recsB (lgA a.L).2).length ≤ 67108864 := by
  unfold lgA
  cases h : newA a.L with
  | none => exact ⟨by simp, fun x hx => (by cases hx), by simp [recsB]⟩
  | some q =>
    obtain ⟨x, b, rs, n⟩ := q
    have h1 := newA_at h
    have h2 := readB_bounds h1.2
    have h3 := sum_mem h1.1
    have h4 := D.le
    have h5 := D.rm
    exact ⟨h2.1, h2.2.1, by simp only; omega⟩
theorem new_post2 {e : Ending} (h : NewPost w L e wx) (hal : aloneA L = false) : Below w.heap.size w wx ∧ ∃ A1 c1 A2 c2, e = .returned (.tuple #[.agg #[.slice A1 (lgA L).1.length c1, .slice A2 (lgA L).2.length c2], .bool false, .int .i64 0]) ∧ Ob wx w.heap.size (.slice A1 (lgA L).1.length c1) (lgA L).1 ∧ Rw wx w.heap.size 32 (.slice A2 (lgA L).2.length c2) (lgA L).2 := by
  obtain ⟨hb, h⟩ := h
  refine ⟨hb, ?_⟩
  rcases h with ⟨h9, rfl⟩ | ⟨x, base, rs, n, A1, c1, A2, c2, h9, rfl, ob, rw_⟩
  · unfold lgA
    rw [h9]
    exact ⟨none, 0, none, 0, rfl, Ob.empty _ _, Rw.empty _ _ _⟩
  · unfold aloneA at hal
    rw [h9] at hal
    simp only at hal
    unfold lgA
    rw [h9, hal]
    exact ⟨A1, c1, A2, c2, rfl, ob, rw_⟩
/-- What Open leaves, where a log is laid anew. -/
def LaidP (w : World) (B : Nat → Prop) (d : Nat) (seg : Int) (base : List UInt8) (rs : List (List UInt8)) (r : Int) (a' : Ad) (e : Ending) (w' : World) : Prop :=
  (r = 0 ∧ ∃ p B', OutP w w' d seg base rs e p ∧ DD w' B' d a' ∧ Tn B w w' ∧ (∀ k, B' k → B k ∨ w.heap.size ≤ k) ∧ ¬ B' p) ∨
  (r ≠ 0 ∧ e = .returned (.tuple #[.pointer none, .slice none 0 0, .slice none 0 0, .int .i64 r]) ∧ Dw w B d a' w')
set_option maxRecDepth 100000 in
set_option maxHeartbeats 6400000 in
theorem open_lay (D : DD w B d a) (hd : a.down = false) (hal : aloneA a.L = false) (hr : layA a (abv (grA a.L)) (framesB (lgA a.L).1 (lgA a.L).2) (a.L.map As.n) = (r, a')) :
    Calls Try.prog 8 #[dP d] w (LaidP w B d (abv (grA a.L)) (lgA a.L).1 (lgA a.L).2 r a') := by
  have HAL := Lib.hid hal
  have HD := Lib.hid D
  have HBT : Hid (∀ k, B k → k < w.heap.size) := Lib.hid D.bt
  have hgr := grA_range D
  have hbnd := lgA_bounds D
  have hsl := segs_le D
  have HA := Lib.hid (abv_range hgr.1 hgr.2)
  have HGR := Lib.hid hgr
  have HBND := Lib.hid hbnd
  have HSL := Lib.hid hsl
  have HR := Lib.hid hr
  have HDN := Lib.hid hd
  obtain ⟨sg, hsg⟩ : ∃ sg, grA a.L = sg := ⟨_, rfl⟩
  have HSG := Lib.hid hsg
  rw [hsg] at HGR HA HR ⊢
  obtain ⟨sn, hsn⟩ : ∃ sn, abv sg = sn := ⟨_, rfl⟩
  have HAC : Hid (∀ W : World, Calls Try.prog 29 #[.int .i64 sg] W fun e w' => e = .returned (.int .i64 sn) ∧ w' = W) := Lib.hid fun W => by
    rw [← hsn]
    exact above_seg HGR.out.1 HGR.out.2
  rw [hsn] at HA HR ⊢
  clear D hal hgr hbnd hsl hr hsg hsn HGR
  go_enter Try.func8, Try.ntmps8
  go_wp2_with fail
  refine (segs_DD HD.out HDN.out).mono ?_
  rintro e w1 ⟨v, rfl, so, b1⟩
  obtain ⟨A, c, hv⟩ := so.form
  subst hv
  simp only [List.length_map] at so ⊢
  have HSO := Lib.hid so
  have HB1 := Lib.hid b1
  clear so b1
  go_wp2_with fail
  refine (newest_any (HD.out.below HB1.out) HDN.out HSO.out).mono ?_
  rintro e w2 hnp
  obtain ⟨b2, A1, c1, A2, c2, rfl, ob, rw_⟩ := new_post2 hnp HAL.out
  have HB2 : Hid (Below w.heap.size w w2) := Lib.hid (HB1.out.trans (b2.mono HB1.out.size))
  have HSO2 := Lib.hid (HSO.out.below b2)
  have HOB := Lib.hid (ob.more (K' := w.heap.size) HB1.out.size)
  have HRW := Lib.hid (rw_.more (K' := w.heap.size) HB1.out.size)
  have hz2 := HB2.out.size
  have hcl1 := ob.bs.1.le
  have hcl2 := rw_.pr.1.le
  clear ob rw_ b2 hnp hd
  have HGC : Hid (∀ o : Obj, Calls Try.prog 28 #[.slice A a.L.length c] (w2.alloc o) fun e w' => e = .returned (.int .i64 sg) ∧ w' = w2.alloc o) := Lib.hid fun o => by
    rw [← HSG.out]
    exact greatest_seg (HSO2.out.alloc o)
  go_wp2_with (first
    | (go_at_call 28; refine (HGC.out _).mono ?_; rintro e w3 ⟨rfl, rfl⟩)
    | (go_at_call 29; refine (HAC.out _).mono ?_; rintro e w3 ⟨rfl, rfl⟩))
  obtain ⟨o7, ho7⟩ : ∃ o7 : Obj, o7 = .cells #[.slice A1 (lgA a.L).1.length c1, .slice A2 (lgA a.L).2.length c2] 69 := ⟨_, rfl⟩
  have HB3 : Hid (Below w2.heap.size w2 (w2.alloc o7)) := Lib.hid ((Below.refl _ _).alloc (Nat.le_refl _) _)
  have HLY : Hid (Calls Try.prog 30 #[dP d, .int .i64 sn, .agg #[.slice A1 (lgA a.L).1.length c1, .slice A2 (lgA a.L).2.length c2], .slice A a.L.length c] (w2.alloc o7) (Dn (w2.alloc o7) B d r a')) := Lib.hid (by
    have hD3 : DD (w2.alloc o7) B d a := (HD.out.below HB2.out).alloc _
    have hs3 := (HSO2.out.alloc o7).sr encI_len
    have hfar : 0 < (a.L.map As.n).length → ∀ ad : Addr, A = some ad → ¬ B ad.block := fun hl ad e hb => by
      have h1 := HSO2.out
      subst e
      have h2 := (h1.lt ad.block rfl).1
      have h3 := HBT.out _ hb
      have h4 := HB1.out.size
      omega
    have h := lay_any (K := (w2.alloc o7).heap.size) (n := sn) (os := a.L.map As.n) hD3 (by have := HA.out; omega) HA.out.2 (HOB.out.alloc o7).bs.1 (HRW.out.alloc o7).pr.1 (Nat.le_refl _) HBND.out.1 HBND.out.2.1 (by rw [framesB_len]; have h1 := HBND.out.1; have h2 := HBND.out.2.2; omega) hs3.1 (Nat.le_refl _) hfar (fun o ho => by have := HSL.out o ho; omega) HR.out
    rw [List.length_map] at h
    exact h)
  clear HGC HAC HSO HSO2 HSL HA HR
  rw [← ho7]
  go_at_call 30
  refine HLY.out.mono ?_
  rintro e w4 ⟨rfl, B4, D4, t4, hB4⟩
  have HB30 : Hid (Below w.heap.size w (w2.alloc o7)) := Lib.hid (HB2.out.alloc hz2 _)
  have hnB : ¬ B w2.heap.size := fun h => by have := HBT.out _ h; omega
  have hx0 : (w2.alloc o7).cell? ⟨w2.heap.size, 0, none⟩ = some (.slice A1 (lgA a.L).1.length c1) := by rw [ho7]; simp [go_sem]
  have hx1 : (w2.alloc o7).cell? ⟨w2.heap.size, 1, none⟩ = some (.slice A2 (lgA a.L).2.length c2) := by rw [ho7]; simp [go_sem]
  have x0 := t4.cell hx0 hnB
  have x1 := t4.cell hx1 hnB
  have hz4 : w2.heap.size < w4.heap.size := by have := t4.size; simp at this; omega
  have HT4 : Hid (Tn B w w4) := Lib.hid ((Tn.ofNew HB30.out).then t4)
  have HBB : Hid (∀ k, B4 k → B k ∨ w.heap.size ≤ k) := Lib.hid fun k hk => (hB4 k hk).elim .inl fun h => .inr (by have := HB30.out.size; omega)
  have HD4 := Lib.hid D4
  have HOB4 := Lib.hid (t4.ob (HOB.out.alloc o7) fun g hg hb => by have h1 := (HOB.out.lt g hg).1; have h2 := HBT.out _ hb; omega)
  have HRW4 := Lib.hid ((HRW.out.alloc o7).tn t4 fun k hk hb => by have h2 := HBT.out _ hb; omega)
  clear HLY hx0 hx1 hnB D4 t4 hB4 HOB HRW HB3 HB30 ho7
  by_cases hr0 : r = 0
  · subst hr0
    have HFIN : Hid (∀ o : Obj, Ob ((w4.alloc o).drew) w.heap.size (.slice A1 (lgA a.L).1.length c1) (lgA a.L).1 ∧ Rw ((w4.alloc o).drew) w.heap.size 32 (.slice A2 (lgA a.L).2.length c2) (lgA a.L).2 ∧ DD ((w4.alloc o).drew) B4 d a' ∧ Tn B w ((w4.alloc o).drew)) := Lib.hid fun o =>
      have hb : Below w4.heap.size w4 ((w4.alloc o).drew) := ((Below.refl w4.heap.size w4).alloc (Nat.le_refl _) o).trans ⟨rfl, rfl, rfl, Nat.le_refl _, fun _ _ => rfl⟩
      ⟨HOB4.out.below hb, HRW4.out.below hb, HD4.out.below hb, HT4.out.then (Tn.ofNew hb)⟩
    have HBT4 : Hid (∀ k, B4 k → k < w4.heap.size) := Lib.hid HD4.out.bt
    have hsw : w.heap.size ≤ w4.heap.size := HT4.out.size
    clear HOB4 HRW4 HD4 HT4 HD HB1 HB2 HBT HBND
    go_wp2_with fail
    go_region
    go_wp2_with fail
    refine bodyPost_ret (v := .tuple #[wP w4.heap.size, .slice A1 (lgA a.L).1.length c1, .slice A2 (lgA a.L).2.length c2, .int .i64 0]) (by simp [results, Try.results8, go_sem]) rfl ?_
    obtain ⟨f1, f2, f3, f4⟩ := HFIN.out (.cells #[dP d, .int .i64 sn] 75)
    exact .inl ⟨rfl, w4.heap.size, B4, ⟨A1, c1, A2, c2, rfl, ⟨by simp [go_sem], by simp [go_sem], fun j => by simp [go_sem]⟩, hsw, by simp [go_sem], f1, f2⟩, f3, f4, HBB.out, fun h => Nat.lt_irrefl _ (HBT4.out _ h)⟩
  · have q0 : (r == (0 : Int)) = false := by simpa using hr0
    have HFIN : Hid (Dw w B d a' w4) := Lib.hid ⟨B4, HD4.out, HT4.out, HBB.out⟩
    have HR0 := Lib.hid hr0
    clear hr0 HOB4 HRW4 HD4 HT4 HD HB1 HB2 HBT HBND
    go_wp2_with fail
    refine bodyPost_ret (v := .tuple #[.pointer none, .slice none 0 0, .slice none 0 0, .int .i64 r]) (by simp [results, Try.results8, go_sem]) rfl ?_
    exact .inr ⟨HR0.out, rfl, HFIN.out⟩
end
end Go.Proofs.Ytkkaehaoahpibaa
namespace Go.Proofs.Ytkkaehaoahpibaa
open Go.RowKit

def lastBut (ops : Array Oper) (n : Nat) : Bool := (ops.size == n + 2) && ((List.range n).all fun i => reach ops ops.size i n) && (depsAt ops (n + 1)).contains n
theorem region_VT {P : Program} {Q : Exit → Act → World → Prop} {ops : Array Oper} {id : Nat} {a0 : Act} {w0 : World} {ι : Type} (holds : ι → Value → World → Prop) (G : World → Prop) (E : Value → World → Prop) (n : Nat) (xs : List ι) (d : ι)
    (mono : ∀ p v w w', holds p v w → Below w.heap.size w w' → holds p v w')
    (F : (Nat → Value) → Act) (hF : ∀ vs, F vs = putAll vs 0 ops.toList a0) (hm : P.follows .mixedOrders = true) (hf : fitsR ops = true) (hl : lastBut ops n = true)
    (hQ : ∀ c (x y : Act) w, x.defers = y.defers → Q (.panic c) x w → Q (.panic c) y w)
    (h0 : G w0.drew)
    (hstep : AllOps (fun i o => stepOr (Nat.beq i (n + 1))
      (∀ vs w, E (vs n) w → ∀ K : Act → World → Prop, K ((F vs).put o.dst (vs n)) w → if Region.wanted o (yielded ops (F vs).tmps) = true then Oper.wp P o (F vs) w K Q else K ((F vs).put o.dst undef) w)
      (∀ vs w, G w → AllD (fun j => holds (xs.getD j d) (vs j) w) (depsOf o) →
      ∀ K : Act → World → Prop, stepOr (Nat.beq i n) (∀ v w', E v w' → K ((F vs).put o.dst v) w') (∀ v w', Below w.heap.size w w' → G w' → holds (xs.getD i d) v w' → K ((F vs).put o.dst v) w') →
        if Region.wanted o (yielded ops (F vs).tmps) = true then Oper.wp P o (F vs) w K Q else K ((F vs).put o.dst undef) w)) 0 ops.toList)
    (hend : ∀ vs w, E (vs n) w → vs (n + 1) = vs n → Q .normal (F vs) w) :
    (Code.region id ops true).wp P Q a0 w0 := by
  simp only [lastBut, Bool.and_eq_true, beq_iff_eq, List.all_eq_true, List.mem_range, List.contains_iff_mem] at hl
  obtain ⟨⟨hsz, hlast⟩, hdn⟩ := hl
  refine region_inv hm hf F hF hQ (fun l vs w => (∀ j, l j = true → ∀ e ∈ depsAt ops j, l e = true) ∧ (l n = true → E (vs n) w ∧ (l (n + 1) = true → vs (n + 1) = vs n)) ∧ (l n = false → G w ∧ ∀ i, l i = true → holds (xs.getD i d) (vs i) w))
    ⟨(fun _ h => by cases h), (fun h => by cases h), fun _ => ⟨h0, (fun _ h => by cases h)⟩⟩ ?_ (fun l vs w hl hJ => by
      have h1 := hJ.2.1 (hl n (by omega))
      exact hend vs w h1.1 (h1.2 (hl (n + 1) (by omega))))
  intro i o ho l vs w ⟨hC, hE, hG⟩ hli hall K hK
  have hi : i < ops.size := (Array.getElem?_eq_some_iff.1 ho).1
  have hd := mem_deps ho hall
  have hC' : ∀ j, updR l i true j = true → ∀ e ∈ depsAt ops j, updR l i true e = true := fun j hj e he => by
    by_cases hei : e = i
    · subst hei; rw [updR_same]
    · rw [updR_ne _ _ hei]
      by_cases hji : j = i
      · subst hji; exact hd e he
      · rw [updR_ne _ _ hji] at hj; exact hC j hj e he
  have ho' : ops.toList[i]? = some o := by rw [Array.getElem?_toList]; exact ho
  have go := hstep.get ho'
  rw [Nat.zero_add] at go
  by_cases e1 : i = n + 1
  · subst e1
    have hb : Nat.beq (n + 1) (n + 1) = true := Nat.beq_refl _
    rw [hb] at go
    have hln := hd n hdn
    obtain ⟨hEn, _⟩ := hE hln
    refine go vs w hEn K (hK _ _ ⟨hC', fun _ => ?_, fun h => ?_⟩)
    · rw [updR_ne _ _ (by omega : n ≠ n + 1), updR_same]
      exact ⟨hEn, fun _ => updR_same _ _ _⟩
    · rw [updR_ne _ _ (by omega : n ≠ n + 1), hln] at h
      cases h
  · have hb1 : Nat.beq i (n + 1) = false := by
      cases h : Nat.beq i (n + 1) with
      | false => rfl
      | true => exact absurd (Nat.eq_of_beq_eq_true h) e1
    rw [hb1] at go
    have hn : l n = false := by
      cases hln : l n with
      | false => rfl
      | true =>
        by_cases e : i = n
        · subst e; rw [hli] at hln; cases hln
        · have := reach_up hC ops.size i n (hC n hln) (hlast i (by omega))
          rw [hli] at this
          cases this
    have hn1 : l (n + 1) = false := by
      cases h : l (n + 1) with
      | false => rfl
      | true => have := hC (n + 1) h n hdn; rw [hn] at this; cases this
    obtain ⟨hg, hh⟩ := hG hn
    have hdep : AllD (fun j => holds (xs.getD j d) (vs j) w) (depsOf o) := by
      have hdo : depsAt ops i = depsOf o := by simp [depsAt, ho]
      rw [hdo] at hd
      exact AllD.of (fun j hj => hh j hj) (AllL.mk hd)
    refine go vs w hg hdep K ?_
    by_cases e : i = n
    · subst e
      have hb : Nat.beq i i = true := Nat.beq_refl i
      rw [hb]
      exact fun v w' hw => hK v w' ⟨hC', fun _ => ⟨by rw [updR_same]; exact hw, fun h => by rw [updR_ne _ _ (by omega : i + 1 ≠ i), hn1] at h; cases h⟩, fun h => by rw [updR_same] at h; cases h⟩
    · have hb : Nat.beq i n = false := by
        cases h : Nat.beq i n with
        | false => rfl
        | true => exact absurd (Nat.eq_of_beq_eq_true h) e
      rw [hb]
      refine fun v w' hbl hG' hv => hK v w' ⟨hC', fun h => ?_, fun _ => ⟨hG', fun j hj => ?_⟩⟩
      · rw [updR_ne _ _ (Ne.symm e), hn] at h; cases h
      · by_cases ej : j = i
        · subst ej; rw [updR_same]; exact hv
        · rw [updR_ne _ _ ej] at hj ⊢
          exact mono _ _ _ _ (hh j hj) hbl
end Go.Proofs.Ytkkaehaoahpibaa
