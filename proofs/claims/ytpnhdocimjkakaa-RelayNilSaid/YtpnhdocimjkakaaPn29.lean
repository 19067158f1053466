/- A relay: promise, its record, Lead. -/
import Derived.Test.YtpnhdocimjkakaaPn26
import Derived.Test.YtpnhdocimjkakaaPn28
namespace Go.Proofs.Ytpnhdocimjkakaa
open Go.RowKit Go.BigFrame Go.Maps

theorem Wz.thenZ {w w1 w2 : World} {K b : Nat} {v v1 v2 : Value} {l l2 : List UInt8} (h : Wz w K b v l w1 v1) (s : Wz w1 K b v1 l2 w2 v2) : Wz w K b v l2 w2 v2 :=
  h.step (e := .returned (.tuple #[])) ⟨rfl, s.wr, s.tn, s.own⟩
theorem Wst.z {w w1 : World} {K b : Nat} {v v1 : Value} {l : List UInt8} {e : Ending} (s : Wst w K b v l e w1 v1) : Wz w K b v l w1 v1 := ⟨s.wr, s.tn, s.own⟩
theorem Wz.belowN {w w1 : World} {K b : Nat} {v1 : Value} {l : List UInt8} (h : Wz w K b (.slice none 0 0) l w1 v1) (hK : K ≤ w.heap.size) : Below K w w1 :=
  h.tn.below hK fun k _ p => by
    rcases p with rfl | e
    · exact h.wr.kb
    · cases e
theorem Wz.same {w : World} {K b : Nat} {v : Value} {l : List UInt8} (h : Wr w K b v l) : Wz w K b v l w v := ⟨h, Tn.refl _ _, OwnOr.refl _ _⟩
def prV (x : Rs) (ep pr : Int) (ms : List Int) : Rs := if leadsB { x with ep := ep, pr := pr, ms := ms } = true then { x with ep := ep, pr := pr, ms := ms, jo := ep } else { x with ep := ep, pr := pr, ms := ms }
theorem prV_ms (x : Rs) (ep pr : Int) (ms : List Int) : (prV x ep pr ms).ms = ms ∧ (prV x ep pr ms).id = x.id ∧ (prV x ep pr ms).su = x.su ∧ (prV x ep pr ms).lg = x.lg ∧ (prV x ep pr ms).ep = ep ∧ (prV x ep pr ms).pr = pr := by
  unfold prV
  split <;> exact ⟨rfl, rfl, rfl, rfl, rfl, rfl⟩
def PromP (w : World) (Kb b : Nat) (LA : Option Addr) (lc : Nat) (y : Rs) (w' : World) : Prop := ∃ A' c' mb n, n ≤ 1 ∧ Rl w' Kb b mb A' c' LA lc n (bgF y) (bgH y) (beginR y) ∧ Below Kb w w'
set_option maxRecDepth 100000 in
set_option maxHeartbeats 1600000 in
theorem promise_any {w : World} {Kb b : Nat} {MA LA : Option Addr} {mc lc : Nat} {x : Rs} {AV : Value} (H : Rn w Kb b MA mc LA lc AV x) (ep pr : Int) (K0 : Nat) (A : Option Addr) (m cap : Nat) (ms : List Int) (hn : ms.length = m) (hs : Sr encI 1 w K0 A cap ms) (hKs : K0 ≤ w.heap.size) (hl : ms.length ≤ 1048576)
    (hK0 : Kb ≤ w.heap.size) (hms0 : ∀ z ∈ ms, I64 z) (hid0 : I64 x.id) (hsu0 : 0 ≤ x.su ∧ x.su ≤ 1048576) (hln0 : x.lg.length ≤ 1048576) :
    Calls Try.prog 79 #[.pointer (some ⟨b, 0, none⟩), .agg #[.int .i64 ep, .int .i64 pr, .slice A m cap]] w fun e w' => e = .returned (.tuple #[]) ∧ PromP w Kb b LA lc (prV x ep pr ms) w' := by
  subst hn
  have hK := Lib.hid hK0
  have hms := Lib.hid hms0
  have hid := Lib.hid hid0
  have hsu := Lib.hid hsu0
  have hln := Lib.hid hln0
  have hbl := H.bx.lt
  have hne : Hid (w.heap.size ≠ b) := Lib.hid (by omega)
  obtain ⟨W0, hW0⟩ : ∃ W0, W0 = w.alloc (.cells #[.int .i64 ep, .int .i64 pr, .slice A ms.length cap] 43) := ⟨_, rfl⟩
  have hb0 : Below w.heap.size w W0 := by rw [hW0]; exact (Below.refl _ _).alloc (Nat.le_refl _) _
  have HV0 : Hid (Bxo W0 w.heap.size #[.int .i64 ep, .int .i64 pr, .slice A ms.length cap] 43) := Lib.hid (by rw [hW0]; exact Bxo.new _ _ _)
  have HR0 := Lib.hid (H.below hb0)
  have HB0 := Lib.hid (hb0.mono hK0)
  have HC := Lib.hid (cview_any ep pr K0 A ms.length cap ms W0 rfl (hs.below (hb0.mono hKs)) (Nat.le_trans hKs hb0.size) hl)
  have hz0 : Kb ≤ W0.heap.size := Nat.le_trans hK0 hb0.size
  have HWW := Lib.hid hW0
  have x0 : W0.cell? ⟨w.heap.size, 0, none⟩ = some (.int .i64 ep) := HV0.out.cell rfl
  have x1 : W0.cell? ⟨w.heap.size, 1, none⟩ = some (.int .i64 pr) := HV0.out.cell rfl
  have x2 : W0.cell? ⟨w.heap.size, 2, none⟩ = some (.slice A ms.length cap) := HV0.out.cell rfl
  have xl := HV0.out.lt
  clear H hs hK0 hms0 hid0 hsu0 hln0 hb0 hW0
  go_enter Try.func79, Try.ntmps79
  go_upto_region 1 with fail
  rw [← HWW.out]
  go_wp2_with fail
  refine HC.out.mono ?_
  rintro e w1 ⟨A1, c1, rfl, so1, b1⟩
  have HS1 := Lib.hid (so1.more hz0)
  have HR1 := Lib.hid (HR0.out.below b1)
  have HV1 := Lib.hid (HV0.out.below b1)
  have HB1 := Lib.hid (HB0.out.trans (b1.mono hz0))
  have y1 : w1.cell? ⟨b, 1, none⟩ = some (.int .i64 x.ep) := HR1.out.bx.cell rfl
  have y2 : w1.cell? ⟨b, 2, none⟩ = some (.int .i64 x.pr) := HR1.out.bx.cell rfl
  have y3 : w1.cell? ⟨b, 3, none⟩ = some (.slice MA x.ms.length mc) := HR1.out.bx.cell rfl
  have yl := HR1.out.bx.lt
  have yf := HR1.out.bx.fr
  clear so1 b1 x0 x1 x2 xl
  go_upto_region 2 with fail
  have HR2 := Lib.hid (HR1.out.view (ep := ep) (pr := pr) HS1.out)
  have HV2 : Hid (Bxo (((w1.setCell ⟨b, 1, none⟩ (.int .i64 ep)).setCell ⟨b, 2, none⟩ (.int .i64 pr)).setCell ⟨b, 3, none⟩ (.slice A1 ms.length c1)) w.heap.size #[.int .i64 ep, .int .i64 pr, .slice A ms.length cap] 43) := Lib.hid (((HV1.out.other hne.out).other hne.out).other hne.out)
  have HB2 : Hid (Below Kb w (((w1.setCell ⟨b, 1, none⟩ (.int .i64 ep)).setCell ⟨b, 2, none⟩ (.int .i64 pr)).setCell ⟨b, 3, none⟩ (.slice A1 ms.length c1))) := Lib.hid (((HB1.out.setCell (p := ⟨b, 1, none⟩) HR1.out.kb _).setCell (p := ⟨b, 2, none⟩) HR1.out.kb _).setCell (p := ⟨b, 3, none⟩) HR1.out.kb _)
  obtain ⟨W2, hW2⟩ : ∃ W2, W2 = ((w1.setCell ⟨b, 1, none⟩ (.int .i64 ep)).setCell ⟨b, 2, none⟩ (.int .i64 pr)).setCell ⟨b, 3, none⟩ (.slice A1 ms.length c1) := ⟨_, rfl⟩
  rw [← hW2] at HR2 HV2 HB2
  rw [← hW2]
  clear hW2 y1 y2 y3 yl yf HR1 HV1 HB1 HS1
  have HL := Lib.hid (leads_any (x := { x with ep := ep, pr := pr, ms := ms }) (b := b) (w := W2) (MA := A1) (mc := c1) (LA := LA) (lc := lc) (AV := AV) HR2.out.bx)
  have hpv := prV_ms x ep pr ms
  have HPV := Lib.hid hpv
  clear hpv
  cases hl2 : leadsB { x with ep := ep, pr := pr, ms := ms } with
  | false =>
    rw [hl2] at HL
    have HP : Hid (prV x ep pr ms = { x with ep := ep, pr := pr, ms := ms }) := Lib.hid (if_neg (by rw [hl2]; decide))
    clear hl2
    go_wp2_with fail
    refine HL.out.mono ?_
    rintro e w3 ⟨rfl, b3⟩
    have HR3 := Lib.hid (HR2.out.below b3)
    have HB3 := Lib.hid (HB2.out.trans (b3.mono (Nat.le_trans hK.out HB2.out.size)))
    have HBG := Lib.hid (begin_any HR3.out (Nat.le_trans hK.out HB3.out.size) hms.out hid.out hsu.out hln.out)
    clear b3
    go_wp2_with fail
    refine HBG.out.mono ?_
    rintro e w4 ⟨rfl, ⟨mb, n4, hn4, hr4⟩, hb4⟩
    have HR4 := Lib.hid hr4
    have HB4 := Lib.hid (HB3.out.trans hb4)
    clear hr4 hb4
    go_wp2_with fail
    go_end0
    exact ⟨rfl, A1, c1, mb, n4, hn4, by rw [HP.out]; exact HR4.out, HB4.out⟩
  | true =>
    rw [hl2] at HL
    have HP : Hid (prV x ep pr ms = { x with ep := ep, pr := pr, ms := ms, jo := ep }) := Lib.hid (if_pos hl2)
    clear hl2
    go_wp2_with fail
    refine HL.out.mono ?_
    rintro e w3 ⟨rfl, b3⟩
    have HR3 := Lib.hid (HR2.out.below b3)
    have HV3 := Lib.hid (HV2.out.below b3)
    have HB3 := Lib.hid (HB2.out.trans (b3.mono (Nat.le_trans hK.out HB2.out.size)))
    have y5 : w3.cell? ⟨b, 5, none⟩ = some (.int .i64 x.jo) := HR3.out.bx.cell rfl
    have yl := HR3.out.bx.lt
    have yf := HR3.out.bx.fr 5
    have x0 : w3.cell? ⟨w.heap.size, 0, none⟩ = some (.int .i64 ep) := HV3.out.cell rfl
    have xl := HV3.out.lt
    clear b3
    go_upto_region 4 with fail
    have HR5 : Hid (Rn (w3.setCell ⟨b, 5, none⟩ (.int .i64 ep)) Kb b A1 c1 LA lc AV { x with ep := ep, pr := pr, ms := ms, jo := ep }) := Lib.hid (HR3.out.put 5 (.int .i64 ep) rfl rfl rfl)
    have HB5 : Hid (Below Kb w (w3.setCell ⟨b, 5, none⟩ (.int .i64 ep))) := Lib.hid (HB3.out.setCell (p := ⟨b, 5, none⟩) HR3.out.kb _)
    obtain ⟨W5, hW5⟩ : ∃ W5, W5 = w3.setCell ⟨b, 5, none⟩ (.int .i64 ep) := ⟨_, rfl⟩
    rw [← hW5] at HR5 HB5
    rw [← hW5]
    have HBG := Lib.hid (begin_any HR5.out (Nat.le_trans hK.out HB5.out.size) hms.out hid.out hsu.out hln.out)
    clear hW5 y5 yl yf x0 xl
    go_wp2_with fail
    refine HBG.out.mono ?_
    rintro e w6 ⟨rfl, ⟨mb, n4, hn4, hr4⟩, hb4⟩
    have HR4 := Lib.hid hr4
    have HB4 := Lib.hid (HB5.out.trans hb4)
    clear hr4 hb4
    go_wp2_with fail
    go_end0
    exact ⟨rfl, A1, c1, mb, n4, hn4, by rw [HP.out]; exact HR4.out, HB4.out⟩
set_option maxRecDepth 100000 in
set_option maxHeartbeats 1600000 in
theorem precord_any (ep pr : Int) (hep : I64 ep) (hpr : I64 pr) (K0 : Nat) (A : Option Addr) (m cap : Nat) (ms : List Int) (w : World) (hn : ms.length = m) (hs : Sr encI 1 w K0 A cap ms) (hKs : K0 ≤ w.heap.size) (hl : ms.length ≤ 1048576) (hms : ∀ z ∈ ms, I64 z) :
    Calls Try.prog 80 #[.agg #[.int .i64 ep, .int .i64 pr, .slice A m cap]] w (NewBytes w (numB 1 ++ putV ep pr ms)) := by
  subst hn
  have hHB : ∀ k, k < w.heap.size → k ≠ w.heap.size := fun k h => by omega
  obtain ⟨W0, hW0⟩ : ∃ W0, W0 = w.alloc (.cells #[.int .i64 ep, .int .i64 pr, .slice A ms.length cap] 43) := ⟨_, rfl⟩
  have hb0 : Below w.heap.size w W0 := by rw [hW0]; exact (Below.refl _ _).alloc (Nat.le_refl _) _
  have HV0 : Hid (Bxo W0 w.heap.size #[.int .i64 ep, .int .i64 pr, .slice A ms.length cap] 43) := Lib.hid (by rw [hW0]; exact Bxo.new _ _ _)
  have hz0 : w.heap.size < W0.heap.size := by rw [hW0]; simp
  have HS0 := Lib.hid (hs.below (hb0.mono hKs))
  have HB0 := Lib.hid hb0
  have HWW := Lib.hid hW0
  have HMS := Lib.hid hms
  have HEP := Lib.hid hep
  have HPR := Lib.hid hpr
  have hle := hs.le
  have hmx := hs.max
  unfold maxLen at hmx
  have HLP : Hid (ms.length * 9 + 27 ≤ 10485760) := Lib.hid (by omega)
  have HK0 := Lib.hid hKs
  obtain ⟨n1, hn1e⟩ : ∃ n1, n1 = numB 1 := ⟨_, rfl⟩
  obtain ⟨m9, hm9⟩ : ∃ m9, m9 = n1 ++ putV ep pr ms := ⟨_, rfl⟩
  have hn1 : n1.length ≤ 9 := by rw [hn1e, numB_length]; have := kN_le 1; omega
  have hml : m9.length ≤ 10485760 := by
    have h2 : (putV ep pr ms).length ≤ 27 + 9 * ms.length := putV_len ep pr ms
    rw [hm9, List.length_append]
    omega
  have HN0 : Hid (∀ K b v w, Wr w K b v [] → Calls Try.prog 112 #[.pointer (some ⟨b, 0, none⟩), .int .u64 1] w fun e w' => ∃ v', Wst w K b v n1 e w' v') := Lib.hid (fun K b v w h => by
    have h9 := wnum_any 1 (by omega) K b v [] w h (by simp)
    rw [List.nil_append, ← hn1e] at h9
    exact h9)
  have HM9 : Hid (numB 1 ++ putV ep pr ms = m9) := Lib.hid (by rw [hm9, hn1e])
  have HM8 := Lib.hid hm9
  rw [HM9.out]
  clear hs hb0 hW0 hHB hms hm9 hn1e hep hpr
  go_enter Try.func80, Try.ntmps80
  go_upto_region 1 with fail
  rw [← HWW.out]
  go_wp2_with fail
  go_at_call 61
  refine (new_any _).mono ?_
  rintro e w1 ⟨rfl, rfl⟩
  have HW1 := Lib.hid (wr_new W0 W0.heap.size (Nat.le_refl _))
  have HB1 : Hid (Below W0.heap.size W0 (W0.alloc (.cells #[.slice none 0 0] 174))) := Lib.hid ((Below.refl _ _).alloc (Nat.le_refl _) _)
  obtain ⟨W1, hW1⟩ : ∃ W1, W1 = W0.alloc (.cells #[.slice none 0 0] 174) := ⟨_, rfl⟩
  rw [← hW1] at HW1 HB1
  rw [← hW1]
  have hz1 : W0.heap.size < W1.heap.size := by rw [hW1]; simp
  have HN := Lib.hid (HN0.out W0.heap.size W0.heap.size (.slice none 0 0) W1 HW1.out)
  clear hW1
  go_wp2_with fail
  go_at_call 112
  refine HN.out.mono ?_
  rintro e w2 ⟨v2, hs2⟩
  have he2 := hs2.e
  subst he2
  have HZ2 := Lib.hid hs2.z
  have HB2 : Hid (Below W0.heap.size W0 w2) := Lib.hid (HB1.out.trans (HZ2.out.belowN (by omega)))
  have HV2 := Lib.hid (HV0.out.belowB HB2.out (by omega))
  have HS2 := Lib.hid (HS0.out.below (HB2.out.mono (show K0 ≤ W0.heap.size by omega)))
  have x0 : w2.cell? ⟨w.heap.size, 0, none⟩ = some (.int .i64 ep) := HV2.out.cell rfl
  have x1 : w2.cell? ⟨w.heap.size, 1, none⟩ = some (.int .i64 pr) := HV2.out.cell rfl
  have x2 : w2.cell? ⟨w.heap.size, 2, none⟩ = some (.slice A ms.length cap) := HV2.out.cell rfl
  have xl := HV2.out.lt
  have HPUT0 := Lib.hid (vput_any ep pr HEP.out HPR.out K0 A ms.length cap ms w2 rfl HS2.out (Nat.le_trans (by omega) HB2.out.size) HMS.out hl W0.heap.size W0.heap.size v2 n1 HZ2.out.wr (by omega) (fun h0 ad e => by
    obtain ⟨ad', e', hk, _⟩ := HS2.out.at_ h0
    rw [e] at e'
    cases e'
    refine ⟨by omega, fun h9 => ?_⟩
    rcases HZ2.out.own with h1 | ⟨j, h1, hj⟩
    · rw [h1] at h9; cases h9
    · rw [h1] at h9; injection h9 with h9; omega))
  rw [← HM8.out] at HPUT0
  have HPUT := HPUT0
  clear hs2 HPUT0
  go_wp2_with fail
  refine HPUT.out.mono ?_
  rintro e w3 ⟨rfl, v3, hz3⟩
  have HZ3 := Lib.hid (HZ2.out.thenZ hz3)
  have HB3 : Hid (Below W0.heap.size W0 w3) := Lib.hid (HB1.out.trans (HZ3.out.belowN (by omega)))
  have HBY := Lib.hid (wbytes_any W0.heap.size W0.heap.size v3 m9 w3 HZ3.out.wr (by omega))
  clear hz3 x0 x1 x2 xl
  go_wp2_with fail
  go_at_call 65
  refine HBY.out.mono ?_
  rintro e w4 ⟨A4, c4, rfl, ho4, b4⟩
  have HO4 := Lib.hid (ho4.moreB (K' := w.heap.size) (by have := HB3.out.size; omega))
  have HB4 := Lib.hid ((HB0.out.trans (HB3.out.mono (by omega))).trans (b4.mono (by have := HB3.out.size; omega)))
  clear ho4 b4
  go_wp2_with fail
  go_ret
  exact ⟨A4, c4, rfl, HO4.out, HB4.out⟩
end Go.Proofs.Ytpnhdocimjkakaa
