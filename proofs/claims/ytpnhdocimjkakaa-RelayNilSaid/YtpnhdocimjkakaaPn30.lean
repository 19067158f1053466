/- A relay: Lead. -/
import Derived.Test.YtpnhdocimjkakaaPn29
namespace Go.Proofs.Ytpnhdocimjkakaa
open Go.RowKit Go.BigFrame Go.Maps

theorem settleR_k (f : Int → Int) (h : Int → Bool) (x : Rs) : (settleR f h x).ep = x.ep ∧ (settleR f h x).pr = x.pr ∧ (settleR f h x).ms = x.ms ∧ (settleR f h x).id = x.id ∧ (settleR f h x).lg = x.lg ∧ (settleR f h x).jo = x.jo := by
  unfold settleR
  split <;> exact ⟨rfl, rfl, rfl, rfl, rfl, rfl⟩
theorem beginR_k (x : Rs) : (beginR x).ep = x.ep ∧ (beginR x).pr = x.pr ∧ (beginR x).ms = x.ms ∧ (beginR x).id = x.id ∧ (beginR x).lg = x.lg ∧ (beginR x).jo = x.jo := by
  unfold beginR
  split
  · exact settleR_k _ _ _
  · exact ⟨rfl, rfl, rfl, rfl, rfl, rfl⟩
def LeadP (w : World) (Kb b : Nat) (LA : Option Addr) (lc : Nat) (y : Rs) (e : Ending) (w' : World) : Prop := ∃ v, e = .returned (.tuple #[v, .int .i64 0]) ∧ PromP w Kb b LA lc y w'
set_option maxRecDepth 100000 in
set_option maxHeartbeats 1600000 in
theorem lead_any {w : World} {Kb b : Nat} {MA LA : Option Addr} {mc lc : Nat} {x : Rs} {AV : Value} (H : Rn w Kb b MA mc LA lc AV x) (ep pr : Int) (K0 : Nat) (A : Option Addr) (m cap : Nat) (ms : List Int) (hn : ms.length = m) (hs : Sr encI 1 w K0 A cap ms) (hKs : K0 ≤ w.heap.size)
    (hK0 : Kb ≤ w.heap.size) (hrv : rightV ep pr ms = true) (hep : x.ep < ep) (hid0 : I64 x.id) (hsu0 : 0 ≤ x.su ∧ x.su ≤ 1048576) (hln0 : x.lg.length ≤ 1048576) :
    Calls Try.prog 32 #[.pointer (some ⟨b, 0, none⟩), .agg #[.int .i64 ep, .int .i64 pr, .slice A m cap]] w (LeadP w Kb b LA lc (prV x ep pr ms)) := by
  subst hn
  obtain ⟨h1, h2, h3, h4⟩ := rightV_iff.1 hrv
  have hml := mems_len h3
  have hma := mems_all h3
  have hms0 : ∀ z ∈ ms, I64 z := fun z hz => by have := hma z hz; unfold I64; omega
  have hpr := hma pr h4
  have HEP : Hid (I64 ep) := Lib.hid (by unfold I64; omega)
  have HPR : Hid (I64 pr) := Lib.hid (by unfold I64; omega)
  have hK := Lib.hid hK0
  have hms := Lib.hid hms0
  have hid := Lib.hid hid0
  have hsu := Lib.hid hsu0
  have hln := Lib.hid hln0
  have hbl := H.bx.lt
  have hne : Hid (w.heap.size ≠ b) := Lib.hid (by omega)
  have hl8 : ms.length ≤ 8 := hml.2
  obtain ⟨W0, hW0⟩ : ∃ W0, W0 = w.alloc (.cells #[.int .i64 ep, .int .i64 pr, .slice A ms.length cap] 43) := ⟨_, rfl⟩
  have hb0 : Below w.heap.size w W0 := by rw [hW0]; exact (Below.refl _ _).alloc (Nat.le_refl _) _
  have HV0 : Hid (Bxo W0 w.heap.size #[.int .i64 ep, .int .i64 pr, .slice A ms.length cap] 43) := Lib.hid (by rw [hW0]; exact Bxo.new _ _ _)
  have HR0 := Lib.hid (H.below hb0)
  have HB0 := Lib.hid (hb0.mono hK0)
  have HS0 := Lib.hid (hs.below (hb0.mono hKs))
  have hks0 : K0 ≤ W0.heap.size := Nat.le_trans hKs hb0.size
  have hz0 : Kb ≤ W0.heap.size := Nat.le_trans hK0 hb0.size
  have HRV := Lib.hid (vright_any ep pr K0 A ms.length cap ms W0 rfl HS0.out hks0)
  rw [hrv] at HRV
  have HWW := Lib.hid hW0
  have x0 : W0.cell? ⟨w.heap.size, 0, none⟩ = some (.int .i64 ep) := HV0.out.cell rfl
  have x1 : W0.cell? ⟨w.heap.size, 1, none⟩ = some (.int .i64 pr) := HV0.out.cell rfl
  have x2 : W0.cell? ⟨w.heap.size, 2, none⟩ = some (.slice A ms.length cap) := HV0.out.cell rfl
  have xl := HV0.out.lt
  have d5 : decide (ep ≤ x.ep) = false := decide_eq_false (by omega)
  clear H hs hK0 hms0 hid0 hsu0 hln0 hb0 hW0 h1 h2 h3 h4 hml hma hpr hrv hep
  go_enter Try.func32, Try.ntmps32
  go_upto_region 1 with fail
  rw [← HWW.out]
  go_wp2_with fail
  refine HRV.out.mono ?_
  rintro e w1 ⟨rfl, b1⟩
  have HR1 := Lib.hid (HR0.out.below b1)
  have HV1 := Lib.hid (HV0.out.below b1)
  have HB1 := Lib.hid (HB0.out.trans (b1.mono hz0))
  have HS1 := Lib.hid (HS0.out.below (b1.mono hks0))
  have y1 : w1.cell? ⟨b, 1, none⟩ = some (.int .i64 x.ep) := HR1.out.bx.cell rfl
  have yl := HR1.out.bx.lt
  have hz1 : W0.heap.size ≤ w1.heap.size := b1.size
  clear b1 x0 x1 x2 xl
  have x0 : w1.cell? ⟨w.heap.size, 0, none⟩ = some (.int .i64 ep) := HV1.out.cell rfl
  have xl := HV1.out.lt
  go_upto_region 5 with fail
  go_cut [13] from 14 to 21 (fun v wx => v = .bool false ∧ Below w1.heap.size w1 wx)
  case first =>
    go_big_quiet (fail)
    go_wp2_with fail
    go_meet
    exact ⟨rfl, below_drewR (Below.refl _ _) _⟩
  case rest =>
    obtain ⟨rfl, hbx⟩ := hcut
    rename World => w2
    have HR2 := Lib.hid (HR1.out.below hbx)
    have HV2 := Lib.hid (HV1.out.below hbx)
    have HB2 := Lib.hid (HB1.out.trans (hbx.mono (Nat.le_trans hz0 hz1)))
    have hk2 : K0 ≤ w2.heap.size := Nat.le_trans (Nat.le_trans hks0 hz1) hbx.size
    have HS2 := Lib.hid (HS1.out.below (hbx.mono (Nat.le_trans hks0 hz1)))
    clear hbx y1 yl x0 xl
    have x0 : w2.cell? ⟨w.heap.size, 0, none⟩ = some (.int .i64 ep) := HV2.out.cell rfl
    have x1 : w2.cell? ⟨w.heap.size, 1, none⟩ = some (.int .i64 pr) := HV2.out.cell rfl
    have x2 : w2.cell? ⟨w.heap.size, 2, none⟩ = some (.slice A ms.length cap) := HV2.out.cell rfl
    have xl := HV2.out.lt
    have HPM := Lib.hid (promise_any HR2.out ep pr K0 A ms.length cap ms rfl HS2.out hk2 (by omega) (Nat.le_trans hK.out HB2.out.size) hms.out hid.out hsu.out hln.out)
    go_wp2_with fail
    refine HPM.out.mono ?_
    rintro e w3 ⟨rfl, A3, c3, mb, n3, hn3, hr3, hb3⟩
    have HR3 := Lib.hid hr3
    have HB3 := Lib.hid (HB2.out.trans hb3)
    obtain ⟨y, hy⟩ : ∃ y, y = prV x ep pr ms := ⟨_, rfl⟩
    rw [← hy] at HR3
    have hk := beginR_k y
    have hv := prV_ms x ep pr ms
    rw [← hy] at hv
    have HE3 : Hid ((beginR y).ep = ep ∧ (beginR y).pr = pr ∧ (beginR y).ms = ms) := Lib.hid ⟨by rw [hk.1, hv.2.2.2.2.1], by rw [hk.2.1, hv.2.2.2.2.2], by rw [hk.2.2.1, hv.1]⟩
    have HY := Lib.hid hy
    clear hr3 hb3 hy hk hv x0 x1 x2 xl
    have y1 : w3.cell? ⟨b, 1, none⟩ = some (.int .i64 ep) := by rw [← HE3.out.1]; exact HR3.out.bx.cell rfl
    have y2 : w3.cell? ⟨b, 2, none⟩ = some (.int .i64 pr) := by rw [← HE3.out.2.1]; exact HR3.out.bx.cell rfl
    have y3 : w3.cell? ⟨b, 3, none⟩ = some (.slice A3 ms.length c3) := by rw [← HE3.out.2.2]; exact HR3.out.bx.cell rfl
    have yl := HR3.out.bx.lt
    have hms3 := HR3.out.ms
    rw [HE3.out.2.2] at hms3
    have HPC := Lib.hid (precord_any ep pr HEP.out HPR.out w3.heap.size A3 ms.length c3 ms w3 rfl (hms3.sr encI_len).1 (Nat.le_refl _) (by omega) hms.out)
    clear hms3
    generalize numB 1 ++ putV ep pr ms = rec at HPC
    go_wp2_with fail
    refine HPC.out.mono ?_
    rintro e w4 ⟨A4, c4, rfl, _, b4⟩
    have HR4 := Lib.hid (HR3.out.below b4)
    have hz4 : Kb ≤ w4.heap.size := Nat.le_trans (Nat.le_trans hK.out HB3.out.size) b4.size
    have HB4 := Lib.hid (HB3.out.trans (b4.mono (Nat.le_trans hK.out HB3.out.size)))
    clear b4 y1 y2 y3 yl
    go_wp2_with fail
    go_ret2
    exact ⟨_, rfl, A3, c3, mb, n3, hn3, by rw [← HY.out]; exact HR4.out.below ((Below.refl _ _).alloc (Nat.le_refl _) _), HB4.out.alloc hz4 _⟩
set_option maxRecDepth 100000 in
theorem lead_nil (v : Value) (a0 a1 a2 : Value) (hv : v = .agg #[a0, a1, a2]) (w : World) : Calls Try.prog 32 #[.pointer none, v] w fun e w' => e = .returned (.tuple #[.slice none 0 0, .int .i64 2]) ∧ Below w.heap.size w w' := by
  subst hv
  go_enter Try.func32, Try.ntmps32
  go_wp2_with fail
  go_ret2
  exact ⟨rfl, (Below.refl _ _).alloc (Nat.le_refl _) _⟩
end Go.Proofs.Ytpnhdocimjkakaa
