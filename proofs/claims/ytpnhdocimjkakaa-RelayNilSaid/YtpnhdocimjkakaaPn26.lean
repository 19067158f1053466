/- A relay: copyOfView, begin, promise. -/
import Derived.Test.YtpnhdocimjkakaaPn24
import Derived.Carry
namespace Go.Proofs.Ytpnhdocimjkakaa
open Go.RowKit Go.BigFrame Go.Maps

def CviP (w : World) (ep pr : Int) (ms : List Int) (e : Ending) (w' : World) : Prop :=
  ∃ A' c', e = .returned (.agg #[.int .i64 ep, .int .i64 pr, .slice A' ms.length c']) ∧ So encI 1 w' w.heap.size 3 (.slice A' ms.length c') ms ∧ Below w.heap.size w w'
set_option maxRecDepth 100000 in
set_option maxHeartbeats 1600000 in
theorem cview_any (ep pr : Int) (K0 : Nat) (A : Option Addr) (m cap : Nat) (ms : List Int) (w : World) (hn : ms.length = m) (hs : Sr encI 1 w K0 A cap ms) (hK0 : K0 ≤ w.heap.size) (hl : ms.length ≤ 1048576) :
    Calls Try.prog 76 #[.agg #[.int .i64 ep, .int .i64 pr, .slice A m cap]] w (CviP w ep pr ms) := by
  subst hn
  have hle := hs.le
  have hmax := hs.max
  unfold maxLen at hmax
  obtain ⟨W0, hW0⟩ : ∃ W0, W0 = (w.alloc (.cells #[.int .i64 ep, .int .i64 pr, .slice A ms.length cap] 43)).alloc (.cells #[.int .i64 0, .int .i64 0, .slice none 0 0] 43) := ⟨_, rfl⟩
  have hb0 : Below w.heap.size w W0 := by rw [hW0]; exact ((Below.refl _ _).alloc (Nat.le_refl _) _).alloc (by simp) _
  have HX : Hid (Bxo W0 w.heap.size #[.int .i64 ep, .int .i64 pr, .slice A ms.length cap] 43) := Lib.hid (by rw [hW0]; exact (Bxo.new w _ _).below ((Below.refl _ _).alloc (Nat.le_refl _) _))
  have HY : Hid (Bxo W0 (w.heap.size + 1) #[.int .i64 0, .int .i64 0, .slice none 0 0] 43) := Lib.hid (by
    rw [hW0]
    have := Bxo.new (w.alloc (.cells #[.int .i64 ep, .int .i64 pr, .slice A ms.length cap] 43)) #[.int .i64 0, .int .i64 0, .slice none 0 0] 43
    simpa using this)
  have HC := Lib.hid (clone_ints K0 A ms.length cap ms W0 rfl (hs.below (hb0.mono hK0)) (Nat.le_trans hK0 hb0.size) (by omega))
  have HB0 := Lib.hid hb0
  have hz : W0.heap.size = w.heap.size + 2 := by rw [hW0]; simp
  have HWW := Lib.hid hW0
  have x0 : W0.cell? ⟨w.heap.size, 0, none⟩ = some (.int .i64 ep) := HX.out.cell rfl
  have x1 : W0.cell? ⟨w.heap.size, 1, none⟩ = some (.int .i64 pr) := HX.out.cell rfl
  have x2 : W0.cell? ⟨w.heap.size, 2, none⟩ = some (.slice A ms.length cap) := HX.out.cell rfl
  have xl := HX.out.lt
  clear hs hb0 hW0
  go_enter Try.func76, Try.ntmps76
  go_upto_region 1 with fail
  rw [← HWW.out]
  go_wp2_with fail
  go_at_call 77
  refine HC.out.mono ?_
  rintro e w1 ⟨A1, c1, rfl, so1, b1⟩
  have HS := Lib.hid so1
  have HB1 := Lib.hid (HB0.out.trans (b1.mono (by omega)))
  have HX1 := Lib.hid (HX.out.below b1)
  have HY1 := Lib.hid (HY.out.below b1)
  have y0 : w1.cell? ⟨w.heap.size, 0, none⟩ = some (.int .i64 ep) := HX1.out.cell rfl
  have y1 : w1.cell? ⟨w.heap.size, 1, none⟩ = some (.int .i64 pr) := HX1.out.cell rfl
  have y2 : w1.cell? ⟨w.heap.size, 2, none⟩ = some (.slice A ms.length cap) := HX1.out.cell rfl
  have yf := HX1.out.fr
  have yl := HX1.out.lt
  have hz1 : W0.heap.size ≤ w1.heap.size := b1.size
  clear so1 b1 x0 x1 x2 xl
  go_upto_region 2 with fail
  have HX2 : Hid (Bxo (w1.setCell ⟨w.heap.size, 2, none⟩ (.slice A1 ms.length c1)) w.heap.size #[.int .i64 ep, .int .i64 pr, .slice A1 ms.length c1] 43) := Lib.hid (HX1.out.set 2 _)
  have HY2 : Hid (Bxo (w1.setCell ⟨w.heap.size, 2, none⟩ (.slice A1 ms.length c1)) (w.heap.size + 1) #[.int .i64 0, .int .i64 0, .slice none 0 0] 43) := Lib.hid (HY1.out.other (by omega))
  have HS2 : Hid (So encI 1 (w1.setCell ⟨w.heap.size, 2, none⟩ (.slice A1 ms.length c1)) W0.heap.size 3 (.slice A1 ms.length c1) ms) := Lib.hid (HS.out.tn (Tn.setCell _ _ _ _) (HS.out.neB HX1.out (by decide)))
  have HB2 : Hid (Below w.heap.size w (w1.setCell ⟨w.heap.size, 2, none⟩ (.slice A1 ms.length c1))) := Lib.hid (HB1.out.setCell (p := ⟨w.heap.size, 2, none⟩) (Nat.le_refl _) _)
  obtain ⟨W2, hW2⟩ : ∃ W2, W2 = w1.setCell ⟨w.heap.size, 2, none⟩ (.slice A1 ms.length c1) := ⟨_, rfl⟩
  rw [← hW2] at HX2 HY2 HS2 HB2
  rw [← hW2]
  clear hW2 y0 y1 y2 yf yl HX1 HY1 HS HB1
  have x0 : W2.cell? ⟨w.heap.size, 0, none⟩ = some (.int .i64 ep) := HX2.out.cell rfl
  have x1 : W2.cell? ⟨w.heap.size, 1, none⟩ = some (.int .i64 pr) := HX2.out.cell rfl
  have x2 : W2.cell? ⟨w.heap.size, 2, none⟩ = some (.slice A1 ms.length c1) := HX2.out.cell rfl
  have xl := HX2.out.lt
  have z0 : W2.cell? ⟨w.heap.size + 1, 0, none⟩ = some (.int .i64 0) := HY2.out.cell rfl
  have z1 : W2.cell? ⟨w.heap.size + 1, 1, none⟩ = some (.int .i64 0) := HY2.out.cell rfl
  have z2 : W2.cell? ⟨w.heap.size + 1, 2, none⟩ = some (.slice none 0 0) := HY2.out.cell rfl
  have zl := HY2.out.lt
  have zf := HY2.out.fr
  go_wp2_with fail
  have s := ((HY2.out.set 0 (.int .i64 ep)).set 1 (.int .i64 pr)).set 2 (.slice A1 ms.length c1)
  have t0 := s.cell (i := 0) (v := .int .i64 ep) rfl
  have t1 := s.cell (i := 1) (v := .int .i64 pr) rfl
  have t2 := s.cell (i := 2) (v := .slice A1 ms.length c1) rfl
  have hne : ∀ c, (Value.slice A1 ms.length c1).ownBlock = some c → ¬ c = w.heap.size + 1 := HS2.out.neB HY2.out (by decide)
  exact bodyPost_ret (v := .agg #[.int .i64 ep, .int .i64 pr, .slice A1 ms.length c1]) (by simp [results, Try.results76, go_sem, t0, t1, t2]) rfl ⟨A1, c1, rfl, (((HS2.out.tn (Tn.setCell _ _ 0 _) hne).tn (Tn.setCell _ _ 1 _) hne).tn (Tn.setCell _ _ 2 _) hne).more (by omega),
    ((HB2.out.setCell (p := ⟨w.heap.size + 1, 0, none⟩) (Nat.le_succ _) _).setCell (p := ⟨w.heap.size + 1, 1, none⟩) (Nat.le_succ _) _).setCell (p := ⟨w.heap.size + 1, 2, none⟩) (Nat.le_succ _) _⟩
abbrev rn (x : Rs) (MA : Option Addr) (mc : Nat) (LA : Option Addr) (lc : Nat) (AV : Value) : Array Value := #[.int .i64 x.id, .int .i64 x.ep, .int .i64 x.pr, .slice MA x.ms.length mc, .slice LA x.lg.length lc, .int .i64 x.jo, .int .i64 x.su, AV, .bool x.ac]
/-- A relay whose acks may be anything. -/
structure Rn (w : World) (K b : Nat) (MA : Option Addr) (mc : Nat) (LA : Option Addr) (lc : Nat) (AV : Value) (x : Rs) : Prop where
  bx : Bxo w b (rn x MA mc LA lc AV) 96
  ms : So encI 1 w K 3 (.slice MA x.ms.length mc) x.ms
  lg : So encEz 2 w K 102 (.slice LA x.lg.length lc) x.lg
  kb : K ≤ b
section
variable {w w' : World} {K b mb : Nat} {MA LA : Option Addr} {mc lc n : Nat} {f : Int → Int} {h : Int → Bool} {x : Rs} {AV : Value}
theorem Rl.rn (H : Rl w K b mb MA mc LA lc n f h x) : Rn w K b MA mc LA lc (.map (some mb)) x := ⟨H.bx, H.ms, H.lg, H.kb⟩
theorem Rn.below (H : Rn w K b MA mc LA lc AV x) (hb : Below w.heap.size w w') : Rn w' K b MA mc LA lc AV x := ⟨H.bx.below hb, H.ms.below hb, H.lg.below hb, H.kb⟩
theorem Rn.put (H : Rn w K b MA mc LA lc AV x) (i : Nat) (v : Value) {x' : Rs} {AV' : Value} (e : (rn x MA mc LA lc AV).setIfInBounds i v = rn x' MA mc LA lc AV') (hms : x'.ms = x.ms) (hlg : x'.lg = x.lg) : Rn (w.setCell ⟨b, i, none⟩ v) K b MA mc LA lc AV' x' :=
  ⟨by have := H.bx.set i v; rw [e] at this; exact this, by rw [hms]; exact H.ms.tn (Tn.setCell w b i v) (H.ms.neB H.bx (by decide)), by rw [hlg]; exact H.lg.tn (Tn.setCell w b i v) (H.lg.neB H.bx (by decide)), H.kb⟩
/-- Another view is laid into the box. -/
theorem Rn.view (H : Rn w K b MA mc LA lc AV x) {ep pr : Int} {ms : List Int} {A : Option Addr} {c : Nat} (hs : So encI 1 w K 3 (.slice A ms.length c) ms) :
    Rn (((w.setCell ⟨b, 1, none⟩ (.int .i64 ep)).setCell ⟨b, 2, none⟩ (.int .i64 pr)).setCell ⟨b, 3, none⟩ (.slice A ms.length c)) K b A c LA lc AV { x with ep := ep, pr := pr, ms := ms } :=
  have hn := hs.neB H.bx (by decide)
  have hn2 := H.lg.neB H.bx (by decide)
  ⟨((H.bx.set 1 (.int .i64 ep)).set 2 (.int .i64 pr)).set 3 (.slice A ms.length c), ((hs.tn (Tn.setCell _ b 1 _) hn).tn (Tn.setCell _ b 2 _) hn).tn (Tn.setCell _ b 3 _) hn, ((H.lg.tn (Tn.setCell _ b 1 _) hn2).tn (Tn.setCell _ b 2 _) hn2).tn (Tn.setCell _ b 3 _) hn2, H.kb⟩
/-- A map that was just made is laid into the box. -/
theorem Rn.made (H : Rn w K b MA mc LA lc AV x) (hK : K ≤ w.heap.size) : Rl ((w.setCell ⟨b, 7, none⟩ (.map (some w.heap.size))).alloc (.map #[] 0)) K b w.heap.size MA mc LA lc 0 (fun _ => 0) (fun _ => false) x := by
  have h2 := (H.put 7 (.map (some w.heap.size)) (x' := x) (AV' := .map (some w.heap.size)) rfl rfl rfl).below ((Below.refl _ _).alloc (Nat.le_refl _) (.map #[] 0))
  have hm := Im.made (w.setCell ⟨b, 7, none⟩ (.map (some w.heap.size)))
  have e : (w.setCell ⟨b, 7, none⟩ (.map (some w.heap.size))).heap.size = w.heap.size := by simp [World.setCell]
  rw [e] at hm
  exact ⟨h2.bx, h2.ms, h2.lg, hm, h2.kb, hK⟩
end
def bgF (x : Rs) : Int → Int := fun j => if leadsB x = true ∧ j = x.id then x.lg.length else 0
def bgH (x : Rs) : Int → Bool := fun j => leadsB x && decide (j = x.id)
def beginR (x : Rs) : Rs := if leadsB x = true then settleR (bgF x) (bgH x) { x with ac := false } else { x with ac := false }
set_option maxRecDepth 100000 in
set_option maxHeartbeats 1600000 in
theorem begin_any {w : World} {Kb b : Nat} {MA LA : Option Addr} {mc lc : Nat} {x : Rs} {AV : Value} (H : Rn w Kb b MA mc LA lc AV x) (hK0 : Kb ≤ w.heap.size) (hms0 : ∀ m ∈ x.ms, I64 m) (hid0 : I64 x.id) (hsu0 : 0 ≤ x.su ∧ x.su ≤ 1048576) (hln0 : x.lg.length ≤ 1048576) :
    Calls Try.prog 41 #[.pointer (some ⟨b, 0, none⟩)] w fun e w' => e = .returned (.tuple #[]) ∧ (∃ mb n, n ≤ 1 ∧ Rl w' Kb b mb MA mc LA lc n (bgF x) (bgH x) (beginR x)) ∧ Below Kb w w' := by
  have HRN := Lib.hid H
  have hK := Lib.hid hK0
  have hms := Lib.hid hms0
  have hid := Lib.hid hid0
  have hsu := Lib.hid hsu0
  have hln := Lib.hid hln0
  have y7 : w.cell? ⟨b, 7, none⟩ = some AV := H.bx.cell rfl
  have yl := H.bx.lt
  have yf := H.bx.fr 7
  clear H hK0 hms0 hid0 hsu0 hln0
  have hmm := @run_makeMap Try.prog
  go_enter Try.func41, Try.ntmps41
  go_upto_region 1 with fail
  have HR1 := Lib.hid (HRN.out.made hK.out)
  have HB1 : Hid (Below Kb w ((w.setCell ⟨b, 7, none⟩ (.map (some w.heap.size))).alloc (.map #[] 0))) := Lib.hid (((Below.refl _ _).setCell (p := ⟨b, 7, none⟩) HRN.out.kb _).alloc (by simp [World.setCell]; exact hK.out) _)
  obtain ⟨mb, hmb⟩ : ∃ mb, mb = w.heap.size := ⟨_, rfl⟩
  rw [← hmb] at HR1 HB1
  rw [← hmb]
  obtain ⟨W1, hW1⟩ : ∃ W1, W1 = (w.setCell ⟨b, 7, none⟩ (.map (some mb))).alloc (.map #[] 0) := ⟨_, rfl⟩
  rw [← hW1] at HR1 HB1
  rw [← hW1]
  clear hW1 hmb y7 yl yf
  have y8 : W1.cell? ⟨b, 8, none⟩ = some (.bool x.ac) := HR1.out.bx.cell rfl
  have yl := HR1.out.bx.lt
  have yf := HR1.out.bx.fr 8
  go_upto_region 2 with fail
  have HR2 : Hid (Rl (W1.setCell ⟨b, 8, none⟩ (.bool false)) Kb b mb MA mc LA lc 0 (fun _ => 0) (fun _ => false) { x with ac := false }) := Lib.hid (HR1.out.put 8 (.bool false) rfl rfl rfl)
  have HB2 : Hid (Below Kb w (W1.setCell ⟨b, 8, none⟩ (.bool false))) := Lib.hid (HB1.out.setCell (p := ⟨b, 8, none⟩) HR1.out.kb _)
  obtain ⟨W2, hW2⟩ : ∃ W2, W2 = W1.setCell ⟨b, 8, none⟩ (.bool false) := ⟨_, rfl⟩
  rw [← hW2] at HR2 HB2
  rw [← hW2]
  clear hW2 y8 yl yf HR1 HB1
  have HL := Lib.hid (leads_any HR2.out.bx)
  have hle : leadsB { x with ac := false } = leadsB x := rfl
  rw [hle] at HL
  clear hle
  cases hl : leadsB x with
  | false =>
    rw [hl] at HL
    have HBF : Hid (bgF x = fun _ => 0) := Lib.hid (by funext j; unfold bgF; rw [hl, if_neg (by simp)])
    have HBH : Hid (bgH x = fun _ => false) := Lib.hid (by funext j; unfold bgH; rw [hl]; rfl)
    have HBR : Hid (beginR x = { x with ac := false }) := Lib.hid (if_neg (by rw [hl]; decide))
    clear hl
    go_wp2_with fail
    refine HL.out.mono ?_
    rintro e w3 ⟨rfl, b3⟩
    have HR3 := Lib.hid (HR2.out.below b3)
    have HB3 := Lib.hid (HB2.out.trans (b3.mono (Nat.le_trans hK.out HB2.out.size)))
    clear b3
    go_wp2_with fail
    go_end0
    exact ⟨rfl, ⟨mb, 0, Nat.zero_le _, by rw [HBF.out, HBH.out, HBR.out]; exact HR3.out⟩, HB3.out⟩
  | true =>
    rw [hl] at HL
    have HBF : Hid (bgF x = fun j => if j = x.id then (x.lg.length : Int) else (fun _ => 0) j) := Lib.hid (by funext j; unfold bgF; rw [hl]; by_cases e : j = x.id <;> simp [e])
    have HBH : Hid (bgH x = fun j => (fun _ => false) j || decide (j = x.id)) := Lib.hid (by funext j; unfold bgH; rw [hl]; simp)
    have HBR : Hid (beginR x = settleR (bgF x) (bgH x) { x with ac := false }) := Lib.hid (if_pos hl)
    clear hl
    go_wp2_with fail
    refine HL.out.mono ?_
    rintro e w3 ⟨rfl, b3⟩
    have HR3 := Lib.hid (HR2.out.below b3)
    have HB3 := Lib.hid (HB2.out.trans (b3.mono (Nat.le_trans hK.out HB2.out.size)))
    have HA := Lib.hid (ackOwn_any HR3.out (Nat.le_trans hK.out HB3.out.size) hms.out hid.out (fun _ => by unfold I64; omega) (fun _ => Int.le_refl _) hsu.out hln.out (by omega))
    clear b3
    go_wp2_with fail
    refine HA.out.mono ?_
    rintro e w4 ⟨rfl, hr4, hb4⟩
    have HR4 := Lib.hid hr4
    have HB4 := Lib.hid (HB3.out.trans hb4)
    clear hr4 hb4
    go_wp2_with fail
    go_end0
    exact ⟨rfl, ⟨mb, 1, Nat.le_refl _, by rw [HBR.out, HBF.out, HBH.out]; exact HR4.out⟩, HB4.out⟩
end Go.Proofs.Ytpnhdocimjkakaa
