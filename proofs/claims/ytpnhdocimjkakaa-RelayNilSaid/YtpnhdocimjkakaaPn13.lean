/- A control in memory: Now, Safe, Active, Change. -/
import Derived.Test.YtpnhdocimjkakaaPn12
import Derived.IntWalk
namespace Go.Proofs.Ytpnhdocimjkakaa
open Go.RowKit Go.BigFrame

theorem Tn.thenNew {P Q : Nat → Prop} {w w1 w2 : World} (h : Tn P w w1) (h2 : Tn Q w1 w2) (hQ : ∀ k, k < w.heap.size → ¬ Q k) : Tn P w w2 := h.thenQ h2 fun k hk q => absurd q (hQ k hk)
section
variable {w w' : World} {b h g mc sc h' mc' : Nat} {c : Vc}
theorem Ct.setView {e p : Int} {ms : List Int} (x : Ct w b h g mc sc c) (so : So encI 1 w 0 3 (.slice (some ⟨h', 0, none⟩) ms.length mc') ms) (hb : h' ≠ b) (hg : h' ≠ g) :
    Ct (((w.setCell ⟨b, 0, none⟩ (.int .i64 e)).setCell ⟨b, 1, none⟩ (.int .i64 p)).setCell ⟨b, 2, none⟩ (.slice (some ⟨h', 0, none⟩) ms.length mc')) b h' g mc' sc ⟨e, p, ms, c.sf⟩ := by
  have y0 := x.x0
  have y1 := x.x1
  have y2 := x.x2
  have y3 := x.x3
  have t : Tn (· = b) w (((w.setCell ⟨b, 0, none⟩ (.int .i64 e)).setCell ⟨b, 1, none⟩ (.int .i64 p)).setCell ⟨b, 2, none⟩ (.slice (some ⟨h', 0, none⟩) ms.length mc')) := ((Tn.setCell _ b 0 _).then (Tn.setCell _ b 1 _)).then (Tn.setCell _ b 2 _)
  refine ⟨?_, ?_, ?_, ?_, fun j => ?_, so.tn t (own_not hb), x.sf.tn t (own_not x.gb), hb, x.gb, hg⟩
  · simp [go_sem, y0]
  · simp [go_sem, y1]
  · simp [go_sem, y2]
  · simp [go_sem, y3]
  · simp only [World.frozen?_setCell]; exact x.fr j
theorem Ct.setSafe {e p : Int} {ms sf : List Int} {v : Value} (q0 : w.cell? ⟨b, 0, none⟩ = some (.int .i64 e)) (q1 : w.cell? ⟨b, 1, none⟩ = some (.int .i64 p)) (q2 : w.cell? ⟨b, 2, none⟩ = some (.slice (some ⟨h, 0, none⟩) ms.length mc)) (q3 : w.cell? ⟨b, 3, none⟩ = some v) (fr : ∀ j, w.frozen? ⟨b, j, none⟩ = false)
    (so : So encI 1 w 0 3 (.slice (some ⟨h, 0, none⟩) ms.length mc) ms) (s2 : So encI 1 w 0 3 (.slice (some ⟨g, 0, none⟩) sf.length sc) sf) (hb : h ≠ b) (gb : g ≠ b) (hg : h ≠ g) :
    Ct (w.setCell ⟨b, 3, none⟩ (.slice (some ⟨g, 0, none⟩) sf.length sc)) b h g mc sc ⟨e, p, ms, sf⟩ := by
  refine ⟨?_, ?_, ?_, ?_, fun j => ?_, so.tn (Tn.setCell _ b 3 _) (own_not hb), s2.tn (Tn.setCell _ b 3 _) (own_not gb), hb, gb, hg⟩
  · simp [go_sem, q0]
  · simp [go_sem, q1]
  · simp [go_sem, q2]
  · simp [go_sem, q3]
  · simp only [World.frozen?_setCell]; exact fr j
end
def NowP (w : World) (c : Vc) (e : Ending) (w' : World) : Prop :=
  ∃ A cp, e = .returned (.agg #[.int .i64 c.e, .int .i64 c.p, .slice A c.ms.length cp]) ∧ So encI 1 w' w.heap.size 3 (.slice A c.ms.length cp) c.ms ∧ Below w.heap.size w w'
set_option maxRecDepth 100000 in
set_option maxHeartbeats 3200000 in
theorem now_any {w : World} {b h g mc sc : Nat} {c : Vc} (x : Ct w b h g mc sc c) (hl : c.ms.length * 8 ≤ 140737488355328) : Calls Try.prog 28 #[.pointer (some ⟨b, 0, none⟩)] w (NowP w c) := by
  have x0 := x.x0
  have x1 := x.x1
  have x2 := x.x2
  have hlt := x.lt.1
  have HP := Lib.hid (x.ms.sr encI_len).1
  clear x
  go_enter Try.func28, Try.ntmps28
  go_wp2_with fail
  go_at_call 77
  refine (clone_ints w.heap.size _ _ _ c.ms _ rfl (HP.out.below (by go_grown)) (by simp; omega) hl).mono ?_
  rintro e w1 ⟨A1, c1, rfl, so1, b1⟩
  obtain ⟨hc, hf⟩ := bcell b1
  have hz : w.heap.size < w1.heap.size := by have := b1.size; simp at this; omega
  have hz1 : w.heap.size + 1 < w1.heap.size := by have := b1.size; simp at this; omega
  have HB : Hid (Below w.heap.size w w1) := Lib.hid ((show Below w.heap.size w _ by go_grown).trans (b1.mono (by simp; omega)))
  have HS : Hid (So encI 1 w1 (w.heap.size + 2) 3 (.slice A1 c.ms.length c1) c.ms) := Lib.hid (so1.more (by simp))
  have y0 := kept b1 (p := ⟨w.heap.size + 1, 0, none⟩) (v := .int .i64 c.e) (by simp [go_sem])
  have y1 := kept b1 (p := ⟨w.heap.size + 1, 1, none⟩) (v := .int .i64 c.p) (by simp [go_sem])
  have y2 := kept b1 (p := ⟨w.heap.size + 1, 2, none⟩) (v := .slice (some ⟨h, 0, none⟩) c.ms.length mc) (by simp [go_sem])
  have z0 := kept b1 (p := ⟨w.heap.size, 0, none⟩) (v := .int .i64 0) (by simp [go_sem])
  have z1 := kept b1 (p := ⟨w.heap.size, 1, none⟩) (v := .int .i64 0) (by simp [go_sem])
  have z2 := kept b1 (p := ⟨w.heap.size, 2, none⟩) (v := .slice none 0 0) (by simp [go_sem])
  have f1 : w1.frozen? ⟨w.heap.size + 1, 2, none⟩ = false := (b1.frozen (p := ⟨w.heap.size + 1, 2, none⟩) (by simp)).trans (by simp [go_sem])
  have f0 : ∀ j, w1.frozen? ⟨w.heap.size, j, none⟩ = false := fun j => (b1.frozen (p := ⟨w.heap.size, j, none⟩) (by show w.heap.size < _; simp; omega)).trans (by simp [go_sem])
  clear so1 b1 hc hf
  go_wp2_with fail
  refine bodyPost_ret (v := .agg #[.int .i64 c.e, .int .i64 c.p, .slice A1 c.ms.length c1]) (by simp [results, Try.results28, go_sem, z0, z1, z2]) rfl ⟨A1, c1, rfl, ?_, ?_⟩
  · have hn : ∀ o, o < w.heap.size + 2 → ∀ k, (Value.slice A1 c.ms.length c1).ownBlock = some k → ¬ k = o := fun o ho k e h => by have := (HS.out.lt k e).1; omega
    exact (((((HS.out.tn (Tn.setCell _ (w.heap.size + 1) 2 _) (hn _ (by omega))).tn (Tn.setCell _ w.heap.size 0 _) (hn _ (by omega))).tn (Tn.setCell _ w.heap.size 1 _) (hn _ (by omega))).tn (Tn.setCell _ w.heap.size 2 _) (hn _ (by omega)))).more (by omega)
  · exact (((HB.out.setCell (p := ⟨w.heap.size + 1, 2, none⟩) (Nat.le_succ _) _).setCell (p := ⟨w.heap.size, 0, none⟩) (Nat.le_refl _) _).setCell (p := ⟨w.heap.size, 1, none⟩) (Nat.le_refl _) _).setCell (p := ⟨w.heap.size, 2, none⟩) (Nat.le_refl _) _
set_option maxHeartbeats 800000 in
theorem safe_any {w : World} {b h g mc sc : Nat} {c : Vc} (x : Ct w b h g mc sc c) (hl : c.sf.length * 8 ≤ 140737488355328) : Calls Try.prog 31 #[.pointer (some ⟨b, 0, none⟩)] w (NewI w c.sf) := by
  have x3 := x.x3
  have hlt := x.lt.1
  have HP := Lib.hid (x.sf.sr encI_len).1
  clear x
  go_enter Try.func31, Try.ntmps31
  go_wp2_with fail
  go_at_call 77
  refine (clone_ints w.heap.size _ _ _ c.sf _ rfl HP.out (Nat.le_refl _) hl).mono ?_
  rintro e w1 ⟨A1, c1, rfl, so1, b1⟩
  have HS := Lib.hid so1
  have HB := Lib.hid b1
  clear so1 b1
  go_wp2_with fail
  go_ret
  exact ⟨A1, c1, rfl, HS.out, HB.out⟩
/-- What Active does. -/
def ActP (w : World) (b h g mc : Nat) (c : Vc) (n : Int) (e : Ending) (w' : World) : Prop :=
  e = .returned (.int .i64 (acV c n).1) ∧ ∃ g' sc', Ct w' b h g' mc sc' (acV c n).2 ∧ (g' = g ∨ w.heap.size ≤ g') ∧ Tn (· = b) w w'
set_option maxRecDepth 100000 in
set_option maxHeartbeats 3200000 in
theorem active_any {w : World} {b h g mc sc : Nat} {c : Vc} (n : Int) (x : Ct w b h g mc sc c) (hl : c.ms.length * 8 ≤ 140737488355328) (hl0 : 0 < c.ms.length) : Calls Try.prog 74 #[.pointer (some ⟨b, 0, none⟩), .int .i64 n] w (ActP w b h g mc c n) := by
  have x0 := x.x0
  have x2 := x.x2
  have hlt := x.lt.1
  have HX := Lib.hid x
  clear x
  by_cases h1 : n < 1
  · have HA : Hid (acV c n = (1, c)) := Lib.hid (by unfold acV; rw [if_pos (.inl h1)])
    have d1 : decide (n < 1) = true := by simpa using h1
    clear h1
    go_enter Try.func74, Try.ntmps74
    go_wp2_with fail
    go_ret
    exact ⟨by rw [HA.out]; rfl, by rw [HA.out]; exact ⟨g, sc, HX.out, .inl rfl, Tn.refl _ _⟩⟩
  · have d1 : decide (n < 1) = false := by simpa using h1
    by_cases h2 : c.e < n
    · have HA : Hid (acV c n = (1, c)) := Lib.hid (by unfold acV; rw [if_pos (.inr h2)])
      have d2 : decide (c.e < n) = true := by simpa using h2
      clear h1 h2
      go_enter Try.func74, Try.ntmps74
      go_wp2_with fail
      go_ret
      exact ⟨by rw [HA.out]; rfl, by rw [HA.out]; exact ⟨g, sc, HX.out, .inl rfl, Tn.refl _ _⟩⟩
    · have d2 : decide (c.e < n) = false := by simpa using h2
      by_cases h3 : n = c.e
      · have HA : Hid (acV c n = (0, ⟨c.e, c.p, c.ms, c.ms⟩)) := Lib.hid (by unfold acV; rw [if_neg (by omega), if_pos h3])
        have d3 : (n == c.e) = true := by simpa using h3
        clear h1 h2 h3
        have x3 := HX.out.x3
        have xf := HX.out.fr 3
        go_enter Try.func74, Try.ntmps74
        go_wp2_with fail
        go_at_call 77
        refine (clone_ints w.heap.size _ _ _ c.ms _ rfl (HX.out.ms.sr encI_len).1 (Nat.le_refl _) hl).mono ?_
        rintro e w1 ⟨A1, c1, rfl, so1, b1⟩
        obtain ⟨g1, rfl⟩ := own_some so1 hl0
        have X1 := HX.out.below b1
        have hb1 : b < w1.heap.size := X1.lt.1
        have hg1 := (so1.lt g1 rfl).1
        have hh := HX.out.lt
        have q3 := X1.x3
        have qf := X1.fr 3
        have HC : Hid (Ct (w1.setCell ⟨b, 3, none⟩ (.slice (some ⟨g1, 0, none⟩) c.ms.length c1)) b h g1 mc c1 ⟨c.e, c.p, c.ms, c.ms⟩) :=
          Lib.hid (Ct.setSafe X1.x0 X1.x1 X1.x2 X1.x3 X1.fr X1.ms (so1.more (Nat.zero_le _)) X1.hb (by omega) (by omega))
        have HT : Hid (Tn (· = b) w (w1.setCell ⟨b, 3, none⟩ (.slice (some ⟨g1, 0, none⟩) c.ms.length c1))) := Lib.hid ((Tn.ofNew b1).then (Tn.setCell _ b 3 _))
        clear X1 so1 b1 x0 x2
        go_wp2_with fail
        go_ret
        exact ⟨by rw [HA.out]; rfl, by rw [HA.out]; exact ⟨g1, c1, HC.out, .inr hg1, HT.out⟩⟩
      · have HA : Hid (acV c n = (0, c)) := Lib.hid (by unfold acV; rw [if_neg (by omega), if_neg h3])
        have d3 : (n == c.e) = false := by simpa using h3
        clear h1 h2 h3
        go_enter Try.func74, Try.ntmps74
        go_wp2_with fail
        go_ret
        exact ⟨by rw [HA.out]; rfl, by rw [HA.out]; exact ⟨g, sc, HX.out, .inl rfl, Tn.refl _ _⟩⟩

/-- What Change says where it refuses. -/
def ChNo (w : World) (r : Int) (e : Ending) (w' : World) : Prop := e = .returned (.tuple #[.agg #[.int .i64 0, .int .i64 0, .slice none 0 0], .int .i64 r]) ∧ Below w.heap.size w w'
def ChYes (w : World) (b g sc : Nat) (c : Vc) (p : Int) (ms : List Int) (e : Ending) (w' : World) : Prop :=
  ∃ h' mc' A cp K', e = .returned (.tuple #[.agg #[.int .i64 (c.e + 1), .int .i64 p, .slice A ms.length cp], .int .i64 0]) ∧ Ct w' b h' g mc' sc ⟨c.e + 1, p, ms, c.sf.filter fun n => hasB ms n⟩ ∧ w.heap.size ≤ h' ∧ w.heap.size ≤ K' ∧ h' < K' ∧
    So encI 1 w' K' 3 (.slice A ms.length cp) ms ∧ Tn (fun k => k = b ∨ k = g) w w'
section
variable {w : World} {b h g mc sc : Nat} {c : Vc} {p : Int} {A : Option Addr} {K0 mc0 : Nat} {ms : List Int}
set_option maxRecDepth 100000 in
set_option maxHeartbeats 3200000 in
theorem change_no (x : Ct w b h g mc sc c) (hp : Sr encI 1 w K0 A mc0 ms) (hKw : K0 ≤ w.heap.size) {r : Int} {c' : Vc} (hr : chV c p ms = (r, c')) (hr0 : r ≠ 0) :
    Calls Try.prog 73 #[.pointer (some ⟨b, 0, none⟩), .int .i64 p, .slice A ms.length mc0] w (ChNo w r) := by
  have hlt := x.lt.1
  have hp1 : ∀ o, Sr encI 1 (w.alloc o) K0 A mc0 ms := fun o => hp.alloc hKw o
  have HR := Lib.hid (fun W (h : Sr encI 1 W K0 A mc0 ms) (hW : K0 ≤ W.heap.size) => vright_any 1 p K0 A ms.length mc0 ms W rfl h hW)
  have HX := Lib.hid x
  have HP := Lib.hid hp
  clear x hp hp1
  unfold chV at hr
  by_cases h1 : rightV 1 p ms = false
  · rw [if_pos h1] at hr
    have hr9 := congrArg Prod.fst hr
    clear hr
    simp only at hr9
    subst hr9
    rw [h1] at HR
    clear h1 hr0
    go_enter Try.func73, Try.ntmps73
    go_wp2_with fail
    go_at_call 78
    refine (HR.out _ (HP.out.below ((show Below w.heap.size w _ by go_grown).mono hKw)) (by simp; omega)).mono ?_
    rintro e w1 ⟨rfl, b1⟩
    have hz : w.heap.size + 1 < w1.heap.size := by have := b1.size; simp at this; omega
    have z0 := kept b1 (p := ⟨w.heap.size + 1, 0, none⟩) (v := .int .i64 0) (by simp [go_sem])
    have z1 := kept b1 (p := ⟨w.heap.size + 1, 1, none⟩) (v := .int .i64 0) (by simp [go_sem])
    have z2 := kept b1 (p := ⟨w.heap.size + 1, 2, none⟩) (v := .slice none 0 0) (by simp [go_sem])
    have f0 : ∀ j, w1.frozen? ⟨w.heap.size + 1, j, none⟩ = false := fun j => (b1.frozen (p := ⟨w.heap.size + 1, j, none⟩) (by show w.heap.size + 1 < _; simp)).trans (by simp [go_sem])
    have HB : Hid (Below w.heap.size w w1) := Lib.hid ((show Below w.heap.size w _ by go_grown).trans (b1.mono (by simp; omega)))
    clear b1
    go_wp2_with fail
    refine bodyPost_ret (v := .tuple #[.agg #[.int .i64 0, .int .i64 0, .slice none 0 0], .int .i64 1]) (by simp [results, Try.results73, go_sem, z0, z1, z2]) rfl ⟨rfl, ?_⟩
    exact ((HB.out.setCell (p := ⟨w.heap.size + 1, 0, none⟩) (Nat.le_succ _) _).setCell (p := ⟨w.heap.size + 1, 1, none⟩) (Nat.le_succ _) _).setCell (p := ⟨w.heap.size + 1, 2, none⟩) (Nat.le_succ _) _
  rw [if_neg h1] at hr
  have h1' : rightV 1 p ms = true := by simpa using h1
  rw [h1'] at HR
  clear h1 h1'
  have HH := Lib.hid (fun W (h : Below w.heap.size w W) => has_any w.heap.size _ _ sc c.sf p W rfl ((HX.out.sf.sr encI_len).1.below h))
  have hsz := HX.out.lt.2.2
  by_cases h2 : hasB c.sf p = false
  · rw [if_pos h2] at hr
    have hr9 := congrArg Prod.fst hr
    clear hr
    simp only at hr9
    subst hr9
    rw [h2] at HH
    clear h2 hr0
    go_enter Try.func73, Try.ntmps73
    go_wp2_with fail
    go_at_call 78
    refine (HR.out _ (HP.out.below ((show Below w.heap.size w _ by go_grown).mono hKw)) (by simp; omega)).mono ?_
    rintro e w1 ⟨rfl, b1⟩
    have hz : w.heap.size + 1 < w1.heap.size := by have := b1.size; simp at this; omega
    have z0 := kept b1 (p := ⟨w.heap.size + 1, 0, none⟩) (v := .int .i64 0) (by simp [go_sem])
    have z1 := kept b1 (p := ⟨w.heap.size + 1, 1, none⟩) (v := .int .i64 0) (by simp [go_sem])
    have z2 := kept b1 (p := ⟨w.heap.size + 1, 2, none⟩) (v := .slice none 0 0) (by simp [go_sem])
    have f0 : ∀ j, w1.frozen? ⟨w.heap.size + 1, j, none⟩ = false := fun j => (b1.frozen (p := ⟨w.heap.size + 1, j, none⟩) (by show w.heap.size + 1 < _; simp)).trans (by simp [go_sem])
    have HB : Hid (Below w.heap.size w w1) := Lib.hid ((show Below w.heap.size w _ by go_grown).trans (b1.mono (by simp; omega)))
    have y3 := HB.out.cell (p := ⟨b, 3, none⟩) hlt
    rw [HX.out.x3] at y3
    clear b1
    go_wp2_with (go_at_call 117; refine (HH.out _ HB.out).mono ?_; rintro e w2 ⟨rfl, rfl⟩)
    refine bodyPost_ret (v := .tuple #[.agg #[.int .i64 0, .int .i64 0, .slice none 0 0], .int .i64 111]) (by simp [results, Try.results73, go_sem, z0, z1, z2]) rfl ⟨rfl, ?_⟩
    exact ((HB.out.setCell (p := ⟨w.heap.size + 1, 0, none⟩) (Nat.le_succ _) _).setCell (p := ⟨w.heap.size + 1, 1, none⟩) (Nat.le_succ _) _).setCell (p := ⟨w.heap.size + 1, 2, none⟩) (Nat.le_succ _) _
  rw [if_neg h2] at hr
  have h2' : hasB c.sf p = true := by simpa using h2
  rw [h2'] at HH
  clear h2 h2'
  by_cases h3 : 4611686018427387904 ≤ c.e
  · rw [if_pos h3] at hr
    have hr9 := congrArg Prod.fst hr
    clear hr
    simp only at hr9
    subst hr9
    have d3 : decide (4611686018427387904 ≤ c.e) = true := by simpa using h3
    clear h3 hr0
    go_enter Try.func73, Try.ntmps73
    go_wp2_with fail
    go_at_call 78
    refine (HR.out _ (HP.out.below ((show Below w.heap.size w _ by go_grown).mono hKw)) (by simp; omega)).mono ?_
    rintro e w1 ⟨rfl, b1⟩
    have hz : w.heap.size + 1 < w1.heap.size := by have := b1.size; simp at this; omega
    have z0 := kept b1 (p := ⟨w.heap.size + 1, 0, none⟩) (v := .int .i64 0) (by simp [go_sem])
    have z1 := kept b1 (p := ⟨w.heap.size + 1, 1, none⟩) (v := .int .i64 0) (by simp [go_sem])
    have z2 := kept b1 (p := ⟨w.heap.size + 1, 2, none⟩) (v := .slice none 0 0) (by simp [go_sem])
    have f0 : ∀ j, w1.frozen? ⟨w.heap.size + 1, j, none⟩ = false := fun j => (b1.frozen (p := ⟨w.heap.size + 1, j, none⟩) (by show w.heap.size + 1 < _; simp)).trans (by simp [go_sem])
    have HB : Hid (Below w.heap.size w w1) := Lib.hid ((show Below w.heap.size w _ by go_grown).trans (b1.mono (by simp; omega)))
    have y3 := HB.out.cell (p := ⟨b, 3, none⟩) hlt
    rw [HX.out.x3] at y3
    have y0 := HB.out.cell (p := ⟨b, 0, none⟩) hlt
    rw [HX.out.x0] at y0
    clear b1
    go_wp2_with (go_at_call 117; refine (HH.out _ HB.out).mono ?_; rintro e w2 ⟨rfl, rfl⟩)
    refine bodyPost_ret (v := .tuple #[.agg #[.int .i64 0, .int .i64 0, .slice none 0 0], .int .i64 20]) (by simp [results, Try.results73, go_sem, z0, z1, z2]) rfl ⟨rfl, ?_⟩
    exact ((HB.out.setCell (p := ⟨w.heap.size + 1, 0, none⟩) (Nat.le_succ _) _).setCell (p := ⟨w.heap.size + 1, 1, none⟩) (Nat.le_succ _) _).setCell (p := ⟨w.heap.size + 1, 2, none⟩) (Nat.le_succ _) _
  · rw [if_neg h3] at hr
    injection hr with hr _
    exact absurd hr.symm hr0
set_option maxRecDepth 100000 in
set_option maxHeartbeats 6400000 in
theorem change_yes (x : Ct w b h g mc sc c) (hp : Sr encI 1 w K0 A mc0 ms) (hKw : K0 ≤ w.heap.size) (hm : 0 < ms.length → ∀ ad : Addr, A = some ad → ad.block ≠ b ∧ ad.block ≠ g)
    (h1 : rightV 1 p ms = true) (h2 : hasB c.sf p = true) (h3 : c.e < 4611686018427387904) (h0 : 1 ≤ c.e) :
    Calls Try.prog 73 #[.pointer (some ⟨b, 0, none⟩), .int .i64 p, .slice A ms.length mc0] w (ChYes w b g sc c p ms) := by
  have hml := mems_len (rightV_iff.1 h1).2.2.1
  have hms0 : 0 < ms.length := by omega
  have hms8 : ms.length * 8 ≤ 140737488355328 := by omega
  have hlt := x.lt.1
  have HLT0 := Lib.hid x.lt
  have HM : Hid ((0 < ms.length → ∀ ad : Addr, A = some ad → ¬ ad.block = b) ∧ (0 < ms.length → ∀ ad : Addr, A = some ad → ad.block ≠ g)) := Lib.hid ⟨fun hl ad e => (hm hl ad e).1, fun hl ad e => (hm hl ad e).2⟩
  have HR := Lib.hid (fun W (h : Sr encI 1 W K0 A mc0 ms) (hW : K0 ≤ W.heap.size) => vright_any 1 p K0 A ms.length mc0 ms W rfl h hW)
  rw [h1] at HR
  have HH := Lib.hid (fun W (h : Below w.heap.size w W) => has_any w.heap.size _ _ sc c.sf p W rfl ((x.sf.sr encI_len).1.below h))
  rw [h2] at HH
  have d3 : decide (4611686018427387904 ≤ c.e) = false := by simp; omega
  have HWR : Hid (Value.int .i64 (IntKind.i64.wrap (c.e + 1)) = .int .i64 (c.e + 1)) := Lib.hid (by rw [IntWalk.i64_in _ (by omega)])
  have HX := Lib.hid x
  have HP := Lib.hid hp
  clear x hp h1 h2 hm hml
  go_enter Try.func73, Try.ntmps73
  go_wp2_with fail
  go_at_call 78
  refine (HR.out _ (HP.out.below ((show Below w.heap.size w _ by go_grown).mono hKw)) (by simp; omega)).mono ?_
  rintro e W2 ⟨rfl, b1⟩
  have HBZ : Hid (w.heap.size < W2.heap.size) := Lib.hid (by have := b1.size; simp at this; omega)
  have HRV : Hid (W2.cell? ⟨w.heap.size + 1, 0, none⟩ = some (.int .i64 0) ∧ W2.cell? ⟨w.heap.size + 1, 1, none⟩ = some (.int .i64 0) ∧ W2.cell? ⟨w.heap.size + 1, 2, none⟩ = some (.slice none 0 0) ∧ (∀ j, W2.frozen? ⟨w.heap.size + 1, j, none⟩ = false) ∧ w.heap.size + 1 < W2.heap.size) := Lib.hid
    ⟨kept b1 (by simp [go_sem]), kept b1 (by simp [go_sem]), kept b1 (by simp [go_sem]), fun j => (b1.frozen (p := ⟨w.heap.size + 1, j, none⟩) (by show w.heap.size + 1 < _; simp)).trans (by simp [go_sem]), by have := b1.size; simp at this; omega⟩
  have HB2 : Hid (Below w.heap.size w W2) := Lib.hid ((show Below w.heap.size w _ by go_grown).trans (b1.mono (by simp; omega)))
  have HBX : Hid (W2.cell? ⟨w.heap.size, 0, none⟩ = some (.slice A ms.length mc0)) := Lib.hid (kept b1 (by simp [go_sem]))
  have HC2 : Hid (Ct W2 b h g mc sc c) := Lib.hid (HX.out.below HB2.out)
  have HLT := Lib.hid HC2.out.lt
  have y3 := HC2.out.x3
  have y0 := HC2.out.x0
  clear b1
  go_upto_region 9 with (go_at_call 117; refine (HH.out _ HB2.out).mono ?_; rintro e w2 ⟨rfl, rfl⟩)
  apply region_VS (HV W2.heap.size) (Below W2.heap.size W2) (fun w' => ∃ h' mc', Ct w' b h' g mc' sc ⟨c.e + 1, p, ms, c.sf⟩ ∧ W2.heap.size ≤ h' ∧ Tn (· = b) W2 w') 13 [.v (.pointer (some ⟨b, 0, none⟩)), .v (.pointer (some ⟨b, 0, none⟩)), .v (.pointer (some ⟨b, 0, none⟩)), .v (.pointer (some ⟨b, 0, none⟩)), .v (.pointer (some ⟨b, 0, none⟩)), .v (.int .i64 c.e), .v (.int .i64 (c.e + 1)), .v (.int .i64 p), .v (.slice A ms.length mc0), .s ms, .b (c.e + 1) p ms, .v (.pointer (some ⟨b, 0, none⟩)), .v (.pointer (some ⟨b, 0, none⟩)), .v undef] (.v undef)
  case mono => exact fun p v w0 w1 h hb => HV.mono h hb
  case hl => kernel_rfl
  case hm => kernel_rfl
  case hf => kernel_rfl
  case hQ => exact (by intro c x y w e h; exact And.intro (e.symm.trans (And.left h)) (And.right h))
  case hF => intro vs; simp only [putAll, Act.put, List.setIfInBounds_toArray, List.set_cons_zero, List.set_cons_succ, Nat.reduceAdd]; rfl
  case h0 => exact ⟨rfl, rfl, rfl, Nat.le_refl _, fun _ _ => rfl⟩
  case hstep =>
    repeat' (first | exact AllOps.nil | apply AllOps.cons)
    · intro vs wx hG hd K hK
      replace hK : ∀ (uu : Value) (w' : World), Below wx.heap.size wx w' → ((Below W2.heap.size W2)) w' → (HV W2.heap.size) (.v (.pointer (some ⟨b, 0, none⟩))) uu w' → K _ w' := hK
      simp only [Act.put, List.setIfInBounds_toArray, List.set_cons_zero, List.set_cons_succ] at hK ⊢
      have HK := Lib.hid hK
      have HG := Lib.hid hG
      clear hK hd
      clear hG
      go_simp
      exact HK.out _ _ (Below.refl _ _) HG.out rfl
    · intro vs wx hG hd K hK
      replace hK : ∀ (uu : Value) (w' : World), Below wx.heap.size wx w' → ((Below W2.heap.size W2)) w' → (HV W2.heap.size) (.v (.pointer (some ⟨b, 0, none⟩))) uu w' → K _ w' := hK
      simp only [Act.put, List.setIfInBounds_toArray, List.set_cons_zero, List.set_cons_succ] at hK ⊢
      have HK := Lib.hid hK
      have HG := Lib.hid hG
      clear hK hd
      clear hG
      go_simp
      exact HK.out _ _ (Below.refl _ _) HG.out rfl
    · intro vs wx hG hd K hK
      have e1 : vs 1 = .pointer (some ⟨b, 0, none⟩) := hd.get (j := 1) (by simp [depsOf, Region.binds])
      replace hK : ∀ (uu : Value) (w' : World), Below wx.heap.size wx w' → ((Below W2.heap.size W2)) w' → (HV W2.heap.size) (.v (.pointer (some ⟨b, 0, none⟩))) uu w' → K _ w' := hK
      simp only [Act.put, List.setIfInBounds_toArray, List.set_cons_zero, List.set_cons_succ, e1] at hK ⊢
      have HK := Lib.hid hK
      have HG := Lib.hid hG
      clear hK hd e1
      clear hG
      go_simp
      exact HK.out _ _ (Below.refl _ _) HG.out rfl
    · intro vs wx hG hd K hK
      have e2 : vs 2 = .pointer (some ⟨b, 0, none⟩) := hd.get (j := 2) (by simp [depsOf, Region.binds])
      replace hK : ∀ (uu : Value) (w' : World), Below wx.heap.size wx w' → ((Below W2.heap.size W2)) w' → (HV W2.heap.size) (.v (.pointer (some ⟨b, 0, none⟩))) uu w' → K _ w' := hK
      simp only [Act.put, List.setIfInBounds_toArray, List.set_cons_zero, List.set_cons_succ, e2] at hK ⊢
      have HK := Lib.hid hK
      have HG := Lib.hid hG
      clear hK hd e2
      clear hG
      go_simp
      exact HK.out _ _ (Below.refl _ _) HG.out rfl
    · intro vs wx hG hd K hK
      have e3 : vs 3 = .pointer (some ⟨b, 0, none⟩) := hd.get (j := 3) (by simp [depsOf, Region.binds])
      replace hK : ∀ (uu : Value) (w' : World), Below wx.heap.size wx w' → ((Below W2.heap.size W2)) w' → (HV W2.heap.size) (.v (.pointer (some ⟨b, 0, none⟩))) uu w' → K _ w' := hK
      simp only [Act.put, List.setIfInBounds_toArray, List.set_cons_zero, List.set_cons_succ, e3] at hK ⊢
      have HK := Lib.hid hK
      have HG := Lib.hid hG
      clear hK hd e3
      clear hG
      go_simp
      exact HK.out _ _ (Below.refl _ _) HG.out rfl
    · intro vs wx hG hd K hK
      have e4 : vs 4 = .pointer (some ⟨b, 0, none⟩) := hd.get (j := 4) (by simp [depsOf, Region.binds])
      replace hK : ∀ (uu : Value) (w' : World), Below wx.heap.size wx w' → ((Below W2.heap.size W2)) w' → (HV W2.heap.size) (.v (.int .i64 c.e)) uu w' → K _ w' := hK
      simp only [Act.put, List.setIfInBounds_toArray, List.set_cons_zero, List.set_cons_succ, e4] at hK ⊢
      have HK := Lib.hid hK
      have HG := Lib.hid hG
      clear hK hd e4
      have hx5 := HG.out.cell (p := ⟨b, 0, none⟩) HLT.out.1
      rw [HC2.out.x0] at hx5
      have hxb := HG.out.cell (p := ⟨w.heap.size, 0, none⟩) HBZ.out
      rw [HBX.out] at hxb
      clear hG
      go_simp
      exact HK.out _ _ (Below.refl _ _) HG.out rfl
    · intro vs wx hG hd K hK
      have e5 : vs 5 = .int .i64 c.e := hd.get (j := 5) (by simp [depsOf, Region.binds])
      replace hK : ∀ (uu : Value) (w' : World), Below wx.heap.size wx w' → ((Below W2.heap.size W2)) w' → (HV W2.heap.size) (.v (.int .i64 (c.e + 1))) uu w' → K _ w' := hK
      simp only [Act.put, List.setIfInBounds_toArray, List.set_cons_zero, List.set_cons_succ, e5] at hK ⊢
      have HK := Lib.hid hK
      have HG := Lib.hid hG
      clear hK hd e5
      clear hG
      go_simp
      exact HK.out _ _ (Below.refl _ _) HG.out HWR.out
    · intro vs wx hG hd K hK
      replace hK : ∀ (uu : Value) (w' : World), Below wx.heap.size wx w' → ((Below W2.heap.size W2)) w' → (HV W2.heap.size) (.v (.int .i64 p)) uu w' → K _ w' := hK
      simp only [Act.put, List.setIfInBounds_toArray, List.set_cons_zero, List.set_cons_succ] at hK ⊢
      have HK := Lib.hid hK
      have HG := Lib.hid hG
      clear hK hd
      clear hG
      go_simp
      exact HK.out _ _ (Below.refl _ _) HG.out rfl
    · intro vs wx hG hd K hK
      replace hK : ∀ (uu : Value) (w' : World), Below wx.heap.size wx w' → ((Below W2.heap.size W2)) w' → (HV W2.heap.size) (.v (.slice A ms.length mc0)) uu w' → K _ w' := hK
      simp only [Act.put, List.setIfInBounds_toArray, List.set_cons_zero, List.set_cons_succ] at hK ⊢
      have HK := Lib.hid hK
      have HG := Lib.hid hG
      clear hK hd
      have hx5 := HG.out.cell (p := ⟨b, 0, none⟩) HLT.out.1
      rw [HC2.out.x0] at hx5
      have hxb := HG.out.cell (p := ⟨w.heap.size, 0, none⟩) HBZ.out
      rw [HBX.out] at hxb
      clear hG
      go_simp
      exact HK.out _ _ (Below.refl _ _) HG.out rfl
    · intro vs wx hG hd K hK
      have e8 : vs 8 = .slice A ms.length mc0 := hd.get (j := 8) (by simp [depsOf, Region.binds])
      replace hK : ∀ (uu : Value) (w' : World), Below wx.heap.size wx w' → ((Below W2.heap.size W2)) w' → (HV W2.heap.size) (.s ms) uu w' → K _ w' := hK
      simp only [Act.put, List.setIfInBounds_toArray, List.set_cons_zero, List.set_cons_succ, e8] at hK ⊢
      have HK := Lib.hid hK
      have HG := Lib.hid hG
      clear hK hd e8
      clear hG
      go_simp
      go_at_call 77
      refine (clone_ints K0 _ _ _ _ wx rfl (HP.out.below (HB2.out.trans (HG.out.mono HB2.out.size) |>.mono hKw)) (Nat.le_trans hKw (Nat.le_trans HB2.out.size HG.out.size)) hms8).mono ?_
      rintro e w9 ⟨A9, c9, rfl, h9, hb⟩
      exact HK.out _ _ hb (HG.out.trans (hb.mono HG.out.size)) ⟨A9, c9, rfl, h9.more HG.out.size⟩
    · intro vs wx hG hd K hK
      have e6 : vs 6 = .int .i64 (c.e + 1) := hd.get (j := 6) (by simp [depsOf, Region.binds])
      have e7 : vs 7 = .int .i64 p := hd.get (j := 7) (by simp [depsOf, Region.binds])
      obtain ⟨A9, c9, e9, r9⟩ : ∃ A' c', vs 9 = .slice A' ms.length c' ∧ So encI 1 wx W2.heap.size 3 (.slice A' ms.length c') ms := hd.get (j := 9) (by simp [depsOf, Region.binds])
      replace hK : ∀ (uu : Value) (w' : World), Below wx.heap.size wx w' → ((Below W2.heap.size W2)) w' → (HV W2.heap.size) (.b (c.e + 1) p ms) uu w' → K _ w' := hK
      simp only [Act.put, List.setIfInBounds_toArray, List.set_cons_zero, List.set_cons_succ, e6, e7, e9] at hK ⊢
      have HK := Lib.hid hK
      have HG := Lib.hid hG
      clear hK hd e6 e7 e9
      clear hG
      go_simp
      exact HK.out _ _ (Below.refl _ _) HG.out ⟨_, _, rfl, r9⟩
    · intro vs wx hG hd K hK
      have e0 : vs 0 = .pointer (some ⟨b, 0, none⟩) := hd.get (j := 0) (by simp [depsOf, Region.binds])
      replace hK : ∀ (uu : Value) (w' : World), Below wx.heap.size wx w' → ((Below W2.heap.size W2)) w' → (HV W2.heap.size) (.v (.pointer (some ⟨b, 0, none⟩))) uu w' → K _ w' := hK
      simp only [Act.put, List.setIfInBounds_toArray, List.set_cons_zero, List.set_cons_succ, e0] at hK ⊢
      have HK := Lib.hid hK
      have HG := Lib.hid hG
      clear hK hd e0
      clear hG
      go_simp
      exact HK.out _ _ (Below.refl _ _) HG.out rfl
    · intro vs wx hG hd K hK
      have e11 : vs 11 = .pointer (some ⟨b, 0, none⟩) := hd.get (j := 11) (by simp [depsOf, Region.binds])
      replace hK : ∀ (uu : Value) (w' : World), Below wx.heap.size wx w' → ((Below W2.heap.size W2)) w' → (HV W2.heap.size) (.v (.pointer (some ⟨b, 0, none⟩))) uu w' → K _ w' := hK
      simp only [Act.put, List.setIfInBounds_toArray, List.set_cons_zero, List.set_cons_succ, e11] at hK ⊢
      have HK := Lib.hid hK
      have HG := Lib.hid hG
      clear hK hd e11
      clear hG
      go_simp
      exact HK.out _ _ (Below.refl _ _) HG.out rfl
    · intro vs wx hG hd K hK
      obtain ⟨A10, c10, e10, r10⟩ : ∃ A' c', vs 10 = .agg #[.int .i64 (c.e + 1), .int .i64 p, .slice A' ms.length c'] ∧ So encI 1 wx W2.heap.size 3 (.slice A' ms.length c') ms := hd.get (j := 10) (by simp [depsOf, Region.binds])
      have e12 : vs 12 = .pointer (some ⟨b, 0, none⟩) := hd.get (j := 12) (by simp [depsOf, Region.binds])
      replace hK : ∀ (uu : Value) (w' : World), (fun w' => ∃ h' mc', Ct w' b h' g mc' sc ⟨c.e + 1, p, ms, c.sf⟩ ∧ W2.heap.size ≤ h' ∧ Tn (· = b) W2 w') w' → K _ w' := hK
      simp only [Act.put, e10, e12] at hK ⊢
      have HK := Lib.hid hK
      have HG := Lib.hid hG
      clear hK hd e10 e12
      obtain ⟨h9, rfl⟩ := own_some r10 hms0
      have X := HC2.out.below HG.out
      have hh9 := (r10.lt h9 rfl).1
      have hltb := HLT.out
      have y0 := X.x0
      have y1 := X.x1
      have y2 := X.x2
      have yf := X.fr
      have HX := Lib.hid X
      have HR := Lib.hid r10
      have HYF := Lib.hid yf
      clear X r10 hG
      go_simp
      refine HK.out undef _ ⟨h9, c10, ?_, hh9, ?_⟩
      · exact HX.out.setView (HR.out.more (Nat.zero_le _)) (by omega) (by omega)
      · exact (((Tn.ofNew HG.out).thenQ (Tn.setCell _ b 0 _) (fun _ _ h => h)).thenQ (Tn.setCell _ b 1 _) (fun _ _ h => h)).thenQ (Tn.setCell _ b 2 _) (fun _ _ h => h)
  case hend =>
    intro vs W3 hE
    obtain ⟨h9, c9, X3, kh9, T3⟩ := hE
    have hz3 := T3.size
    have hz2 := HB2.out.size
    have hbz : w.heap.size < W2.heap.size := HBZ.out
    have hbx3 : W3.cell? ⟨w.heap.size, 0, none⟩ = some (.slice A ms.length mc0) := T3.cell HBX.out (fun e => by have := HLT0.out.1; have e2 : w.heap.size = b := e; omega)
    have hsr3 := (HP.out.below (HB2.out.mono hKw)).tn T3 (fun hl ad e hbb => HM.out.1 hl ad e hbb)
    have y3 := X3.x3
    have HD := Lib.hid (delgone_any w.heap.size K0 A mc0 ms 0 g c.sf.length sc c.sf W3 X3.sf hbx3 hsr3 (by have := HLT0.out.2.2; omega) (fun hl ad e => HM.out.2 hl ad e))
    have HX3 := Lib.hid X3
    have HT3 := Lib.hid T3
    clear X3 T3 hsr3
    go_wp2_with fail
    go_at_call 118
    refine HD.out.mono ?_
    rintro e W4 ⟨m4, rfl, so4, T4⟩
    have hz4 := T4.size
    obtain rfl := so4.lenI
    have X4 : Ct W4 b h9 g c9 sc ⟨c.e + 1, p, ms, c.sf⟩ ∨ True := .inr trivial
    have q0 := T4.cell HX3.out.x0 (fun e => HX3.out.gb e.symm)
    have q1 := T4.cell HX3.out.x1 (fun e => HX3.out.gb e.symm)
    have q2 := T4.cell HX3.out.x2 (fun e => HX3.out.gb e.symm)
    have q3 := T4.cell HX3.out.x3 (fun e => HX3.out.gb e.symm)
    have qf : ∀ j, W4.frozen? ⟨b, j, none⟩ = false := fun j => (T4.frozen (p := ⟨b, j, none⟩) HX3.out.lt.1 (fun e => HX3.out.gb e.symm)).trans (HX3.out.fr j)
    have qb : b < W4.heap.size := Nat.lt_of_lt_of_le HX3.out.lt.1 hz4
    have HX5 : Hid (Ct (W4.setCell ⟨b, 3, none⟩ (.slice (some ⟨g, 0, none⟩) (c.sf.filter fun n => hasB ms n).length sc)) b h9 g c9 sc ⟨c.e + 1, p, ms, c.sf.filter fun n => hasB ms n⟩) :=
      Lib.hid (Ct.setSafe q0 q1 q2 q3 qf (HX3.out.ms.tn T4 (fun k e => by injection e with e; exact e ▸ HX3.out.hg)) so4 HX3.out.hb HX3.out.gb HX3.out.hg)
    have HT5 : Hid (Tn (fun k => k = b ∨ k = g) W3 (W4.setCell ⟨b, 3, none⟩ (.slice (some ⟨g, 0, none⟩) (c.sf.filter fun n => hasB ms n).length sc))) := Lib.hid ((T4.mono fun k _ e => .inr e).thenQ (Tn.setCell _ b 3 _) fun k _ e => .inl e)
    have qf3 := qf 3
    clear X4 so4 T4 q0 q1 q2 qf
    generalize hsf : (c.sf.filter fun n => hasB ms n) = sf' at *
    have HSF := Lib.hid hsf
    clear hsf
    go_wp2_with fail
    generalize hW5 : W4.setCell ⟨b, 3, none⟩ (.slice (some ⟨g, 0, none⟩) sf'.length sc) = W5 at *
    have hz5 : W5.heap.size = W4.heap.size := by rw [← hW5]; simp
    clear hW5
    go_at_call 28
    refine (now_any HX5.out (by omega)).mono ?_
    rintro e W6 ⟨A6, c6, rfl, so6, b6⟩
    have hz6 := b6.size
    have X6 := HX5.out.below b6
    have TT : Tn (fun k => k = b ∨ k = g) w W6 := ((((Tn.ofNew HB2.out).thenQ HT3.out (fun k _ e => .inl e)).thenQ HT5.out (fun k _ h => h))).thenQ (Tn.ofNew b6) (fun k _ h => h)
    have R5 : ∀ j v, W2.cell? ⟨w.heap.size + 1, j, none⟩ = some v → W6.cell? ⟨w.heap.size + 1, j, none⟩ = some v := fun j v hv => kept b6 (HT5.out.cell (HT3.out.cell hv (fun e => by have := HLT0.out.1; simp only at e; omega)) (fun e => by have := HLT0.out; rcases e with e | e <;> simp only at e <;> omega))
    have r0 := R5 0 _ HRV.out.1
    have r1 := R5 1 _ HRV.out.2.1
    have r2 := R5 2 _ HRV.out.2.2.1
    have rf : ∀ j, W6.frozen? ⟨w.heap.size + 1, j, none⟩ = false := fun j => ((b6.frozen (p := ⟨w.heap.size + 1, j, none⟩) (by show w.heap.size + 1 < _; have := HRV.out.2.2.2.2; omega)).trans ((HT5.out.frozen (p := ⟨w.heap.size + 1, j, none⟩) (by show w.heap.size + 1 < _; have := HRV.out.2.2.2.2; omega) (fun e => by have := HLT0.out; rcases e with e | e <;> simp only at e <;> omega)).trans (HT3.out.frozen (p := ⟨w.heap.size + 1, j, none⟩) (by show w.heap.size + 1 < _; exact HRV.out.2.2.2.2) (fun e => by have := HLT0.out.1; simp only at e; omega)))).trans (HRV.out.2.2.2.1 j)
    have HX6 := Lib.hid X6
    have HTT := Lib.hid TT
    have HS6 := Lib.hid so6
    have hq6 : w.heap.size + 1 < W6.heap.size := by have := HRV.out.2.2.2.2; omega
    have HR5 := Lib.hid R5
    clear X6 TT so6 R5 b6
    go_wp2_with fail
    refine bodyPost_ret (v := .tuple #[.agg #[.int .i64 (c.e + 1), .int .i64 p, .slice A6 ms.length c6], .int .i64 0]) (by simp [results, Try.results73, go_sem, r0, r1, r2]) rfl ⟨h9, c9, A6, c6, W5.heap.size, rfl, ?_, by omega, by omega, by have := HX5.out.lt.2.1; omega, ?_, ?_⟩
    · rw [HSF.out]
      exact HX6.out.tn (((Tn.setCell _ (w.heap.size + 1) 0 _).then (Tn.setCell _ (w.heap.size + 1) 1 _)).then (Tn.setCell _ (w.heap.size + 1) 2 _)) (by have := HLT0.out; omega) (by have := HRV.out.2.2.2.2; omega) (by have := HLT0.out; omega)
    · exact HS6.out.tn (((Tn.setCell _ (w.heap.size + 1) 0 _).then (Tn.setCell _ (w.heap.size + 1) 1 _)).then (Tn.setCell _ (w.heap.size + 1) 2 _)) (fun k e h => by have := (HS6.out.lt k e).1; have := HRV.out.2.2.2.2; omega)
    · refine (((HTT.out.thenNew (Tn.setCell _ (w.heap.size + 1) 0 _) ?_).thenNew (Tn.setCell _ (w.heap.size + 1) 1 _) ?_).thenNew (Tn.setCell _ (w.heap.size + 1) 2 _) ?_)
      all_goals (intro k hk e; omega)
end
end Go.Proofs.Ytpnhdocimjkakaa
