/- Take. -/
import Derived.Test.YtakpfjamlmfbbaaPDel
namespace Go.Proofs.Ytakpfjamlmfbbaa
open Go.RowKit Go.Conc

theorem Po.taken {w w1 : World} {K p ch room g n n' cap i : Nat} {l : List Mg} {B : List (List UInt8)} {buf' : Array Value} {s r' : Nat} (h : Po w K p ch room (.slice (some ⟨g, 0, none⟩) n cap) l B) (hi : i < l.length)
    (t1 : Tn (· = g) w w1) (so1 : So encM 3 w1 K 36 (.slice (some ⟨g, 0, none⟩) n' cap) (l.eraseIdx i)) (hbuf : buf'.size = l.length - 1) :
    Po ((w1.setCell ⟨p, 1, none⟩ (.slice (some ⟨g, 0, none⟩) n' cap)).setChan ch room buf' false s r' false) K p ch room (.slice (some ⟨g, 0, none⟩) n' cap) (l.eraseIdx i) (B.eraseIdx i) ∧
    Tn (TP p ch (.slice (some ⟨g, 0, none⟩) n cap)) w ((w1.setCell ⟨p, 1, none⟩ (.slice (some ⟨g, 0, none⟩) n' cap)).setChan ch room buf' false s r' false) := by
  have npg : p ≠ g := fun e => h.np (by rw [e]; rfl)
  have ncg : ch ≠ g := fun e => h.nc (by rw [e]; rfl)
  have hp := h.lt
  have hc := h.ltc
  have z1 := t1.size
  have hle : (l.eraseIdx i).length = l.length - 1 := by rw [List.length_eraseIdx, if_pos hi]
  have hle' : (B.eraseIdx i).length = l.length - 1 := by rw [List.length_eraseIdx, if_pos (by rw [h.len]; exact hi), h.len]
  have tS := Tn.setCell w1 p 1 (.slice (some ⟨g, 0, none⟩) n' cap)
  have tC := Tn.setChan (w1.setCell ⟨p, 1, none⟩ (.slice (some ⟨g, 0, none⟩) n' cap)) ch room buf' false s r' false
  have T : Tn (TP p ch (.slice (some ⟨g, 0, none⟩) n cap)) w ((w1.setCell ⟨p, 1, none⟩ (.slice (some ⟨g, 0, none⟩) n' cap)).setChan ch room buf' false s r' false) :=
    ((t1.mono (Q := TP p ch (.slice (some ⟨g, 0, none⟩) n cap)) fun k _ e => .inr (.inr (by rw [e]; rfl))).thenQ tS fun k _ e => .inl e).thenQ tC fun k _ e => .inr (.inl e)
  have cz : (w1.setCell ⟨p, 1, none⟩ (.slice (some ⟨g, 0, none⟩) n' cap)).heap.size = w1.heap.size := by simp [World.setCell]
  refine ⟨{ c0 := ?_, c1 := ?_, f1 := ?_, chan := ⟨buf', s, r', heap_setChan _ ch room buf' false s r' false (by rw [cz]; omega), by rw [hle]; exact hbuf⟩, le := by rw [hle]; have := h.le; omega, so := ?_, np := h.np, nc := h.nc, pc := h.pc, kp := h.kp, kc := h.kc, len := by rw [hle, hle'], bd := ?_ }, T⟩
  · refine tC.cell ?_ (fun e => h.pc e)
    rw [World.cell?_setCell_other]
    · exact t1.cell h.c0 npg
    · intro e; cases e
  · refine tC.cell ?_ (fun e => h.pc e)
    exact World.cell?_setCell_same' _ _ _ (by rw [t1.cell h.c1 npg]; rfl)
  · refine (tC.frozen (p := ⟨p, 1, none⟩) (by rw [cz]; show p < _; omega) (fun e => h.pc e)).trans ?_
    rw [World.frozen?_setCell]
    exact (t1.frozen (p := ⟨p, 1, none⟩) hp npg).trans h.f1
  · refine tC.so (tS.so so1 fun q hq e => ?_) fun q hq e => ?_
    · have e2 : some g = some q := hq
      injection e2 with e2
      exact npg (by rw [← e, e2])
    · have e2 : some g = some q := hq
      injection e2 with e2
      exact ncg (by rw [← e, e2])
  · intro j m b hm hB
    rw [List.getElem?_eraseIdx] at hm hB
    have key : ∀ k : Nat, l[k]? = some m → B[k]? = some b → Bdy ((w1.setCell ⟨p, 1, none⟩ (.slice (some ⟨g, 0, none⟩) n' cap)).setChan ch room buf' false s r' false) (TP p ch (.slice (some ⟨g, 0, none⟩) n' cap)) m b := fun k h1 h2 => by
      have hb := h.bd k m b h1 h2
      exact (hb.tn T hb.ok).bad hb.ok
    by_cases hj : j < i
    · rw [if_pos hj] at hm hB; exact key j hm hB
    · rw [if_neg hj] at hm hB; exact key (j + 1) hm hB

/-- What Take did. -/
def Took (w : World) (K p ch room : Nat) (v : Value) (l : List Mg) (B : List (List UInt8)) (i : Nat) (m : Mg) (b : List UInt8) (e : Ending) (w' : World) : Prop :=
  ∃ A c v', e = .returned (.tuple #[aggM ⟨m.f, m.t, A, b.length, c⟩, .int .i64 0]) ∧ Ob w' w.heap.size (.slice A b.length c) b ∧ Po w' K p ch room v' (l.eraseIdx i) (B.eraseIdx i) ∧ Tn (TP p ch v) w w' ∧ v'.ownBlock = v.ownBlock

set_option maxRecDepth 100000 in
theorem take_nil (i : Int) (w : World) : Calls Try.prog 7 #[.pointer none, .int .i64 i] w fun e w' => e = .returned (noMsg 2) ∧ Below w.heap.size w w' := by
  go_enter Try.func7, Try.ntmps7
  go_wp2_with (go_at_call 8; refine (lookm_nil _ _).mono ?_; rintro e w1 ⟨rfl, hb1⟩; have q0 : w1.cell? ⟨w.heap.size, 0, none⟩ = some (.int .i64 0) := kept hb1 (by simp); have q1 : w1.cell? ⟨w.heap.size, 1, none⟩ = some (.int .i64 0) := kept hb1 (by simp); have q2 : w1.cell? ⟨w.heap.size, 2, none⟩ = some (.slice none 0 0) := kept hb1 (by simp); have g0 : w1.frozen? ⟨w.heap.size, 0, none⟩ = false := (hb1.frozen (p := ⟨w.heap.size, 0, none⟩) (by simp)).trans (by simp); have g1 : w1.frozen? ⟨w.heap.size, 1, none⟩ = false := (hb1.frozen (p := ⟨w.heap.size, 1, none⟩) (by simp)).trans (by simp); have g2 : w1.frozen? ⟨w.heap.size, 2, none⟩ = false := (hb1.frozen (p := ⟨w.heap.size, 2, none⟩) (by simp)).trans (by simp); have z1 : w.heap.size < w1.heap.size := (by have := hb1.size; simp at this; omega))
  have hb : Below w.heap.size w w1 := ((Below.refl _ _).alloc (Nat.le_refl _) _).trans (hb1.mono (by simp))
  generalize hW : (World.alloc (World.setCell _ _ _) _ : World) = W'
  have y0 : W'.cell? ⟨w.heap.size, 0, none⟩ = some (.int .i64 0) := by rw [← hW]; refine keptA ?_; simp [go_sem, q0]
  have y1 : W'.cell? ⟨w.heap.size, 1, none⟩ = some (.int .i64 0) := by rw [← hW]; refine keptA ?_; simp [go_sem, q1]
  have y2 : W'.cell? ⟨w.heap.size, 2, none⟩ = some (.slice none 0 0) := by rw [← hW]; refine keptA ?_; simp [go_sem, q2]
  refine bodyPost_ret (v := noMsg 2) (by simp [results, Try.results7, go_sem, y0, y1, y2]) rfl ⟨rfl, ?_⟩
  rw [← hW]
  exact (((hb.setCell (p := ⟨w.heap.size, 0, none⟩) (by simp) _).setCell (p := ⟨w.heap.size, 1, none⟩) (by simp) _).setCell (p := ⟨w.heap.size, 2, none⟩) (by simp) _).alloc (by simp [World.setCell]; omega) _
set_option maxRecDepth 100000 in
theorem take_bad (K p ch room : Nat) (v : Value) (l : List Mg) (B : List (List UInt8)) (i : Int) (w : World) (h : Po w K p ch room v l B) (hi : i < 0 ∨ (l.length : Int) ≤ i) : Calls Try.prog 7 #[.pointer (some ⟨p, 0, none⟩), .int .i64 i] w fun e w' => e = .returned (noMsg 1) ∧ Below w.heap.size w w' := by
  have H := Lib.hid h
  clear h
  go_enter Try.func7, Try.ntmps7
  go_wp2_with (go_at_call 8; refine (lookm_bad K p ch room v l B i _ (H.out.alloc _) hi).mono ?_; rintro e w1 ⟨rfl, hb1⟩; have q0 : w1.cell? ⟨w.heap.size, 0, none⟩ = some (.int .i64 0) := kept hb1 (by simp); have q1 : w1.cell? ⟨w.heap.size, 1, none⟩ = some (.int .i64 0) := kept hb1 (by simp); have q2 : w1.cell? ⟨w.heap.size, 2, none⟩ = some (.slice none 0 0) := kept hb1 (by simp); have g0 : w1.frozen? ⟨w.heap.size, 0, none⟩ = false := (hb1.frozen (p := ⟨w.heap.size, 0, none⟩) (by simp)).trans (by simp); have g1 : w1.frozen? ⟨w.heap.size, 1, none⟩ = false := (hb1.frozen (p := ⟨w.heap.size, 1, none⟩) (by simp)).trans (by simp); have g2 : w1.frozen? ⟨w.heap.size, 2, none⟩ = false := (hb1.frozen (p := ⟨w.heap.size, 2, none⟩) (by simp)).trans (by simp); have z1 : w.heap.size < w1.heap.size := (by have := hb1.size; simp at this; omega))
  have hb : Below w.heap.size w w1 := ((Below.refl _ _).alloc (Nat.le_refl _) _).trans (hb1.mono (by simp))
  generalize hW : (World.alloc (World.setCell _ _ _) _ : World) = W'
  have y0 : W'.cell? ⟨w.heap.size, 0, none⟩ = some (.int .i64 0) := by rw [← hW]; refine keptA ?_; simp [go_sem, q0]
  have y1 : W'.cell? ⟨w.heap.size, 1, none⟩ = some (.int .i64 0) := by rw [← hW]; refine keptA ?_; simp [go_sem, q1]
  have y2 : W'.cell? ⟨w.heap.size, 2, none⟩ = some (.slice none 0 0) := by rw [← hW]; refine keptA ?_; simp [go_sem, q2]
  refine bodyPost_ret (v := noMsg 1) (by simp [results, Try.results7, go_sem, y0, y1, y2]) rfl ⟨rfl, ?_⟩
  rw [← hW]
  exact (((hb.setCell (p := ⟨w.heap.size, 0, none⟩) (by simp) _).setCell (p := ⟨w.heap.size, 1, none⟩) (by simp) _).setCell (p := ⟨w.heap.size, 2, none⟩) (by simp) _).alloc (by simp [World.setCell]; omega) _
end Go.Proofs.Ytakpfjamlmfbbaa
