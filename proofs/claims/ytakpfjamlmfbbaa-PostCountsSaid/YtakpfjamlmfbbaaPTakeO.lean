/- Take, where there is such a message. -/
import Derived.Test.YtakpfjamlmfbbaaPTake
namespace Go.Proofs.Ytakpfjamlmfbbaa
open Go.RowKit Go.Conc

theorem cellOp {W : World} {p : Nat} {u x : Value} (h : W.cell? ⟨p, 0, none⟩ = some u) : (W.setCell ⟨p, 1, none⟩ x).cell? ⟨p, 0, none⟩ = some u := by
  rw [World.cell?_setCell_other]
  · exact h
  · intro e; cases e
theorem chP {w w1 w2 : World} {o o' x : Obj} {g p ch : Nat} {u : Value} (h : w.heap[ch]? = some x) (hb : Below (w.alloc o).heap.size (w.alloc o) w1) (hlt : ch < w.heap.size) (hpc : p ≠ ch) (hgc : ch ≠ g) {t : Tn (· = g) (w1.alloc o') w2} : (w2.setCell ⟨p, 1, none⟩ u).heap[ch]? = some x := by
  have z := hb.size
  simp at z
  rw [(Tn.setCell w2 p 1 u).block ch (by have := t.size; simp at this; omega) (fun e => hpc e.symm), t.block ch (by simp; omega) hgc, Below.heap_alloc w1 o' ch (by omega), hb.block ch (by simp; omega), Below.heap_alloc w o ch hlt, h]

set_option maxRecDepth 100000 in
set_option maxHeartbeats 3200000 in
theorem take_ok (K p ch room : Nat) (v : Value) (l : List Mg) (B : List (List UInt8)) (i : Nat) (m : Mg) (b : List UInt8) (w : World) (h : Po w K p ch room v l B) (hi : l[i]? = some m) (hB : B[i]? = some b) (hsz : b.length ≤ 140737488355328) (hmax : room ≤ 4096) :
    Calls Try.prog 7 #[.pointer (some ⟨p, 0, none⟩), .int .i64 (i : Int)] w (Took w K p ch room v l B i m b) := by
  have hil : i < l.length := (List.getElem?_eq_some_iff.1 hi).1
  obtain ⟨g, cap, rfl, hKg, hgw⟩ := World.ownsRow.form (h := h.so) (by omega)
  obtain ⟨q, hq⟩ : ∃ q, l.length = i + q + 1 := ⟨l.length - i - 1, by omega⟩
  obtain ⟨buf, s, r, hch, hbuf⟩ := h.chan
  have hp := h.lt
  have hi4 : (i : Int) ≤ 4096 := by have := h.le; omega
  have hlc := h.ltc
  have hpc := h.pc
  have npg : p ≠ g := fun e => h.np (by rw [e]; rfl)
  have ncg : ch ≠ g := fun e => h.nc (by rw [e]; rfl)
  have hc0 := h.c0
  have hc1 := h.c1
  have hf1 := h.f1
  have H := Lib.hid h
  have HI := Lib.hid hi
  have HB := Lib.hid hB
  have HCH := Lib.hid hch
  have HBUF := Lib.hid hbuf
  have hso := h.so
  rw [hq] at hso hc1
  have HSO := Lib.hid hso
  have HQ := Lib.hid hq
  clear h hi hB hch hbuf hso hq
  go_enter Try.func7, Try.ntmps7
  go_wp2_with (first
    | (go_at_call 8; go_loud (refine (lookm_ok K p ch room _ l B i m b _ (H.out.alloc _) HI.out HB.out hsz).mono ?_; rintro e w1 ⟨A1, c1, rfl, ho1, hb1⟩; have q0 : w1.cell? ⟨w.heap.size, 0, none⟩ = some (.int .i64 0) := kept hb1 (by simp); have q1 : w1.cell? ⟨w.heap.size, 1, none⟩ = some (.int .i64 0) := kept hb1 (by simp); have q2 : w1.cell? ⟨w.heap.size, 2, none⟩ = some (.slice none 0 0) := kept hb1 (by simp); have g0 : w1.frozen? ⟨w.heap.size, 0, none⟩ = false := (hb1.frozen (p := ⟨w.heap.size, 0, none⟩) (by simp)).trans (by simp); have g1 : w1.frozen? ⟨w.heap.size, 1, none⟩ = false := (hb1.frozen (p := ⟨w.heap.size, 1, none⟩) (by simp)).trans (by simp); have g2 : w1.frozen? ⟨w.heap.size, 2, none⟩ = false := (hb1.frozen (p := ⟨w.heap.size, 2, none⟩) (by simp)).trans (by simp); have z1 : w.heap.size < w1.heap.size := (by have := hb1.size; simp at this; omega); have m1 := kept hb1 (keptA hc1); have m1a := fun o => keptA (o := o) m1; have m0 := kept hb1 (keptA hc0); have f1 : w1.frozen? ⟨p, 1, none⟩ = false := (hb1.frozen (p := ⟨p, 1, none⟩) (by simp; omega)).trans (keptFa hc1 hf1)))
    | (go_at_call 14; go_loud (refine (del_any K g cap i q l _ HQ.out (((HSO.out.alloc _).below hb1).alloc _)).mono ?_; rintro e w2 ⟨rfl, so2, t2⟩; have d0 := t2.cell (keptA m0) npg; have d1 := t2.cell (keptA m1) npg; have df : w2.frozen? ⟨p, 1, none⟩ = false := (t2.frozen (p := ⟨p, 1, none⟩) (by simp; omega) npg).trans (keptFa m1 f1); have z2 : w1.heap.size + 1 ≤ w2.heap.size := (by simpa using t2.size)))
    | (go_at_call 15; go_loud (refine (leave_ok p ch room s r buf _ (cellOp d0) (chP (t := t2) HCH.out hb1 hlc hpc ncg) (by rw [HBUF.out]; omega)).mono ?_; rintro e w3 ⟨rfl, hw3⟩; have T3 : Tn (fun k => k = g ∨ k = p ∨ k = ch) (w1.alloc _) w3 := ((t2.mono (Q := fun k => k = g ∨ k = p ∨ k = ch) fun k _ e => .inl e).thenQ (Tn.setCell w2 p 1 (.slice (some ⟨g, 0, none⟩) (i + q) cap)) fun k _ e => .inr (.inl e)).thenQ (hw3 ▸ Tn.setChan _ ch room (buf.extract 1 buf.size) false s (r + 1) false) fun k _ e => .inr (.inr e); have n1 : ¬ (w1.heap.size = g ∨ w1.heap.size = p ∨ w1.heap.size = ch) := (by omega); have n2 : ¬ (w.heap.size = g ∨ w.heap.size = p ∨ w.heap.size = ch) := (by omega); have x0 : w3.cell? ⟨w1.heap.size, 0, none⟩ = some (.int .i64 m.f) := T3.cell (by simp) n1; have x1 : w3.cell? ⟨w1.heap.size, 1, none⟩ = some (.int .i64 m.t) := T3.cell (by simp) n1; have x2 : w3.cell? ⟨w1.heap.size, 2, none⟩ = some (.slice A1 b.length c1) := T3.cell (by simp) n1; have y0 : w3.cell? ⟨w.heap.size, 0, none⟩ = some (.int .i64 0) := T3.cell (keptA q0) n2; have y1 : w3.cell? ⟨w.heap.size, 1, none⟩ = some (.int .i64 0) := T3.cell (keptA q1) n2; have y2 : w3.cell? ⟨w.heap.size, 2, none⟩ = some (.slice none 0 0) := T3.cell (keptA q2) n2; have e0 : w3.frozen? ⟨w.heap.size, 0, none⟩ = false := (T3.frozen (p := ⟨w.heap.size, 0, none⟩) (by simp; omega) n2).trans (keptFa q0 g0); have e1 : w3.frozen? ⟨w.heap.size, 1, none⟩ = false := (T3.frozen (p := ⟨w.heap.size, 1, none⟩) (by simp; omega) n2).trans (keptFa q1 g1); have e2 : w3.frozen? ⟨w.heap.size, 2, none⟩ = false := (T3.frozen (p := ⟨w.heap.size, 2, none⟩) (by simp; omega) n2).trans (keptFa q2 g2); have HW3 := Lib.hid hw3; have z3 : w1.heap.size + 1 ≤ w3.heap.size := (by simpa using T3.size); clear hw3))
    | fail)
  have HP := ((H.out.alloc (.cells #[.int .i64 0, .int .i64 0, .slice none 0 0] 36)).below hb1).alloc (.cells #[.int .i64 m.f, .int .i64 m.t, .slice A1 b.length c1] 36)
  have hT := HP.taken (buf' := buf.extract 1 buf.size) (s := s) (r' := r + 1) hil t2 so2 (by simp [HBUF.out])
  rw [← HW3.out] at hT
  obtain ⟨hPo, hTn⟩ := hT
  have hB1 : Below w.heap.size w w1 := ((Below.refl _ _).alloc (Nat.le_refl _) _).trans (hb1.mono (by simp))
  have hTw : Tn (TP p ch (.slice (some ⟨g, 0, none⟩) l.length cap)) w w3 := ((Tn.ofNew (P := TP p ch (.slice (some ⟨g, 0, none⟩) l.length cap)) hB1).then (Tn.alloc w1 _)).then hTn
  have ho3 : Ob w3 (w.heap.size + 1) (.slice A1 b.length c1) b := T3.ob ((ho1.alloc _).more (by simp)) (fun k hk e => by
    have h1 := (ho1.lt k hk).1
    simp at h1
    rcases e with e | e | e <;> omega)
  have tS : Tn (· = w.heap.size) w3 (((w3.setCell ⟨w.heap.size, 0, none⟩ (.int .i64 m.f)).setCell ⟨w.heap.size, 1, none⟩ (.int .i64 m.t)).setCell ⟨w.heap.size, 2, none⟩ (.slice A1 b.length c1)) := ((Tn.setCell w3 w.heap.size 0 _).then (Tn.setCell _ w.heap.size 1 _)).then (Tn.setCell _ w.heap.size 2 _)
  refine bodyPost_ret (v := .tuple #[aggM ⟨m.f, m.t, A1, b.length, c1⟩, .int .i64 0]) (by simp [results, Try.results7, go_sem, y0, y1, y2]) rfl ⟨A1, c1, .slice (some ⟨g, 0, none⟩) (i + q) cap, rfl, ?_, ?_, ?_, rfl⟩
  · exact (tS.ob ho3 (fun k hk e => by have h1 := (ho3.lt k hk).1; omega)).more (by omega)
  · refine hPo.tn tS (fun k hk e => ?_) (fun j m' b' hm hB hl ad e e2 => ?_)
    · rcases hk with h | h | h
      · omega
      · omega
      · have h' : some g = some k := h
        injection h' with h'
        omega
    · have key : ∀ k : Nat, l[k]? = some m' → B[k]? = some b' → False := fun k h1 h2 => by
        have := (H.out.bd k m' b' h1 h2).lt hl e
        omega
      rw [List.getElem?_eraseIdx] at hm hB
      by_cases hj : j < i
      · rw [if_pos hj] at hm hB; exact key j hm hB
      · rw [if_neg hj] at hm hB; exact key (j + 1) hm hB
  · exact hTw.thenQ tS (fun k hk e => by omega)
end Go.Proofs.Ytakpfjamlmfbbaa
