/- Send refused; a nil post; lookFor, Len, Look. -/
import Derived.Test.YtakpfjamlmfbbaaPSend
namespace Go.Proofs.Ytakpfjamlmfbbaa
open Go.RowKit Go.Conc

set_option maxRecDepth 100000 in
theorem send_nil (f t : Int) (A : Option Addr) (n c : Nat) (w : World) : Calls Try.prog 6 #[.pointer none, .agg #[.int .i64 f, .int .i64 t, .slice A n c]] w fun e w' => e = .returned (.int .i64 2) ∧ Below w.heap.size w w' := by
  go_enter Try.func6, Try.ntmps6
  go_wp2
  go_ret
  exact ⟨rfl, by go_grown⟩
set_option maxRecDepth 100000 in
theorem send_limit (p : Nat) (f t : Int) (A : Option Addr) (n c : Nat) (hn : 1048576 < n) (w : World) : Calls Try.prog 6 #[.pointer (some ⟨p, 0, none⟩), .agg #[.int .i64 f, .int .i64 t, .slice A n c]] w fun e w' => e = .returned (.int .i64 8) ∧ Below w.heap.size w w' := by
  have hn' : (n : Int) > 1048576 := by omega
  go_enter Try.func6, Try.ntmps6
  go_wp2
  go_ret
  exact ⟨rfl, by go_grown⟩
set_option maxRecDepth 100000 in
theorem send_full (K p ch room : Nat) (v : Value) (l : List Mg) (B : List (List UInt8)) (f t : Int) (A : Option Addr) (n c : Nat) (w : World) (h : Po w K p ch room v l B) (hsz : n ≤ 1048576) (hroom : room ≤ l.length) :
    Calls Try.prog 6 #[.pointer (some ⟨p, 0, none⟩), .agg #[.int .i64 f, .int .i64 t, .slice A n c]] w fun e w' => e = .returned (.int .i64 4) ∧ Below w.heap.size w w' := by
  obtain ⟨buf, s, r, hch, hbuf⟩ := h.chan
  have hlc := h.ltc
  have hc0 := h.c0
  have HBUF := Lib.hid hbuf
  have HCH := Lib.hid hch
  have hnl : ¬ ((n : Int) > 1048576) := by omega
  clear h hbuf hch
  go_enter Try.func6, Try.ntmps6
  go_wp2_with (first
    | (go_at_call 12; go_loud (refine (enter_full p ch room s r buf (w.alloc _) (keptA hc0) ((Below.heap_alloc w _ ch hlc).trans HCH.out) (by rw [HBUF.out]; exact hroom)).mono ?_; rintro e w1 ⟨rfl, rfl⟩))
    | fail)
  go_ret
  exact ⟨rfl, by go_grown⟩

theorem Po.form {w : World} {K p ch room : Nat} {v : Value} {l : List Mg} {B : List (List UInt8)} (h : Po w K p ch room v l B) : ∃ A c, v = .slice A l.length c := h.so.form
theorem look_nil (i : Int) (w : World) : Calls Try.prog 16 #[.pointer none, .int .i64 i] w fun e w' => e = .returned (.int .i64 2) ∧ w = w' := by
  go_enter Try.func16, Try.ntmps16
  go_wp2
  go_ret
  exact ⟨rfl, rfl⟩
theorem look_bad (K p ch room : Nat) (v : Value) (l : List Mg) (B : List (List UInt8)) (i : Int) (w : World) (h : Po w K p ch room v l B) (hi : i < 0 ∨ (l.length : Int) ≤ i) :
    Calls Try.prog 16 #[.pointer (some ⟨p, 0, none⟩), .int .i64 i] w fun e w' => e = .returned (.int .i64 1) ∧ w = w' := by
  obtain ⟨A, c, rfl⟩ := h.form
  have hc1 := h.c1
  clear h
  by_cases h0 : i < 0
  · go_enter Try.func16, Try.ntmps16
    go_wp2
    go_ret
    exact ⟨rfl, rfl⟩
  · have h1 : i ≥ (l.length : Int) := by omega
    go_enter Try.func16, Try.ntmps16
    go_wp2
    go_ret
    exact ⟨rfl, rfl⟩
theorem look_ok (K p ch room : Nat) (v : Value) (l : List Mg) (B : List (List UInt8)) (i : Nat) (w : World) (h : Po w K p ch room v l B) (hi : i < l.length) :
    Calls Try.prog 16 #[.pointer (some ⟨p, 0, none⟩), .int .i64 (i : Int)] w fun e w' => e = .returned (.int .i64 0) ∧ w = w' := by
  obtain ⟨A, c, rfl⟩ := h.form
  have hc1 := h.c1
  clear h
  have h0 : ¬ (i : Int) < 0 := by omega
  have h1 : ¬ (i : Int) ≥ (l.length : Int) := by omega
  go_enter Try.func16, Try.ntmps16
  go_wp2
  go_ret
  exact ⟨rfl, rfl⟩
theorem len_nil (w : World) : Calls Try.prog 11 #[.pointer none] w fun e w' => e = .returned (.int .i64 0) ∧ w = w' := by
  go_enter Try.func11, Try.ntmps11
  go_wp2
  go_ret
  exact ⟨rfl, rfl⟩
theorem len_any (K p ch room : Nat) (v : Value) (l : List Mg) (B : List (List UInt8)) (w : World) (h : Po w K p ch room v l B) :
    Calls Try.prog 11 #[.pointer (some ⟨p, 0, none⟩)] w fun e w' => e = .returned (.int .i64 (l.length : Int)) ∧ w = w' := by
  obtain ⟨A, c, rfl⟩ := h.form
  have hc1 := h.c1
  clear h
  go_enter Try.func11, Try.ntmps11
  go_wp2
  go_ret
  exact ⟨rfl, rfl⟩
theorem all_nil (w : World) : Calls Try.prog 10 #[.pointer none] w fun e w' => e = .returned (.slice none 0 0) ∧ w = w' := by
  go_enter Try.func10, Try.ntmps10
  go_wp2
  go_ret
  exact ⟨rfl, rfl⟩
theorem copy_nil (i : Int) (w : World) : Calls Try.prog 9 #[.pointer none, .int .i64 i] w fun e w' => e = .returned (.int .i64 2) ∧ w = w' := by
  go_enter Try.func9, Try.ntmps9
  go_wp2_with (go_at_call 16; refine (look_nil _ _).mono ?_; rintro e w' ⟨rfl, rfl⟩)
  go_ret
  exact ⟨rfl, rfl⟩
/-- An error in the place of a message. -/
abbrev noMsg (e : Int) : Value := .tuple #[.agg #[.int .i64 0, .int .i64 0, .slice none 0 0], .int .i64 e]
set_option maxRecDepth 100000 in
theorem lookm_nil (i : Int) (w : World) : Calls Try.prog 8 #[.pointer none, .int .i64 i] w fun e w' => e = .returned (noMsg 2) ∧ Below w.heap.size w w' := by
  go_enter Try.func8, Try.ntmps8
  go_wp2_with (go_at_call 16; refine (look_nil _ _).mono ?_; rintro e w' ⟨rfl, rfl⟩)
  refine bodyPost_ret (v := noMsg 2) (by simp [results, Try.results8, go_sem]) rfl ⟨rfl, by go_grown⟩
set_option maxRecDepth 100000 in
theorem lookm_bad (K p ch room : Nat) (v : Value) (l : List Mg) (B : List (List UInt8)) (i : Int) (w : World) (h : Po w K p ch room v l B) (hi : i < 0 ∨ (l.length : Int) ≤ i) :
    Calls Try.prog 8 #[.pointer (some ⟨p, 0, none⟩), .int .i64 i] w fun e w' => e = .returned (noMsg 1) ∧ Below w.heap.size w w' := by
  have H := Lib.hid h
  clear h
  go_enter Try.func8, Try.ntmps8
  go_wp2_with (go_at_call 16; refine (look_bad K p ch room v l B i _ (H.out.alloc _) hi).mono ?_; rintro e w' ⟨rfl, rfl⟩)
  refine bodyPost_ret (v := noMsg 1) (by simp [results, Try.results8, go_sem]) rfl ⟨rfl, by go_grown⟩
/-- What Look gives. -/
def Seen (w : World) (m : Mg) (b : List UInt8) (e : Ending) (w' : World) : Prop :=
  ∃ A c, e = .returned (.tuple #[aggM ⟨m.f, m.t, A, b.length, c⟩, .int .i64 0]) ∧ Ob w' w.heap.size (.slice A b.length c) b ∧ Below w.heap.size w w'
set_option maxRecDepth 100000 in
set_option maxHeartbeats 1600000 in
theorem lookm_ok (K p ch room : Nat) (v : Value) (l : List Mg) (B : List (List UInt8)) (i : Nat) (m : Mg) (b : List UInt8) (w : World) (h : Po w K p ch room v l B) (hi : l[i]? = some m) (hB : B[i]? = some b) (hsz : b.length ≤ 140737488355328) :
    Calls Try.prog 8 #[.pointer (some ⟨p, 0, none⟩), .int .i64 (i : Int)] w (Seen w m b) := by
  have hil : i < l.length := (List.getElem?_eq_some_iff.1 hi).1
  obtain ⟨vA, vc, rfl⟩ := h.form
  have hsr := (h.so.alloc (.cells #[.int .i64 0, .int .i64 0, .slice none 0 0] 36)).sr encM_length
  obtain ⟨ad, rfl, hadb, ha0, ha1⟩ := hsr.1.get2 hil
  have hm : l[i] = m := by rw [List.getElem?_eq_getElem hil] at hi; exact Option.some.inj hi
  rw [hm] at ha0 ha1
  have q0 := ha0 _ rfl
  have q1 := ha1 1 _ (by omega) rfl
  have q2 := ha1 2 _ (by omega) rfl
  have hle := hsr.1.le
  have hmax := hsr.1.max
  unfold maxLen at hmax
  have hbd := h.bd i m b hi hB
  have hc1 := h.c1
  have hp := h.lt
  have hn := hbd.n
  obtain ⟨mf, mt, mA, mn, mc⟩ := m
  simp only at hn
  subst hn
  have H := Lib.hid h
  have HBD := Lib.hid hbd
  have HQ := Lib.hid hi
  clear h hbd hsr ha0 ha1 hi hm
  have h0 : ¬ (i : Int) < 0 := by omega
  go_enter Try.func8, Try.ntmps8
  go_wp2_with (first
    | (go_at_call 16; refine (look_ok K p ch room _ l B i _ (H.out.alloc _) hil).mono ?_; rintro e w' ⟨rfl, rfl⟩)
    | (go_at_call 13; go_loud (refine (mclone_any ⟨mf, mt, mA, b.length, mc⟩ b _ _ (HBD.out.tn (Tn.alloc (P := fun _ => False) w _) (fun _ _ _ h => h)) hsz).mono ?_; rintro e w2 ⟨A2, c2, rfl, ho2, hb2⟩; have r0 : w2.cell? ⟨w.heap.size, 0, none⟩ = some (.int .i64 0) := kept hb2 (by simp); have r1 : w2.cell? ⟨w.heap.size, 1, none⟩ = some (.int .i64 0) := kept hb2 (by simp); have r2 : w2.cell? ⟨w.heap.size, 2, none⟩ = some (.slice none 0 0) := kept hb2 (by simp); have g0 : w2.frozen? ⟨w.heap.size, 0, none⟩ = false := (hb2.frozen (p := ⟨w.heap.size, 0, none⟩) (by simp)).trans (by simp); have g1 : w2.frozen? ⟨w.heap.size, 1, none⟩ = false := (hb2.frozen (p := ⟨w.heap.size, 1, none⟩) (by simp)).trans (by simp); have g2 : w2.frozen? ⟨w.heap.size, 2, none⟩ = false := (hb2.frozen (p := ⟨w.heap.size, 2, none⟩) (by simp)).trans (by simp)))
    | fail)
  refine bodyPost_ret (v := .tuple #[aggM ⟨mf, mt, A2, b.length, c2⟩, .int .i64 0]) (by simp [results, Try.results8, go_sem, r0, r1, r2]) rfl ⟨A2, c2, rfl, ?_, ?_⟩
  · have hz : ∀ o u W, Ob W (w.heap.size + 1) (.slice A2 b.length c2) b → Ob (W.setCell ⟨w.heap.size, o, none⟩ u) (w.heap.size + 1) (.slice A2 b.length c2) b := fun o u W h => ownsRow_setCell_below h (a := ⟨w.heap.size, o, none⟩) (by simp) u
    have ho2' : Ob w2 (w.heap.size + 1) (.slice A2 b.length c2) b := ho2.more (by simp)
    exact (hz _ _ _ (hz _ _ _ (hz _ _ _ ho2'))).more (by omega)
  · have hb : Below w.heap.size w w2 := ((Below.refl _ _).alloc (Nat.le_refl _) _).trans (hb2.mono (by simp))
    exact ((hb.setCell (p := ⟨w.heap.size, 0, none⟩) (by simp) _).setCell (p := ⟨w.heap.size, 1, none⟩) (by simp) _).setCell (p := ⟨w.heap.size, 2, none⟩) (by simp) _
end Go.Proofs.Ytakpfjamlmfbbaa
