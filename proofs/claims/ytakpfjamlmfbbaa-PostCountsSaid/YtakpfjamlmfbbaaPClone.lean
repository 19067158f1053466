/- A message in memory of its own; the post's places asked for; Len, lookFor, New. -/
import Derived.Test.YtakpfjamlmfbbaaPM
import Derived.Conc.SmallLaws
namespace Go.Proofs.Ytakpfjamlmfbbaa
open Go.RowKit Go.Conc

set_option maxRecDepth 100000 in
set_option maxHeartbeats 800000 in
theorem mclone_any (m : Mg) (b : List UInt8) (bad : Nat → Prop) (w : World) (hb : Bdy w bad m b) (hsz : b.length ≤ 140737488355328) :
    Calls Try.prog 13 #[aggM m] w fun e w' => ∃ A c, e = .returned (aggM ⟨m.f, m.t, A, b.length, c⟩) ∧ Ob w' w.heap.size (.slice A b.length c) b ∧ Below w.heap.size w w' := by
  obtain ⟨f, t, A, n, c⟩ := m
  have hn := hb.n
  simp only at hn
  subst hn
  have HC := Lib.hid (fun w' (h : Bs w' w.heap.size A c b) (hK : w.heap.size ≤ w'.heap.size) => clone_any w.heap.size A b.length c b w' rfl h hK hsz)
  have hbs := hb.bs
  clear hb
  go_enter Try.func13, Try.ntmps13
  go_wp2_with (go_at_call 18; refine (HC.out _ ((hbs.alloc (Nat.le_refl _) _).alloc (by simp) _) (by simp; omega)).mono ?_; rintro e w1 ⟨A', c', rfl, ho1, hb1⟩; have m0 : w1.cell? ⟨w.heap.size, 0, none⟩ = some (.int .i64 f) := kept hb1 (by simp); have m1 : w1.cell? ⟨w.heap.size, 1, none⟩ = some (.int .i64 t) := kept hb1 (by simp); have m2 : w1.cell? ⟨w.heap.size, 2, none⟩ = some (.slice A b.length c) := kept hb1 (by simp); have m3 : w1.frozen? ⟨w.heap.size, 2, none⟩ = false := (hb1.frozen (p := ⟨w.heap.size, 2, none⟩) (by simp; omega)).trans (by simp); have q0 : w1.cell? ⟨w.heap.size + 1, 0, none⟩ = some (.int .i64 0) := kept hb1 (by simp); have q1 : w1.cell? ⟨w.heap.size + 1, 1, none⟩ = some (.int .i64 0) := kept hb1 (by simp); have q2 : w1.cell? ⟨w.heap.size + 1, 2, none⟩ = some (.slice none 0 0) := kept hb1 (by simp); have p0 : w1.frozen? ⟨w.heap.size + 1, 0, none⟩ = false := (hb1.frozen (p := ⟨w.heap.size + 1, 0, none⟩) (by simp)).trans (by simp); have p1 : w1.frozen? ⟨w.heap.size + 1, 1, none⟩ = false := (hb1.frozen (p := ⟨w.heap.size + 1, 1, none⟩) (by simp)).trans (by simp); have p2 : w1.frozen? ⟨w.heap.size + 1, 2, none⟩ = false := (hb1.frozen (p := ⟨w.heap.size + 1, 2, none⟩) (by simp)).trans (by simp))
  refine bodyPost_ret (v := aggM ⟨f, t, A', b.length, c'⟩) (by simp [results, Try.results13, go_sem, q0, q1, q2]) rfl ⟨A', c', rfl, ?_, ?_⟩
  · have hz : ∀ b' o u W, Ob W (w.heap.size + 2) (.slice A' b.length c') b → b' < w.heap.size + 2 → Ob (W.setCell ⟨b', o, none⟩ u) (w.heap.size + 2) (.slice A' b.length c') b := fun b' o u W h hb' => ownsRow_setCell_below h (a := ⟨b', o, none⟩) hb' u
    have ho2 : Ob w1 (w.heap.size + 2) (.slice A' b.length c') b := ho1.more (by simp)
    exact (hz _ _ _ _ (hz _ _ _ _ (hz _ _ _ _ (hz _ _ _ _ ho2 (by omega)) (by omega)) (by omega)) (by omega)).more (by omega)
  · go_grown
    exact (((Below.refl _ _).alloc (Nat.le_refl _) _).alloc (by simp) _).trans (hb1.mono (by simp; omega))

theorem new_bad (x : Int) (h : x < 0 ∨ 4096 < x) (w : World) : Calls Try.prog 4 #[.int .i64 x] w fun e w' => e = .returned (.tuple #[.pointer none, .int .i64 1]) ∧ w = w' := by
  by_cases hx : x < 0
  · go_enter Try.func4, Try.ntmps4
    go_wp2
    exact bodyPost_ret (v := .tuple #[.pointer none, .int .i64 1]) (by simp [results, Try.results4, go_sem]) rfl ⟨rfl, rfl⟩
  · have hy : x > 4096 := by omega
    go_enter Try.func4, Try.ntmps4
    go_wp2
    exact bodyPost_ret (v := .tuple #[.pointer none, .int .i64 1]) (by simp [results, Try.results4, go_sem]) rfl ⟨rfl, rfl⟩
theorem mk_chan (n : Nat) (hn : n ≤ 4096) (w : World) : (Instr.makeChan 44 (.int .i64 (n : Int))).run Try.prog w = .ok (.chan (some w.heap.size)) (w.alloc (.chan n #[] false 0 0 false)) := by
  have h : (Try.prog.info? 50).map (·.bytes) = some 0 := by kernel_rfl
  obtain ⟨i, hi, hb⟩ := Option.map_eq_some_iff.1 h
  simpa using run_makeChan (P := Try.prog) (w := w) Try.underlying44 hi .i64 n (by omega) (by rw [hb]; omega)
theorem new_ok (n : Nat) (hn : n ≤ 4096) (w : World) : Calls Try.prog 4 #[.int .i64 (n : Int)] w fun e w' => e = .returned (.tuple #[.pointer (some ⟨w.heap.size + 1, 0, none⟩), .int .i64 0]) ∧ Po w' w.heap.size (w.heap.size + 1) w.heap.size n (.slice none 0 0) [] [] ∧ Below w.heap.size w w' := by
  have hm := mk_chan n hn
  have h0 : ¬ (n : Int) < 0 := by omega
  have h1 : ¬ (4096 : Int) < n := by omega
  go_enter Try.func4, Try.ntmps4
  go_wp2
  refine bodyPost_ret (v := .tuple #[.pointer (some ⟨w.heap.size + 1, 0, none⟩), .int .i64 0]) (by simp [results, Try.results4, go_sem]) rfl ⟨rfl, ?_, by go_grown⟩
  exact { c0 := by simp
          c1 := by simp
          f1 := by simp
          chan := ⟨#[], 0, 0, by rw [Below.heap_alloc _ _ _ (by simp)]; exact heap_alloc_new w _, rfl⟩
          le := Nat.zero_le _
          so := So.empty _ _ _ _ _
          np := by simp [Value.ownBlock]
          nc := by simp [Value.ownBlock]
          pc := by omega
          kp := by omega
          kc := Nat.le_refl _
          len := rfl
          bd := fun i m b hm _ => by simp at hm }
end Go.Proofs.Ytakpfjamlmfbbaa
