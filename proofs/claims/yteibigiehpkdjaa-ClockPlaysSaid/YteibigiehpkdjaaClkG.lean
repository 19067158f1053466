/- The contract of the clock: a stamp is given. -/
import Derived.Test.YteibigiehpkdjaaClk
namespace Go.Proofs.Yteibigiehpkdjaa
open Go.RowKit

theorem cellO {X : World} {p q : Addr} {u v : Value} (hne : p ≠ q) (h : X.cell? q = some v) : (X.setCell p u).cell? q = some v := by
  rw [World.cell?_setCell_other]
  · exact h
  · exact hne
theorem cellS {X : World} {p : Addr} {u : Value} (h : (X.cell? p).isSome = true) : (X.setCell p u).cell? p = some u := by
  obtain ⟨v, hv⟩ := Option.isSome_iff_exists.1 h
  exact World.cell?_setCell_same (w := X) (a := p) (v := u) hv
theorem isOf {X : World} {p : Addr} {v : Value} (h : X.cell? p = some v) : (X.cell? p).isSome = true := by rw [h]; rfl
theorem isS {X : World} {p q : Addr} {u : Value} (h : (X.cell? q).isSome = true) : ((X.setCell p u).cell? q).isSome = true := by
  by_cases e : p = q
  · subst e; rw [cellS h]; rfl
  · rw [World.cell?_setCell_other]
    · exact h
    · exact e
theorem isN {X : World} {q : Addr} {n : Nat} (h : (X.cell? q).isSome = true) : ((X.drewN n).cell? q).isSome = true := h
theorem isA {X : World} {q : Addr} {o : Obj} (h : (X.cell? q).isSome = true) : ((X.alloc o).cell? q).isSome = true := by
  obtain ⟨v, hv⟩ := Option.isSome_iff_exists.1 h
  rw [keptA hv]; rfl
theorem frS {X : World} {p q : Addr} {u : Value} (h : X.frozen? q = false) : (X.setCell p u).frozen? q = false := by simpa using h
theorem frN {X : World} {q : Addr} {n : Nat} (h : X.frozen? q = false) : (X.drewN n).frozen? q = false := h
theorem frA {X : World} {q : Addr} {o : Obj} (hq : q.block < X.heap.size) (h : X.frozen? q = false) : (X.alloc o).frozen? q = false := ((((Below.refl X.heap.size X).alloc (Nat.le_refl _) o)).frozen hq).trans h
theorem cellN {X : World} {p : Addr} {v : Value} {n : Nat} (h : X.cell? p = some v) : (X.drewN n).cell? p = some v := h

set_option maxHeartbeats 4000000 in
theorem give_yes (b : Nat) (off up mk lw0 lt0 ph lw lt m : Int) (hb0 : 0 ≤ lt) (hb1 : lt ≤ 4294967295) (w : World) (hk : Clk w b off up mk lw0 lt0) (h : cdE ph lw lt = 0) (hu : cdA ph lw lt ≤ up) :
    Calls Try.prog 37 #[.pointer (some ⟨b, 0, none⟩), .int .i64 ph, .agg #[.int .i64 lw, .int .u32 lt, .int .u32 m]] w fun e w' => e = .returned (.tuple #[.agg #[.int .i64 (cdA ph lw lt), .int .u32 (cdB ph lw lt), .int .u32 mk], .int .i64 0]) ∧ Only b w w' ∧ Clk w' b off up mk (cdA ph lw lt) (cdB ph lw lt) := by
  have hbw := hk.lt
  have k0 := hk.c0
  have k1 := hk.c1
  have k2 := hk.c2
  have k3 := hk.c3
  have k4 := hk.c4
  have k5 := hk.c5
  have kf := hk.f
  clear hk
  go_enter Try.func37, Try.ntmps37
  go_wp2_with fail
  refine (candidate_any _ _ _ _ hb0 hb1 _).mono ?_
  rintro e w1 ⟨rfl, lb1⟩
  have lz1 := lb1.size
  (try simp at lz1)
  have lB1 : Below w.heap.size w w1 := via lb1 (by go_grown) (by go_size)
  have m1_0 : w1.cell? ⟨w.heap.size + 1, 0, none⟩ = some (.int .i64 0) := kept lb1 (by repeat' (first | assumption | (simp; done) | apply keptD | apply keptA))
  have m1_1 : w1.cell? ⟨w.heap.size + 1, 1, none⟩ = some (.int .u32 0) := kept lb1 (by repeat' (first | assumption | (simp; done) | apply keptD | apply keptA))
  have m1_2 : w1.cell? ⟨w.heap.size + 1, 2, none⟩ = some (.int .u32 0) := kept lb1 (by repeat' (first | assumption | (simp; done) | apply keptD | apply keptA))
  have m1_3 : w1.cell? ⟨b, 0, none⟩ = some (.int .i64 off) := kept lb1 (by repeat' (first | assumption | (simp; done) | apply keptD | apply keptA))
  have m1_4 : w1.cell? ⟨b, 1, none⟩ = some (.int .i64 up) := kept lb1 (by repeat' (first | assumption | (simp; done) | apply keptD | apply keptA))
  have m1_5 : w1.cell? ⟨b, 2, none⟩ = some (.int .u32 mk) := kept lb1 (by repeat' (first | assumption | (simp; done) | apply keptD | apply keptA))
  have m1_6 : w1.cell? ⟨b, 3, none⟩ = some (.int .i64 lw0) := kept lb1 (by repeat' (first | assumption | (simp; done) | apply keptD | apply keptA))
  have m1_7 : w1.cell? ⟨b, 4, none⟩ = some (.int .u32 lt0) := kept lb1 (by repeat' (first | assumption | (simp; done) | apply keptD | apply keptA))
  have m1_8 : w1.cell? ⟨b, 5, none⟩ = some (.int .u32 0) := kept lb1 (by repeat' (first | assumption | (simp; done) | apply keptD | apply keptA))
  have s1_0 : w.heap.size < w1.heap.size := by omega
  have s1_1 : w.heap.size + 1 < w1.heap.size := by omega
  have s1_2 : b < w1.heap.size := by omega
  have z1_0 : w1.frozen? ⟨w.heap.size + 1, 0, none⟩ = false := keptF lb1 (by simp) (by simp)
  have z1_1 : w1.frozen? ⟨w.heap.size + 1, 1, none⟩ = false := keptF lb1 (by simp) (by simp)
  have z1_2 : w1.frozen? ⟨w.heap.size + 1, 2, none⟩ = false := keptF lb1 (by simp) (by simp)
  clear lb1
  have y0 : ∀ i, w1.frozen? ⟨b, i, none⟩ = false := fun i => keptF lB1 hbw (kf i)
  have nb : b ≠ w1.heap.size := by omega
  have nb' : w1.heap.size ≠ b := by omega
  have nc : w.heap.size + 1 ≠ b := by omega
  have nc' : b ≠ w.heap.size + 1 := by omega
  go_wp2
  go_quiet (fail)
  go_wp2
  generalize hW : (World.setCell _ _ _ : World) = W'
  have r0 : W'.cell? ⟨w.heap.size + 1, 0, none⟩ = some (.int .i64 (cdA ph lw lt)) := by rw [← hW]; (repeat' (first | (with_reducible assumption) | (with_reducible apply cellS) | ((with_reducible refine cellO ?_ ?_); focus (first | (intro hh; simp at hh; done) | (intro hh; simp at hh; omega))) | (with_reducible apply cellN) | (with_reducible apply keptA) | (with_reducible apply isS) | (with_reducible apply isN) | (with_reducible apply isA) | (with_reducible apply isOf; with_reducible assumption)))
  have r1 : W'.cell? ⟨w.heap.size + 1, 1, none⟩ = some (.int .u32 (cdB ph lw lt)) := by rw [← hW]; (repeat' (first | (with_reducible assumption) | (with_reducible apply cellS) | ((with_reducible refine cellO ?_ ?_); focus (first | (intro hh; simp at hh; done) | (intro hh; simp at hh; omega))) | (with_reducible apply cellN) | (with_reducible apply keptA) | (with_reducible apply isS) | (with_reducible apply isN) | (with_reducible apply isA) | (with_reducible apply isOf; with_reducible assumption)))
  have r2 : W'.cell? ⟨w.heap.size + 1, 2, none⟩ = some (.int .u32 mk) := by rw [← hW]; (repeat' (first | (with_reducible assumption) | (with_reducible apply cellS) | ((with_reducible refine cellO ?_ ?_); focus (first | (intro hh; simp at hh; done) | (intro hh; simp at hh; omega))) | (with_reducible apply cellN) | (with_reducible apply keptA) | (with_reducible apply isS) | (with_reducible apply isN) | (with_reducible apply isA) | (with_reducible apply isOf; with_reducible assumption)))
  have d0 : W'.cell? ⟨b, 0, none⟩ = some (.int .i64 off) := by rw [← hW]; (repeat' (first | (with_reducible assumption) | (with_reducible apply cellS) | ((with_reducible refine cellO ?_ ?_); focus (first | (intro hh; simp at hh; done) | (intro hh; simp at hh; omega))) | (with_reducible apply cellN) | (with_reducible apply keptA) | (with_reducible apply isS) | (with_reducible apply isN) | (with_reducible apply isA) | (with_reducible apply isOf; with_reducible assumption)))
  have d1 : W'.cell? ⟨b, 1, none⟩ = some (.int .i64 up) := by rw [← hW]; (repeat' (first | (with_reducible assumption) | (with_reducible apply cellS) | ((with_reducible refine cellO ?_ ?_); focus (first | (intro hh; simp at hh; done) | (intro hh; simp at hh; omega))) | (with_reducible apply cellN) | (with_reducible apply keptA) | (with_reducible apply isS) | (with_reducible apply isN) | (with_reducible apply isA) | (with_reducible apply isOf; with_reducible assumption)))
  have d2 : W'.cell? ⟨b, 2, none⟩ = some (.int .u32 mk) := by rw [← hW]; (repeat' (first | (with_reducible assumption) | (with_reducible apply cellS) | ((with_reducible refine cellO ?_ ?_); focus (first | (intro hh; simp at hh; done) | (intro hh; simp at hh; omega))) | (with_reducible apply cellN) | (with_reducible apply keptA) | (with_reducible apply isS) | (with_reducible apply isN) | (with_reducible apply isA) | (with_reducible apply isOf; with_reducible assumption)))
  have d3 : W'.cell? ⟨b, 3, none⟩ = some (.int .i64 (cdA ph lw lt)) := by rw [← hW]; (repeat' (first | (with_reducible assumption) | (with_reducible apply cellS) | ((with_reducible refine cellO ?_ ?_); focus (first | (intro hh; simp at hh; done) | (intro hh; simp at hh; omega))) | (with_reducible apply cellN) | (with_reducible apply keptA) | (with_reducible apply isS) | (with_reducible apply isN) | (with_reducible apply isA) | (with_reducible apply isOf; with_reducible assumption)))
  have d4 : W'.cell? ⟨b, 4, none⟩ = some (.int .u32 (cdB ph lw lt)) := by rw [← hW]; (repeat' (first | (with_reducible assumption) | (with_reducible apply cellS) | ((with_reducible refine cellO ?_ ?_); focus (first | (intro hh; simp at hh; done) | (intro hh; simp at hh; omega))) | (with_reducible apply cellN) | (with_reducible apply keptA) | (with_reducible apply isS) | (with_reducible apply isN) | (with_reducible apply isA) | (with_reducible apply isOf; with_reducible assumption)))
  have d5 : W'.cell? ⟨b, 5, none⟩ = some (.int .u32 0) := by rw [← hW]; (repeat' (first | (with_reducible assumption) | (with_reducible apply cellS) | ((with_reducible refine cellO ?_ ?_); focus (first | (intro hh; simp at hh; done) | (intro hh; simp at hh; omega))) | (with_reducible apply cellN) | (with_reducible apply keptA) | (with_reducible apply isS) | (with_reducible apply isN) | (with_reducible apply isA) | (with_reducible apply isOf; with_reducible assumption)))
  have d6 : ∀ i, W'.frozen? ⟨b, i, none⟩ = false := fun i => by rw [← hW]; (repeat' (first | (with_reducible exact y0 _) | (with_reducible apply frS) | (with_reducible apply frN) | (with_reducible refine frA ?_ ?_) | (show b < _; omega)))
  have d7 : Only b w W' := by
    rw [← hW]
    repeat' (first | (with_reducible assumption) | (with_reducible exact Only.of_below lB1) | (with_reducible refine Only.drewN ?_ _) | (with_reducible refine Only.alloc ?_ _) | (with_reducible refine Only.setCell ?_ ?_ _) | (left; rfl) | (right; simp; done) | (right; simp; omega) | (right; omega))
  clear hW
  refine bodyPost_ret (v := .tuple #[.agg #[.int .i64 (cdA ph lw lt), .int .u32 (cdB ph lw lt), .int .u32 mk], .int .i64 0]) (by simp [results, Try.results37, go_sem, r0, r1, r2]) rfl ⟨rfl, d7, ⟨d0, d1, d2, d3, d4, d5, d6⟩⟩

end Go.Proofs.Yteibigiehpkdjaa
