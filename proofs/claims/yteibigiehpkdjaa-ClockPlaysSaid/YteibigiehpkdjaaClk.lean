/- The contracts of the clock functions of the program: what a call gives, and what the clock holds behind it. -/
import Derived.Test.YteibigiehpkdjaaStamp
import Derived.BigQuiet
import Derived.Deep.QuietTactic
namespace Go.Proofs.Yteibigiehpkdjaa
open Go.RowKit

/-- Of what was there only block b may have turned. -/
structure Only (b : Nat) (w w' : World) : Prop where
  os : w'.os = w.os
  tape : w'.tape = w.tape
  output : w'.output = w.output
  size : w.heap.size ≤ w'.heap.size
  block : ∀ k, k < w.heap.size → k ≠ b → w'.heap[k]? = w.heap[k]?
theorem Only.refl (b : Nat) (w : World) : Only b w w := ⟨rfl, rfl, rfl, Nat.le_refl _, fun _ _ _ => rfl⟩
theorem Only.trans {b : Nat} {x y z : World} (h : Only b x y) (k : Only b y z) : Only b x z :=
  ⟨k.os.trans h.os, k.tape.trans h.tape, k.output.trans h.output, Nat.le_trans h.size k.size, fun i hi hb => (k.block i (Nat.lt_of_lt_of_le hi h.size) hb).trans (h.block i hi hb)⟩
theorem Only.of_below {b : Nat} {w w' : World} (h : Below w.heap.size w w') : Only b w w' := ⟨h.os, h.tape, h.output, h.size, fun k hk _ => h.block k hk⟩
theorem Only.below {b B : Nat} {w w' : World} (h : Only b w w') (hb : B ≤ b) (hB : B ≤ w.heap.size) : Below B w w' := ⟨h.os, h.tape, h.output, h.size, fun k hk => h.block k (by omega) (by omega)⟩
theorem Only.alloc {b : Nat} {a w : World} (h : Only b a w) (o : Obj) : Only b a (w.alloc o) :=
  ⟨h.os, h.tape, h.output, Nat.le_trans h.size (by simp), fun k hk hb => (Below.heap_alloc _ _ _ (Nat.lt_of_lt_of_le hk h.size)).trans (h.block k hk hb)⟩
theorem Only.drew {b : Nat} {a w : World} (h : Only b a w) : Only b a w.drew := ⟨h.os, h.tape, h.output, h.size, h.block⟩
theorem Only.drewN {b : Nat} {a w : World} (h : Only b a w) (n : Nat) : Only b a (w.drewN n) := ⟨h.os, h.tape, h.output, h.size, h.block⟩
theorem Only.setCell {b : Nat} {a w : World} (h : Only b a w) {p : Addr} (hp : p.block = b ∨ a.heap.size ≤ p.block) (u : Value) : Only b a (w.setCell p u) :=
  ⟨h.os, h.tape, h.output, Nat.le_trans h.size (by simp [World.setCell]), fun k hk hb => (Below.heap_setCell _ _ _ _ (by omega)).trans (h.block k hk hb)⟩
theorem Only.cell {b : Nat} {w w' : World} (h : Only b w w') {p : Addr} {v : Value} (hp : p.block ≠ b) (hc : w.cell? p = some v) : w'.cell? p = some v :=
  (World.cell?_of_block (w := w) (h.block p.block (World.block_lt_of_cell? w p hc) hp)).trans hc

theorem keptF {W w1 : World} {p : Addr} (hb : Below W.heap.size W w1) (hp : p.block < W.heap.size) (h : W.frozen? p = false) : w1.frozen? p = false := (hb.frozen hp).trans h

theorem belowN {B : Nat} {a w : World} {n : Nat} (h : Below B a w) : Below B a (w.drewN n) := ⟨h.os, h.tape, h.output, h.size, h.block⟩

/-- A clock in memory: what its block holds. -/
structure Clk (w : World) (b : Nat) (off up mk lw lt : Int) : Prop where
  c0 : w.cell? ⟨b, 0, none⟩ = some (.int .i64 off)
  c1 : w.cell? ⟨b, 1, none⟩ = some (.int .i64 up)
  c2 : w.cell? ⟨b, 2, none⟩ = some (.int .u32 mk)
  c3 : w.cell? ⟨b, 3, none⟩ = some (.int .i64 lw)
  c4 : w.cell? ⟨b, 4, none⟩ = some (.int .u32 lt)
  c5 : w.cell? ⟨b, 5, none⟩ = some (.int .u32 0)
  f : ∀ i, w.frozen? ⟨b, i, none⟩ = false
theorem Clk.lt {w : World} {b : Nat} {off up mk lw lt : Int} (h : Clk w b off up mk lw lt) : b < w.heap.size := World.block_lt_of_cell? w _ h.c0
theorem Clk.below {w w' : World} {b : Nat} {off up mk lw lt : Int} (h : Clk w b off up mk lw lt) (hb : Below w.heap.size w w') : Clk w' b off up mk lw lt :=
  ⟨kept hb h.c0, kept hb h.c1, kept hb h.c2, kept hb h.c3, kept hb h.c4, kept hb h.c5, fun i => (hb.frozen (p := ⟨b, i, none⟩) h.lt).trans (h.f i)⟩

/-- What New says no to. -/
def newOk (off up : Int) : Bool := decide (0 ≤ off ∧ off ≤ 1099511627776 ∧ 0 ≤ up ∧ up ≤ 4611686018427387904)

set_option maxHeartbeats 1000000 in
theorem new_no (off up mk : Int) (h : newOk off up = false) (w : World) :
    Calls Try.prog 21 #[.int .i64 off, .int .i64 up, .int .u32 mk] w fun e w' => e = .returned (.tuple #[.pointer none, .int .i64 1]) ∧ Below w.heap.size w w' := by
  have h' : off < 0 ∨ 1099511627776 < off ∨ up < 0 ∨ 4611686018427387904 < up := by simp [newOk] at h; omega
  have H := Lib.hid h'
  clear h h'
  go_enter Try.func21, Try.ntmps21
  go_wp2
  all_goals first
    | (go_ret2; exact ⟨rfl, by go_grown⟩)
    | (exfalso; have := H.out; omega)

set_option maxHeartbeats 1000000 in
theorem new_yes (off up mk : Int) (h : newOk off up = true) (w : World) :
    Calls Try.prog 21 #[.int .i64 off, .int .i64 up, .int .u32 mk] w fun e w' => ∃ b, e = .returned (.tuple #[.pointer (some ⟨b, 0, none⟩), .int .i64 0]) ∧ w.heap.size ≤ b ∧ Below w.heap.size w w' ∧ Clk w' b off up mk up 4294967295 := by
  have h' : 0 ≤ off ∧ off ≤ 1099511627776 ∧ 0 ≤ up ∧ up ≤ 4611686018427387904 := by simpa [newOk] using h
  obtain ⟨h1, h2, h3, h4⟩ := h'
  clear h
  go_enter Try.func21, Try.ntmps21
  go_wp2
  go_ret2
  exact ⟨_, rfl, by simp, by go_grown, ⟨by simp, by simp, by simp, by simp, by simp, by simp, fun i => by simp⟩⟩

/-- The candidate of a reading and a stamp. -/
def cdA (ph lw lt : Int) : Int := if lw < ph then ph else nxA lw lt
def cdB (ph lw lt : Int) : Int := if lw < ph then 0 else nxB lw lt
def cdE (ph lw lt : Int) : Int := if lw < ph then 0 else nxE lw lt

set_option maxHeartbeats 1000000 in
theorem candidate_any (ph lw lt m : Int) (hb0 : 0 ≤ lt) (hb1 : lt ≤ 4294967295) (w : World) :
    Calls Try.prog 40 #[.int .i64 ph, .agg #[.int .i64 lw, .int .u32 lt, .int .u32 m]] w fun e w' => e = .returned (.tuple #[.agg #[.int .i64 (cdA ph lw lt), .int .u32 (cdB ph lw lt), .int .u32 0], .int .i64 (cdE ph lw lt)]) ∧ Below w.heap.size w w' := by
  by_cases h : lw < ph
  · go_enter Try.func40, Try.ntmps40
    go_wp2
    exact bodyPost_ret (v := .tuple #[.agg #[.int .i64 ph, .int .u32 0, .int .u32 0], .int .i64 0]) (by simp [results, Try.results40, go_sem]) rfl ⟨by simp [cdA, cdB, cdE, h], by go_grown⟩
  · have H := Lib.hid h
    go_enter Try.func40, Try.ntmps40
    go_wp2_with fail
    refine (next_any _ _ _ hb0 hb1 _).mono ?_
    rintro e w1 ⟨rfl, lb1⟩
    have lz1 := lb1.size
    (try simp at lz1)
    have lB1 : Below w.heap.size w w1 := via lb1 (by go_grown) (by go_size)
    have m1_0 : w1.cell? ⟨w.heap.size + 1, 0, none⟩ = some (.int .i64 0) := kept lb1 (by repeat' (first | assumption | (simp; done) | apply keptD | apply keptA))
    have m1_1 : w1.cell? ⟨w.heap.size + 1, 1, none⟩ = some (.int .u32 0) := kept lb1 (by repeat' (first | assumption | (simp; done) | apply keptD | apply keptA))
    have m1_2 : w1.cell? ⟨w.heap.size + 1, 2, none⟩ = some (.int .u32 0) := kept lb1 (by repeat' (first | assumption | (simp; done) | apply keptD | apply keptA))
    have s1_0 : w.heap.size < w1.heap.size := by omega
    have s1_1 : w.heap.size + 1 < w1.heap.size := by omega
    have z1_0 : w1.frozen? ⟨w.heap.size + 1, 0, none⟩ = false := keptF lb1 (by simp) (by simp)
    have z1_1 : w1.frozen? ⟨w.heap.size + 1, 1, none⟩ = false := keptF lb1 (by simp) (by simp)
    have z1_2 : w1.frozen? ⟨w.heap.size + 1, 2, none⟩ = false := keptF lb1 (by simp) (by simp)
    clear lb1
    go_wp2
    exact bodyPost_ret (v := .tuple #[.agg #[.int .i64 (nxA lw lt), .int .u32 (nxB lw lt), .int .u32 0], .int .i64 (nxE lw lt)]) (by simp [results, Try.results40, go_sem, m1_0, m1_1, m1_2]) rfl ⟨by simp only [cdA, cdB, cdE, if_neg (Int.not_lt.mpr H.out)], by go_grown⟩

/-- Is it a reading? -/
theorem isReading_any (ph : Int) (w : World) :
    Calls Try.prog 36 #[.int .i64 ph] w fun e w' => e = .returned (.bool (rightB ph)) ∧ w = w' := by
  by_cases h0 : 0 ≤ ph
  · by_cases h1 : ph ≤ 4611686018427387904
    · go_enter Try.func36, Try.ntmps36
      go_wp2
      go_ret
      exact ⟨by simp [rightB, h0, h1], rfl⟩
    · go_enter Try.func36, Try.ntmps36
      go_wp2
      go_ret
      exact ⟨by simp [rightB, h0, h1], rfl⟩
  · go_enter Try.func36, Try.ntmps36
    go_wp2
    go_ret
    exact ⟨by simp [rightB]; omega, rfl⟩

/-- What give answers: the errno; the stamp; what the last one is then. -/
def gvE (up ph lw lt : Int) : Int := if cdE ph lw lt = 0 then (if up < cdA ph lw lt then 22 else 0) else cdE ph lw lt
def gvA (up ph lw lt : Int) : Int := if gvE up ph lw lt = 0 then cdA ph lw lt else 0
def gvB (up ph lw lt : Int) : Int := if gvE up ph lw lt = 0 then cdB ph lw lt else 0
def gvM (up mk ph lw lt : Int) : Int := if gvE up ph lw lt = 0 then mk else 0
def gvW (up ph lw lt lw0 : Int) : Int := if gvE up ph lw lt = 0 then cdA ph lw lt else lw0
def gvT (up ph lw lt lt0 : Int) : Int := if gvE up ph lw lt = 0 then cdB ph lw lt else lt0

set_option maxHeartbeats 2000000 in
theorem give_bad (ph lw lt m : Int) (hb0 : 0 ≤ lt) (hb1 : lt ≤ 4294967295) (b : Nat) (w : World) (h : cdE ph lw lt ≠ 0) :
    Calls Try.prog 37 #[.pointer (some ⟨b, 0, none⟩), .int .i64 ph, .agg #[.int .i64 lw, .int .u32 lt, .int .u32 m]] w fun e w' => e = .returned (.tuple #[.agg #[.int .i64 0, .int .u32 0, .int .u32 0], .int .i64 (cdE ph lw lt)]) ∧ Below w.heap.size w w' := by
  have h1 : (cdE ph lw lt == 0) = false := by simpa using h
  have h2 : (cdE ph lw lt != 0) = true := by simpa using h
  clear h
  go_enter Try.func37, Try.ntmps37
  go_wp2_with fail
  refine (candidate_any _ _ _ _ hb0 hb1 _).mono ?_
  rintro e w1 ⟨rfl, lb1⟩
  have lz1 := lb1.size
  (try simp at lz1)
  have lB1 : Below w.heap.size w w1 := via lb1 (by go_grown) (by go_size)
  have m1_0 : w1.cell? ⟨w.heap.size + 1, 0, none⟩ = some (.int .i64 0) := kept lb1 (by repeat' (first | assumption | (simp; done) | apply keptD | apply keptA))
  have m1_1 : w1.cell? ⟨w.heap.size + 1, 1, none⟩ = some (.int .u32 0) := kept lb1 (by repeat' (first | assumption | (simp; done) | apply keptD | apply keptA))
  have m1_2 : w1.cell? ⟨w.heap.size + 1, 2, none⟩ = some (.int .u32 0) := kept lb1 (by repeat' (first | assumption | (simp; done) | apply keptD | apply keptA))
  have s1_0 : w.heap.size < w1.heap.size := by omega
  have s1_1 : w.heap.size + 1 < w1.heap.size := by omega
  have z1_0 : w1.frozen? ⟨w.heap.size + 1, 0, none⟩ = false := keptF lb1 (by simp) (by simp)
  have z1_1 : w1.frozen? ⟨w.heap.size + 1, 1, none⟩ = false := keptF lb1 (by simp) (by simp)
  have z1_2 : w1.frozen? ⟨w.heap.size + 1, 2, none⟩ = false := keptF lb1 (by simp) (by simp)
  clear lb1
  go_wp2
  exact bodyPost_ret (v := .tuple #[.agg #[.int .i64 0, .int .u32 0, .int .u32 0], .int .i64 (cdE ph lw lt)]) (by simp [results, Try.results37, go_sem, m1_0, m1_1, m1_2, s1_1]) rfl ⟨rfl, by go_grown⟩

set_option maxHeartbeats 2000000 in
theorem give_upper (b : Nat) (off up mk lw0 lt0 ph lw lt m : Int) (hb0 : 0 ≤ lt) (hb1 : lt ≤ 4294967295) (w : World) (hk : Clk w b off up mk lw0 lt0) (h : cdE ph lw lt = 0) (hu : up < cdA ph lw lt) :
    Calls Try.prog 37 #[.pointer (some ⟨b, 0, none⟩), .int .i64 ph, .agg #[.int .i64 lw, .int .u32 lt, .int .u32 m]] w fun e w' => e = .returned (.tuple #[.agg #[.int .i64 0, .int .u32 0, .int .u32 0], .int .i64 22]) ∧ Below w.heap.size w w' := by
  have hbw := hk.lt
  have k0 := hk.c0
  have k1 := hk.c1
  have k2 := hk.c2
  have k3 := hk.c3
  have k4 := hk.c4
  have k5 := hk.c5
  have kf := hk.f
  clear hk
  go_enter Try.func37, Try.ntmps37
  go_wp2_with fail
  refine (candidate_any _ _ _ _ hb0 hb1 _).mono ?_
  rintro e w1 ⟨rfl, lb1⟩
  have lz1 := lb1.size
  (try simp at lz1)
  have lB1 : Below w.heap.size w w1 := via lb1 (by go_grown) (by go_size)
  have m1_0 : w1.cell? ⟨w.heap.size + 1, 0, none⟩ = some (.int .i64 0) := kept lb1 (by repeat' (first | assumption | (simp; done) | apply keptD | apply keptA))
  have m1_1 : w1.cell? ⟨w.heap.size + 1, 1, none⟩ = some (.int .u32 0) := kept lb1 (by repeat' (first | assumption | (simp; done) | apply keptD | apply keptA))
  have m1_2 : w1.cell? ⟨w.heap.size + 1, 2, none⟩ = some (.int .u32 0) := kept lb1 (by repeat' (first | assumption | (simp; done) | apply keptD | apply keptA))
  have m1_3 : w1.cell? ⟨b, 0, none⟩ = some (.int .i64 off) := kept lb1 (by repeat' (first | assumption | (simp; done) | apply keptD | apply keptA))
  have m1_4 : w1.cell? ⟨b, 1, none⟩ = some (.int .i64 up) := kept lb1 (by repeat' (first | assumption | (simp; done) | apply keptD | apply keptA))
  have m1_5 : w1.cell? ⟨b, 2, none⟩ = some (.int .u32 mk) := kept lb1 (by repeat' (first | assumption | (simp; done) | apply keptD | apply keptA))
  have m1_6 : w1.cell? ⟨b, 3, none⟩ = some (.int .i64 lw0) := kept lb1 (by repeat' (first | assumption | (simp; done) | apply keptD | apply keptA))
  have m1_7 : w1.cell? ⟨b, 4, none⟩ = some (.int .u32 lt0) := kept lb1 (by repeat' (first | assumption | (simp; done) | apply keptD | apply keptA))
  have m1_8 : w1.cell? ⟨b, 5, none⟩ = some (.int .u32 0) := kept lb1 (by repeat' (first | assumption | (simp; done) | apply keptD | apply keptA))
  have s1_0 : w.heap.size < w1.heap.size := by omega
  have s1_1 : w.heap.size + 1 < w1.heap.size := by omega
  have s1_2 : b < w1.heap.size := by omega
  have z1_0 : w1.frozen? ⟨w.heap.size + 1, 0, none⟩ = false := keptF lb1 (by simp) (by simp)
  have z1_1 : w1.frozen? ⟨w.heap.size + 1, 1, none⟩ = false := keptF lb1 (by simp) (by simp)
  have z1_2 : w1.frozen? ⟨w.heap.size + 1, 2, none⟩ = false := keptF lb1 (by simp) (by simp)
  clear lb1
  go_wp2
  go_quiet (fail)
  go_wp2
  exact bodyPost_ret (v := .tuple #[.agg #[.int .i64 0, .int .u32 0, .int .u32 0], .int .i64 22]) (by simp [results, Try.results37, go_sem, m1_0, m1_1, m1_2, s1_1]) rfl ⟨rfl, by repeat' (first | assumption | apply belowN | (with_reducible refine Below.drew ?_) | (with_reducible refine Below.alloc ?_ ?_ _) | (with_reducible refine Below.setCell ?_ ?_ _) | omega | (simp; done) | (simp; omega))⟩

end Go.Proofs.Yteibigiehpkdjaa
