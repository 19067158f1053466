/- The contract of the clock: Update. -/
import Derived.Test.YteibigiehpkdjaaNow
namespace Go.Proofs.Yteibigiehpkdjaa
open Go.RowKit


set_option maxHeartbeats 3000000 in
theorem update_in (b : Nat) (off up mk lw lt ph iw it im : Int) (hb0 : 0 ≤ lt) (hb1 : lt ≤ 4294967295) (hi0 : 0 ≤ it) (hi1 : it ≤ 4294967295) (hm0 : 0 ≤ im) (hm1 : im ≤ 4294967295) (w : World) (hk : Clk w b off up mk lw lt)
    (hr : rightB ph = true) (hri : rightB iw = true) (ho : iw - ph ≤ off) (hc : 0 < cmpS iw it im lw lt 0) :
    Calls Try.prog 27 #[.pointer (some ⟨b, 0, none⟩), .int .i64 ph, .agg #[.int .i64 iw, .int .u32 it, .int .u32 im]] w fun e w' => e = .returned (.tuple #[.agg #[.int .i64 (gvA up ph iw it), .int .u32 (gvB up ph iw it), .int .u32 (gvM up mk ph iw it)], .int .i64 (gvE up ph iw it)]) ∧ Only b w w' ∧ Clk w' b off up mk (gvW up ph iw it lw) (gvT up ph iw it lt) := by
  have hbw := hk.lt
  have k0 := hk.c0
  have k3 := hk.c3
  have k4 := hk.c4
  have k5 := hk.c5
  have HK := Lib.hid hk
  clear hk
  have hp : 0 ≤ ph ∧ ph ≤ 4611686018427387904 := by simpa [rightB] using hr
  have hq : 0 ≤ iw ∧ iw ≤ 4611686018427387904 := by simpa [rightB] using hri
  obtain ⟨hp0, hp1⟩ := hp
  obtain ⟨hq0, hq1⟩ := hq
  go_enter Try.func27, Try.ntmps27
  go_wp2_with fail
  refine (isReading_any _ _).mono ?_
  rintro e w0 ⟨rfl, rfl⟩
  go_wp2_with fail
  refine (right_any _ _ _ _).mono ?_
  rintro e w1 ⟨rfl, lb1⟩
  have HC1 := Lib.hid ((HK.out.below (((Below.refl w.heap.size w).alloc (Nat.le_refl _) _).alloc (by simp) _)).below lb1)
  have lB1 : Below w.heap.size w w1 := via lb1 (by go_grown) (by go_size)
  have lz1 := lb1.size
  (try simp at lz1)
  have m1_0 : w1.cell? ⟨w.heap.size, 0, none⟩ = some (.int .i64 iw) := kept lb1 (by repeat' (first | assumption | (simp; done) | apply keptD | apply keptA))
  have m1_1 : w1.cell? ⟨w.heap.size, 1, none⟩ = some (.int .u32 it) := kept lb1 (by repeat' (first | assumption | (simp; done) | apply keptD | apply keptA))
  have m1_2 : w1.cell? ⟨w.heap.size, 2, none⟩ = some (.int .u32 im) := kept lb1 (by repeat' (first | assumption | (simp; done) | apply keptD | apply keptA))
  have m1_3 : w1.cell? ⟨w.heap.size + 1, 0, none⟩ = some (.int .i64 0) := kept lb1 (by repeat' (first | assumption | (simp; done) | apply keptD | apply keptA))
  have m1_4 : w1.cell? ⟨w.heap.size + 1, 1, none⟩ = some (.int .u32 0) := kept lb1 (by repeat' (first | assumption | (simp; done) | apply keptD | apply keptA))
  have m1_5 : w1.cell? ⟨w.heap.size + 1, 2, none⟩ = some (.int .u32 0) := kept lb1 (by repeat' (first | assumption | (simp; done) | apply keptD | apply keptA))
  have z1_0 : w1.frozen? ⟨w.heap.size + 1, 0, none⟩ = false := keptF lb1 (by simp) (by simp)
  have z1_1 : w1.frozen? ⟨w.heap.size + 1, 1, none⟩ = false := keptF lb1 (by simp) (by simp)
  have z1_2 : w1.frozen? ⟨w.heap.size + 1, 2, none⟩ = false := keptF lb1 (by simp) (by simp)
  have s1_0 : w.heap.size < w1.heap.size := by omega
  have s1_1 : w.heap.size + 1 < w1.heap.size := by omega
  have s1_2 : b < w1.heap.size := by omega
  have c0 := HC1.out.c0
  have c3 := HC1.out.c3
  have c4 := HC1.out.c4
  have c5 := HC1.out.c5
  clear lb1 k0 k3 k4 k5
  go_wp2
  go_quiet (fail)
  go_wp2_with fail
  go_region_held3 (fun w' => w'.cell? ⟨w.heap.size, 0, none⟩ = some (.int .i64 iw) ∧ w'.cell? ⟨w.heap.size, 1, none⟩ = some (.int .u32 it) ∧ w'.cell? ⟨w.heap.size, 2, none⟩ = some (.int .u32 im) ∧ w'.cell? ⟨b, 3, none⟩ = some (.int .i64 lw) ∧ w'.cell? ⟨b, 4, none⟩ = some (.int .u32 lt) ∧ w'.cell? ⟨b, 5, none⟩ = some (.int .u32 0) ∧ Below w1.heap.size w1 w')
    (((try dsimp only); go_split_ands; (repeat' apply And.intro) <;> first | assumption | (apply kept; assumption; assumption) | (apply via; assumption; assumption; apply Below.size; assumption) | (apply Below.drew; apply belowN; exact Below.refl _ _)))
    (first
      | (go_at_call 14; refine (compare_any _ _ _ _ _ _ (by omega) (by omega) (by omega) (by omega) (by omega) (by omega) (by omega) (by omega) _).mono ?_; rintro e w2 ⟨rfl, hb⟩))
  go_split_ands
  rename_i hB12
  have HC2 := Lib.hid (HC1.out.below hB12)
  have n1 : w.heap.size + 1 ≠ b := by omega
  have m2_0 : _ := kept hB12 m1_0
  have m2_1 : _ := kept hB12 m1_1
  have m2_2 : _ := kept hB12 m1_2
  have m2_3 : _ := kept hB12 m1_3
  have m2_4 : _ := kept hB12 m1_4
  have m2_5 : _ := kept hB12 m1_5
  have z2_0 : _ := keptF hB12 (show _ < _ from s1_1) z1_0
  have z2_1 : _ := keptF hB12 (show _ < _ from s1_1) z1_1
  have z2_2 : _ := keptF hB12 (show _ < _ from s1_1) z1_2
  have lz2 := hB12.size
  have s2_0 := Nat.lt_of_lt_of_le s1_0 lz2
  have s2_1 := Nat.lt_of_lt_of_le s1_1 lz2
  have s2_2 := Nat.lt_of_lt_of_le s1_2 lz2
  have oB2 := Lib.hid ((Only.of_below (b := b) lB1).trans (Only.of_below hB12))
  clear hB12 c0 c3 c4 c5
  go_wp2_with fail
  refine (give_any b off up mk lw lt ph iw it im hi0 hi1 _ HC2.out).mono ?_
  rintro e w3 ⟨rfl, ho3, hc3⟩
  have q0 : w3.cell? ⟨w.heap.size + 1, 0, none⟩ = some (.int .i64 0) := ho3.cell n1 m2_3
  have q1 : w3.cell? ⟨w.heap.size + 1, 1, none⟩ = some (.int .u32 0) := ho3.cell n1 m2_4
  have q2 : w3.cell? ⟨w.heap.size + 1, 2, none⟩ = some (.int .u32 0) := ho3.cell n1 m2_5
  have f0 : w3.frozen? ⟨w.heap.size + 1, 0, none⟩ = false := ho3.frz n1 s2_1 z2_0
  have f1 : w3.frozen? ⟨w.heap.size + 1, 1, none⟩ = false := ho3.frz n1 s2_1 z2_1
  have f2 : w3.frozen? ⟨w.heap.size + 1, 2, none⟩ = false := ho3.frz n1 s2_1 z2_2
  have oB := oB2.out.trans ho3
  have HC3 := Lib.hid hc3
  clear ho3 hc3
  go_wp2
  generalize hW : (World.setCell _ _ _ : World) = W'
  have c0 := HC3.out.c0
  have c1 := HC3.out.c1
  have c2 := HC3.out.c2
  have c3 := HC3.out.c3
  have c4 := HC3.out.c4
  have c5 := HC3.out.c5
  have r0 : W'.cell? ⟨w.heap.size + 1, 0, none⟩ = some (.int .i64 (gvA up ph iw it)) := by rw [← hW]; (repeat' (first | (with_reducible assumption) | (with_reducible apply cellS) | ((with_reducible refine cellO ?_ ?_); focus (first | (intro hh; simp at hh; done) | (intro hh; simp at hh; omega))) | (with_reducible apply cellN) | (with_reducible apply keptA) | (with_reducible apply isS) | (with_reducible apply isN) | (with_reducible apply isA) | (with_reducible apply isOf; with_reducible assumption)))
  have r1 : W'.cell? ⟨w.heap.size + 1, 1, none⟩ = some (.int .u32 (gvB up ph iw it)) := by rw [← hW]; (repeat' (first | (with_reducible assumption) | (with_reducible apply cellS) | ((with_reducible refine cellO ?_ ?_); focus (first | (intro hh; simp at hh; done) | (intro hh; simp at hh; omega))) | (with_reducible apply cellN) | (with_reducible apply keptA) | (with_reducible apply isS) | (with_reducible apply isN) | (with_reducible apply isA) | (with_reducible apply isOf; with_reducible assumption)))
  have r2 : W'.cell? ⟨w.heap.size + 1, 2, none⟩ = some (.int .u32 (gvM up mk ph iw it)) := by rw [← hW]; (repeat' (first | (with_reducible assumption) | (with_reducible apply cellS) | ((with_reducible refine cellO ?_ ?_); focus (first | (intro hh; simp at hh; done) | (intro hh; simp at hh; omega))) | (with_reducible apply cellN) | (with_reducible apply keptA) | (with_reducible apply isS) | (with_reducible apply isN) | (with_reducible apply isA) | (with_reducible apply isOf; with_reducible assumption)))
  have d0 : W'.cell? ⟨b, 0, none⟩ = some (.int .i64 off) := by rw [← hW]; (repeat' (first | (with_reducible assumption) | (with_reducible apply cellS) | ((with_reducible refine cellO ?_ ?_); focus (first | (intro hh; simp at hh; done) | (intro hh; simp at hh; omega))) | (with_reducible apply cellN) | (with_reducible apply keptA) | (with_reducible apply isS) | (with_reducible apply isN) | (with_reducible apply isA) | (with_reducible apply isOf; with_reducible assumption)))
  have d1 : W'.cell? ⟨b, 1, none⟩ = some (.int .i64 up) := by rw [← hW]; (repeat' (first | (with_reducible assumption) | (with_reducible apply cellS) | ((with_reducible refine cellO ?_ ?_); focus (first | (intro hh; simp at hh; done) | (intro hh; simp at hh; omega))) | (with_reducible apply cellN) | (with_reducible apply keptA) | (with_reducible apply isS) | (with_reducible apply isN) | (with_reducible apply isA) | (with_reducible apply isOf; with_reducible assumption)))
  have d2 : W'.cell? ⟨b, 2, none⟩ = some (.int .u32 mk) := by rw [← hW]; (repeat' (first | (with_reducible assumption) | (with_reducible apply cellS) | ((with_reducible refine cellO ?_ ?_); focus (first | (intro hh; simp at hh; done) | (intro hh; simp at hh; omega))) | (with_reducible apply cellN) | (with_reducible apply keptA) | (with_reducible apply isS) | (with_reducible apply isN) | (with_reducible apply isA) | (with_reducible apply isOf; with_reducible assumption)))
  have d3 : W'.cell? ⟨b, 3, none⟩ = some (.int .i64 (gvW up ph iw it lw)) := by rw [← hW]; (repeat' (first | (with_reducible assumption) | (with_reducible apply cellS) | ((with_reducible refine cellO ?_ ?_); focus (first | (intro hh; simp at hh; done) | (intro hh; simp at hh; omega))) | (with_reducible apply cellN) | (with_reducible apply keptA) | (with_reducible apply isS) | (with_reducible apply isN) | (with_reducible apply isA) | (with_reducible apply isOf; with_reducible assumption)))
  have d4 : W'.cell? ⟨b, 4, none⟩ = some (.int .u32 (gvT up ph iw it lt)) := by rw [← hW]; (repeat' (first | (with_reducible assumption) | (with_reducible apply cellS) | ((with_reducible refine cellO ?_ ?_); focus (first | (intro hh; simp at hh; done) | (intro hh; simp at hh; omega))) | (with_reducible apply cellN) | (with_reducible apply keptA) | (with_reducible apply isS) | (with_reducible apply isN) | (with_reducible apply isA) | (with_reducible apply isOf; with_reducible assumption)))
  have d5 : W'.cell? ⟨b, 5, none⟩ = some (.int .u32 0) := by rw [← hW]; (repeat' (first | (with_reducible assumption) | (with_reducible apply cellS) | ((with_reducible refine cellO ?_ ?_); focus (first | (intro hh; simp at hh; done) | (intro hh; simp at hh; omega))) | (with_reducible apply cellN) | (with_reducible apply keptA) | (with_reducible apply isS) | (with_reducible apply isN) | (with_reducible apply isA) | (with_reducible apply isOf; with_reducible assumption)))
  have d6 : ∀ i, W'.frozen? ⟨b, i, none⟩ = false := fun i => by rw [← hW]; (repeat' (first | (with_reducible exact HC3.out.f _) | (with_reducible apply frS)))
  have d7 : Only b w W' := by
    rw [← hW]
    repeat' (first | (with_reducible assumption) | (with_reducible refine Only.setCell ?_ ?_ _) | (right; exact Nat.le_succ _))
  clear hW
  refine bodyPost_ret (v := .tuple #[.agg #[.int .i64 (gvA up ph iw it), .int .u32 (gvB up ph iw it), .int .u32 (gvM up mk ph iw it)], .int .i64 (gvE up ph iw it)]) (by simp [results, Try.results27, go_sem, r0, r1, r2]) rfl ⟨rfl, d7, ⟨d0, d1, d2, d3, d4, d5, d6⟩⟩

set_option maxHeartbeats 3000000 in
theorem update_last (b : Nat) (off up mk lw lt ph iw it im : Int) (hb0 : 0 ≤ lt) (hb1 : lt ≤ 4294967295) (hi0 : 0 ≤ it) (hi1 : it ≤ 4294967295) (hm0 : 0 ≤ im) (hm1 : im ≤ 4294967295) (w : World) (hk : Clk w b off up mk lw lt)
    (hr : rightB ph = true) (hri : rightB iw = true) (ho : iw - ph ≤ off) (hc : cmpS iw it im lw lt 0 ≤ 0) :
    Calls Try.prog 27 #[.pointer (some ⟨b, 0, none⟩), .int .i64 ph, .agg #[.int .i64 iw, .int .u32 it, .int .u32 im]] w fun e w' => e = .returned (.tuple #[.agg #[.int .i64 (gvA up ph lw lt), .int .u32 (gvB up ph lw lt), .int .u32 (gvM up mk ph lw lt)], .int .i64 (gvE up ph lw lt)]) ∧ Only b w w' ∧ Clk w' b off up mk (gvW up ph lw lt lw) (gvT up ph lw lt lt) := by
  have hbw := hk.lt
  have k0 := hk.c0
  have k3 := hk.c3
  have k4 := hk.c4
  have k5 := hk.c5
  have HK := Lib.hid hk
  clear hk
  have hp : 0 ≤ ph ∧ ph ≤ 4611686018427387904 := by simpa [rightB] using hr
  have hq : 0 ≤ iw ∧ iw ≤ 4611686018427387904 := by simpa [rightB] using hri
  obtain ⟨hp0, hp1⟩ := hp
  obtain ⟨hq0, hq1⟩ := hq
  go_enter Try.func27, Try.ntmps27
  go_wp2_with fail
  refine (isReading_any _ _).mono ?_
  rintro e w0 ⟨rfl, rfl⟩
  go_wp2_with fail
  refine (right_any _ _ _ _).mono ?_
  rintro e w1 ⟨rfl, lb1⟩
  have HC1 := Lib.hid ((HK.out.below (((Below.refl w.heap.size w).alloc (Nat.le_refl _) _).alloc (by simp) _)).below lb1)
  have lB1 : Below w.heap.size w w1 := via lb1 (by go_grown) (by go_size)
  have lz1 := lb1.size
  (try simp at lz1)
  have m1_0 : w1.cell? ⟨w.heap.size, 0, none⟩ = some (.int .i64 iw) := kept lb1 (by repeat' (first | assumption | (simp; done) | apply keptD | apply keptA))
  have m1_1 : w1.cell? ⟨w.heap.size, 1, none⟩ = some (.int .u32 it) := kept lb1 (by repeat' (first | assumption | (simp; done) | apply keptD | apply keptA))
  have m1_2 : w1.cell? ⟨w.heap.size, 2, none⟩ = some (.int .u32 im) := kept lb1 (by repeat' (first | assumption | (simp; done) | apply keptD | apply keptA))
  have m1_3 : w1.cell? ⟨w.heap.size + 1, 0, none⟩ = some (.int .i64 0) := kept lb1 (by repeat' (first | assumption | (simp; done) | apply keptD | apply keptA))
  have m1_4 : w1.cell? ⟨w.heap.size + 1, 1, none⟩ = some (.int .u32 0) := kept lb1 (by repeat' (first | assumption | (simp; done) | apply keptD | apply keptA))
  have m1_5 : w1.cell? ⟨w.heap.size + 1, 2, none⟩ = some (.int .u32 0) := kept lb1 (by repeat' (first | assumption | (simp; done) | apply keptD | apply keptA))
  have z1_0 : w1.frozen? ⟨w.heap.size + 1, 0, none⟩ = false := keptF lb1 (by simp) (by simp)
  have z1_1 : w1.frozen? ⟨w.heap.size + 1, 1, none⟩ = false := keptF lb1 (by simp) (by simp)
  have z1_2 : w1.frozen? ⟨w.heap.size + 1, 2, none⟩ = false := keptF lb1 (by simp) (by simp)
  have s1_0 : w.heap.size < w1.heap.size := by omega
  have s1_1 : w.heap.size + 1 < w1.heap.size := by omega
  have s1_2 : b < w1.heap.size := by omega
  have c0 := HC1.out.c0
  have c3 := HC1.out.c3
  have c4 := HC1.out.c4
  have c5 := HC1.out.c5
  clear lb1 k0 k3 k4 k5
  go_wp2
  go_quiet (fail)
  go_wp2_with fail
  go_region_held3 (fun w' => w'.cell? ⟨w.heap.size, 0, none⟩ = some (.int .i64 iw) ∧ w'.cell? ⟨w.heap.size, 1, none⟩ = some (.int .u32 it) ∧ w'.cell? ⟨w.heap.size, 2, none⟩ = some (.int .u32 im) ∧ w'.cell? ⟨b, 3, none⟩ = some (.int .i64 lw) ∧ w'.cell? ⟨b, 4, none⟩ = some (.int .u32 lt) ∧ w'.cell? ⟨b, 5, none⟩ = some (.int .u32 0) ∧ Below w1.heap.size w1 w')
    (((try dsimp only); go_split_ands; (repeat' apply And.intro) <;> first | assumption | (apply kept; assumption; assumption) | (apply via; assumption; assumption; apply Below.size; assumption) | (apply Below.drew; apply belowN; exact Below.refl _ _)))
    (first
      | (go_at_call 14; refine (compare_any _ _ _ _ _ _ (by omega) (by omega) (by omega) (by omega) (by omega) (by omega) (by omega) (by omega) _).mono ?_; rintro e w2 ⟨rfl, hb⟩))
  go_split_ands
  rename_i hB12
  have HC2 := Lib.hid (HC1.out.below hB12)
  have n1 : w.heap.size + 1 ≠ b := by omega
  have m2_0 : _ := kept hB12 m1_0
  have m2_1 : _ := kept hB12 m1_1
  have m2_2 : _ := kept hB12 m1_2
  have m2_3 : _ := kept hB12 m1_3
  have m2_4 : _ := kept hB12 m1_4
  have m2_5 : _ := kept hB12 m1_5
  have z2_0 : _ := keptF hB12 (show _ < _ from s1_1) z1_0
  have z2_1 : _ := keptF hB12 (show _ < _ from s1_1) z1_1
  have z2_2 : _ := keptF hB12 (show _ < _ from s1_1) z1_2
  have lz2 := hB12.size
  have s2_0 := Nat.lt_of_lt_of_le s1_0 lz2
  have s2_1 := Nat.lt_of_lt_of_le s1_1 lz2
  have s2_2 := Nat.lt_of_lt_of_le s1_2 lz2
  have oB2 := Lib.hid ((Only.of_below (b := b) lB1).trans (Only.of_below hB12))
  clear hB12 c0 c3 c4 c5
  go_wp2_with fail
  refine (give_any b off up mk lw lt ph lw lt 0 hb0 hb1 _ HC2.out).mono ?_
  rintro e w3 ⟨rfl, ho3, hc3⟩
  have q0 : w3.cell? ⟨w.heap.size + 1, 0, none⟩ = some (.int .i64 0) := ho3.cell n1 m2_3
  have q1 : w3.cell? ⟨w.heap.size + 1, 1, none⟩ = some (.int .u32 0) := ho3.cell n1 m2_4
  have q2 : w3.cell? ⟨w.heap.size + 1, 2, none⟩ = some (.int .u32 0) := ho3.cell n1 m2_5
  have f0 : w3.frozen? ⟨w.heap.size + 1, 0, none⟩ = false := ho3.frz n1 s2_1 z2_0
  have f1 : w3.frozen? ⟨w.heap.size + 1, 1, none⟩ = false := ho3.frz n1 s2_1 z2_1
  have f2 : w3.frozen? ⟨w.heap.size + 1, 2, none⟩ = false := ho3.frz n1 s2_1 z2_2
  have oB := oB2.out.trans ho3
  have HC3 := Lib.hid hc3
  clear ho3 hc3
  go_wp2
  generalize hW : (World.setCell _ _ _ : World) = W'
  have c0 := HC3.out.c0
  have c1 := HC3.out.c1
  have c2 := HC3.out.c2
  have c3 := HC3.out.c3
  have c4 := HC3.out.c4
  have c5 := HC3.out.c5
  have r0 : W'.cell? ⟨w.heap.size + 1, 0, none⟩ = some (.int .i64 (gvA up ph lw lt)) := by rw [← hW]; (repeat' (first | (with_reducible assumption) | (with_reducible apply cellS) | ((with_reducible refine cellO ?_ ?_); focus (first | (intro hh; simp at hh; done) | (intro hh; simp at hh; omega))) | (with_reducible apply cellN) | (with_reducible apply keptA) | (with_reducible apply isS) | (with_reducible apply isN) | (with_reducible apply isA) | (with_reducible apply isOf; with_reducible assumption)))
  have r1 : W'.cell? ⟨w.heap.size + 1, 1, none⟩ = some (.int .u32 (gvB up ph lw lt)) := by rw [← hW]; (repeat' (first | (with_reducible assumption) | (with_reducible apply cellS) | ((with_reducible refine cellO ?_ ?_); focus (first | (intro hh; simp at hh; done) | (intro hh; simp at hh; omega))) | (with_reducible apply cellN) | (with_reducible apply keptA) | (with_reducible apply isS) | (with_reducible apply isN) | (with_reducible apply isA) | (with_reducible apply isOf; with_reducible assumption)))
  have r2 : W'.cell? ⟨w.heap.size + 1, 2, none⟩ = some (.int .u32 (gvM up mk ph lw lt)) := by rw [← hW]; (repeat' (first | (with_reducible assumption) | (with_reducible apply cellS) | ((with_reducible refine cellO ?_ ?_); focus (first | (intro hh; simp at hh; done) | (intro hh; simp at hh; omega))) | (with_reducible apply cellN) | (with_reducible apply keptA) | (with_reducible apply isS) | (with_reducible apply isN) | (with_reducible apply isA) | (with_reducible apply isOf; with_reducible assumption)))
  have d0 : W'.cell? ⟨b, 0, none⟩ = some (.int .i64 off) := by rw [← hW]; (repeat' (first | (with_reducible assumption) | (with_reducible apply cellS) | ((with_reducible refine cellO ?_ ?_); focus (first | (intro hh; simp at hh; done) | (intro hh; simp at hh; omega))) | (with_reducible apply cellN) | (with_reducible apply keptA) | (with_reducible apply isS) | (with_reducible apply isN) | (with_reducible apply isA) | (with_reducible apply isOf; with_reducible assumption)))
  have d1 : W'.cell? ⟨b, 1, none⟩ = some (.int .i64 up) := by rw [← hW]; (repeat' (first | (with_reducible assumption) | (with_reducible apply cellS) | ((with_reducible refine cellO ?_ ?_); focus (first | (intro hh; simp at hh; done) | (intro hh; simp at hh; omega))) | (with_reducible apply cellN) | (with_reducible apply keptA) | (with_reducible apply isS) | (with_reducible apply isN) | (with_reducible apply isA) | (with_reducible apply isOf; with_reducible assumption)))
  have d2 : W'.cell? ⟨b, 2, none⟩ = some (.int .u32 mk) := by rw [← hW]; (repeat' (first | (with_reducible assumption) | (with_reducible apply cellS) | ((with_reducible refine cellO ?_ ?_); focus (first | (intro hh; simp at hh; done) | (intro hh; simp at hh; omega))) | (with_reducible apply cellN) | (with_reducible apply keptA) | (with_reducible apply isS) | (with_reducible apply isN) | (with_reducible apply isA) | (with_reducible apply isOf; with_reducible assumption)))
  have d3 : W'.cell? ⟨b, 3, none⟩ = some (.int .i64 (gvW up ph lw lt lw)) := by rw [← hW]; (repeat' (first | (with_reducible assumption) | (with_reducible apply cellS) | ((with_reducible refine cellO ?_ ?_); focus (first | (intro hh; simp at hh; done) | (intro hh; simp at hh; omega))) | (with_reducible apply cellN) | (with_reducible apply keptA) | (with_reducible apply isS) | (with_reducible apply isN) | (with_reducible apply isA) | (with_reducible apply isOf; with_reducible assumption)))
  have d4 : W'.cell? ⟨b, 4, none⟩ = some (.int .u32 (gvT up ph lw lt lt)) := by rw [← hW]; (repeat' (first | (with_reducible assumption) | (with_reducible apply cellS) | ((with_reducible refine cellO ?_ ?_); focus (first | (intro hh; simp at hh; done) | (intro hh; simp at hh; omega))) | (with_reducible apply cellN) | (with_reducible apply keptA) | (with_reducible apply isS) | (with_reducible apply isN) | (with_reducible apply isA) | (with_reducible apply isOf; with_reducible assumption)))
  have d5 : W'.cell? ⟨b, 5, none⟩ = some (.int .u32 0) := by rw [← hW]; (repeat' (first | (with_reducible assumption) | (with_reducible apply cellS) | ((with_reducible refine cellO ?_ ?_); focus (first | (intro hh; simp at hh; done) | (intro hh; simp at hh; omega))) | (with_reducible apply cellN) | (with_reducible apply keptA) | (with_reducible apply isS) | (with_reducible apply isN) | (with_reducible apply isA) | (with_reducible apply isOf; with_reducible assumption)))
  have d6 : ∀ i, W'.frozen? ⟨b, i, none⟩ = false := fun i => by rw [← hW]; (repeat' (first | (with_reducible exact HC3.out.f _) | (with_reducible apply frS)))
  have d7 : Only b w W' := by
    rw [← hW]
    repeat' (first | (with_reducible assumption) | (with_reducible refine Only.setCell ?_ ?_ _) | (right; exact Nat.le_succ _))
  clear hW
  refine bodyPost_ret (v := .tuple #[.agg #[.int .i64 (gvA up ph lw lt), .int .u32 (gvB up ph lw lt), .int .u32 (gvM up mk ph lw lt)], .int .i64 (gvE up ph lw lt)]) (by simp [results, Try.results27, go_sem, r0, r1, r2]) rfl ⟨rfl, d7, ⟨d0, d1, d2, d3, d4, d5, d6⟩⟩

end Go.Proofs.Yteibigiehpkdjaa
