/- A step of both clocks, the program's and the document's: one answer. -/
import Derived.Test.YteibigiehpkdjaaRefC
import Derived.Test.YteibigiehpkdjaaUpdD
namespace Go.Proofs.Yteibigiehpkdjaa
open Go.RowKit


theorem gv_right {up ph lw lt lw0 lt0 : Int} (l0 : 0 ≤ lt) (l1 : lt ≤ 4294967295) (w0 : 0 ≤ lw) (u1 : up ≤ 4611686018427387904) (b0 : 0 ≤ lt0) (b1 : lt0 ≤ 4294967295) (c0 : 0 ≤ lw0) (c1 : lw0 ≤ 4611686018427387904) :
    (0 ≤ gvT up ph lw lt lt0 ∧ gvT up ph lw lt lt0 ≤ 4294967295) ∧ (0 ≤ gvW up ph lw lt lw0 ∧ gvW up ph lw lt lw0 ≤ 4611686018427387904) := by
  by_cases hE : gvE up ph lw lt = 0
  · obtain ⟨g1, g2, g3, g4, g5⟩ := gv_facts hE l0 l1
    obtain ⟨n1, n2, _⟩ := gv_new (lw0 := lw0) (lt0 := lt0) (mk := 0) hE
    rw [n1, n2]
    exact ⟨⟨g4, g5⟩, by omega, by omega⟩
  · obtain ⟨s1, s2⟩ := gv_same (lw0 := lw0) (lt0 := lt0) hE
    rw [s1, s2]
    exact ⟨⟨b0, b1⟩, c0, c1⟩

theorem now_pair (b : Nat) (off up mk lw lt ph : Int) (l0 : 0 ≤ lt) (l1 : lt ≤ 4294967295) (w0 : 0 ≤ lw) (w1 : lw ≤ 4611686018427387904) (u1 : up ≤ 4611686018427387904) : ∃ X Y Z E lw' lt' : Int, ((0 ≤ lt' ∧ lt' ≤ 4294967295) ∧ (0 ≤ lw' ∧ lw' ≤ 4611686018427387904)) ∧ (∀ w, Clk w b off up mk lw lt →
      Calls Try.prog 25 #[.pointer (some ⟨b, 0, none⟩), .int .i64 ph] w fun e w' => e = .returned (.tuple #[.agg #[.int .i64 X, .int .u32 Y, .int .u32 Z], .int .i64 E]) ∧ Only b w w' ∧ Clk w' b off up mk lw' lt') ∧
      ∀ w, Calls Try.prog 26 #[.agg #[.int .i64 lw, .int .u32 lt, .int .u32 0, .int .i64 off, .int .i64 up, .int .u32 mk], .int .i64 ph] w fun e w' => e = .returned (.tuple #[.agg #[.int .i64 X, .int .u32 Y, .int .u32 Z], .int .i64 E, .agg #[.int .i64 lw', .int .u32 lt', .int .u32 0, .int .i64 off, .int .i64 up, .int .u32 mk]]) ∧ Below w.heap.size w w' := by
  by_cases hr : rightB ph = true
  · exact ⟨gvA up ph lw lt, gvB up ph lw lt, gvM up mk ph lw lt, gvE up ph lw lt, gvW up ph lw lt lw, gvT up ph lw lt lt, gv_right l0 l1 w0 u1 l0 l1 w0 w1, fun w hk => now_any b off up mk lw lt ph l0 l1 w hk hr, fun w => rnow_any off up mk lw lt ph l0 l1 w0 w1 w hr⟩
  · have hr' : rightB ph = false := by simpa using hr
    exact ⟨0, 0, 0, 1, lw, lt, ⟨⟨l0, l1⟩, w0, w1⟩, fun w hk => (now_bad b ph w hr').mono fun e w' ⟨he, hb⟩ => ⟨he, Only.of_below hb, hk.below hb⟩, fun w => rnow_bad off up mk lw lt ph w hr'⟩

theorem upd_pair (b : Nat) (off up mk lw lt ph iw it im : Int) (l0 : 0 ≤ lt) (l1 : lt ≤ 4294967295) (w0 : 0 ≤ lw) (w1 : lw ≤ 4611686018427387904) (u1 : up ≤ 4611686018427387904) (o0 : 0 ≤ off) (i0 : 0 ≤ it) (i1 : it ≤ 4294967295) (m0 : 0 ≤ im) (m1 : im ≤ 4294967295) : ∃ X Y Z E lw' lt' : Int, ((0 ≤ lt' ∧ lt' ≤ 4294967295) ∧ (0 ≤ lw' ∧ lw' ≤ 4611686018427387904)) ∧ (∀ w, Clk w b off up mk lw lt →
      Calls Try.prog 27 #[.pointer (some ⟨b, 0, none⟩), .int .i64 ph, .agg #[.int .i64 iw, .int .u32 it, .int .u32 im]] w fun e w' => e = .returned (.tuple #[.agg #[.int .i64 X, .int .u32 Y, .int .u32 Z], .int .i64 E]) ∧ Only b w w' ∧ Clk w' b off up mk lw' lt') ∧
      ∀ w, Calls Try.prog 28 #[.agg #[.int .i64 lw, .int .u32 lt, .int .u32 0, .int .i64 off, .int .i64 up, .int .u32 mk], .int .i64 ph, .agg #[.int .i64 iw, .int .u32 it, .int .u32 im]] w fun e w' => e = .returned (.tuple #[.agg #[.int .i64 X, .int .u32 Y, .int .u32 Z], .int .i64 E, .agg #[.int .i64 lw', .int .u32 lt', .int .u32 0, .int .i64 off, .int .i64 up, .int .u32 mk]]) ∧ Below w.heap.size w w' := by
  by_cases hr : rightB ph = true
  · by_cases hri : rightB iw = true
    · have hi : 0 ≤ iw ∧ iw ≤ 4611686018427387904 := by simpa [rightB] using hri
      by_cases ho : off < iw - ph
      · exact ⟨0, 0, 0, 21, lw, lt, ⟨⟨l0, l1⟩, w0, w1⟩, fun w hk => (update_bad3 off up mk lw lt b ph iw it im w hk hr hri ho).mono fun e w' ⟨he, hb⟩ => ⟨he, Only.of_below hb, hk.below hb⟩, fun w => rupd_bad3 off up mk lw lt ph iw it im w hr hri ho o0⟩
      · have hu := uo_bd (lw := lw) (iw := iw) (im := im) l0 l1 i0 i1
        have hv := uo_right (lt := lt) (it := it) (im := im) w0 w1 hi.1 hi.2
        exact ⟨gvA up ph (uoW lw lt iw it im) (uoT lw lt iw it im), gvB up ph (uoW lw lt iw it im) (uoT lw lt iw it im), gvM up mk ph (uoW lw lt iw it im) (uoT lw lt iw it im), gvE up ph (uoW lw lt iw it im) (uoT lw lt iw it im), gvW up ph (uoW lw lt iw it im) (uoT lw lt iw it im) lw, gvT up ph (uoW lw lt iw it im) (uoT lw lt iw it im) lt, gv_right hu.1 hu.2 hv.1 u1 l0 l1 w0 w1, fun w hk => update_any b off up mk lw lt ph iw it im l0 l1 i0 i1 m0 m1 w hk hr hri (by omega), fun w => rupd_any off up mk lw lt ph iw it im l0 l1 w0 w1 i0 i1 w hr hri (by omega)⟩
    · have hri' : rightB iw = false := by simpa using hri
      exact ⟨0, 0, 0, 1, lw, lt, ⟨⟨l0, l1⟩, w0, w1⟩, fun w hk => (update_bad2 b ph iw it im w hr hri').mono fun e w' ⟨he, hb⟩ => ⟨he, Only.of_below hb, hk.below hb⟩, fun w => rupd_bad2 off up mk lw lt ph iw it im w hr hri'⟩
  · have hr' : rightB ph = false := by simpa using hr
    exact ⟨0, 0, 0, 1, lw, lt, ⟨⟨l0, l1⟩, w0, w1⟩, fun w hk => (update_bad1 b ph iw it im w hr').mono fun e w' ⟨he, hb⟩ => ⟨he, Only.of_below hb, hk.below hb⟩, fun w => rupd_bad1 off up mk lw lt ph iw it im w hr'⟩

theorem raise_pair (b : Nat) (off up mk lw lt v : Int) (u0 : 0 ≤ up) (u1 : up ≤ 4611686018427387904) :
    ∃ E up' : Int, (0 ≤ up' ∧ up' ≤ 4611686018427387904) ∧ (∀ w, Clk w b off up mk lw lt →
      Calls Try.prog 30 #[.pointer (some ⟨b, 0, none⟩), .int .i64 v] w fun e w' => e = .returned (.int .i64 E) ∧ Only b w w' ∧ Clk w' b off up' mk lw lt) ∧
      ∀ w, Calls Try.prog 29 #[.agg #[.int .i64 lw, .int .u32 lt, .int .u32 0, .int .i64 off, .int .i64 up, .int .u32 mk], .int .i64 v] w fun e w' => e = .returned (.tuple #[.int .i64 E, .agg #[.int .i64 lw, .int .u32 lt, .int .u32 0, .int .i64 off, .int .i64 up', .int .u32 mk]]) ∧ Below w.heap.size w w' := by
  by_cases h : up ≤ v ∧ v ≤ 4611686018427387904
  · exact ⟨0, v, ⟨by omega, h.2⟩, fun w hk => raise_yes b off up mk lw lt v w hk h.1 h.2, fun w => rraise_yes off up mk lw lt v w h.1 h.2⟩
  · exact ⟨1, up, ⟨u0, u1⟩, fun w hk => (raise_no b off up mk lw lt v w hk (by omega)).mono fun e w' ⟨he, hw⟩ => ⟨he, hw ▸ Only.refl b w, hw ▸ hk⟩, fun w => rraise_no off up mk lw lt v w (by omega)⟩

theorem clast_any (b : Nat) (off up mk lw lt : Int) (w : World) (hk : Clk w b off up mk lw lt) :
    Calls Try.prog 32 #[.pointer (some ⟨b, 0, none⟩)] w fun e w' => e = .returned (.agg #[.int .i64 lw, .int .u32 lt, .int .u32 0]) ∧ Below w.heap.size w w' := by
  have hb := hk.lt
  have k3 := hk.c3
  have k4 := hk.c4
  have k5 := hk.c5
  clear hk
  go_enter Try.func32, Try.ntmps32
  go_wp2
  exact bodyPost_ret (v := .agg #[.int .i64 lw, .int .u32 lt, .int .u32 0]) (by simp [results, Try.results32, go_sem]) rfl ⟨rfl, by go_grown⟩

end Go.Proofs.Yteibigiehpkdjaa
