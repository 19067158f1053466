/- The law's awake: the document's example of a chain. -/
import Derived.Test.YtbeclajbpfglgaaChG
namespace Go.Proofs.Ytbeclajbpfglgaa
open Go.RowKit Go.BigFrame
def Ok0 (w : World) (e : Ending) (w' : World) : Prop := e = .returned (.bool true) ∧ Below w.heap.size w w'
def vA : Ve := ⟨3, 0, 0, 3, 0, ⟨#[]⟩⟩
def vB : Ve := ⟨1, 0, 0, 1, 5, ⟨#[]⟩⟩
theorem okA : Vok vA := ⟨by decide, by decide, by decide, by decide, by decide⟩
theorem okB : Vok vB := ⟨by decide, by decide, by decide, by decide, by decide⟩
theorem okBA : ∀ u ∈ [vB, vA], Vok u := fun u hu => by
  simp at hu
  rcases hu with rfl | rfl
  · exact okB
  · exact okA
theorem rA : rightV vA = true := by decide +kernel
theorem rB : rightV vB = true := by decide +kernel
theorem putA : putV [] vA = (0, [vA]) := by unfold putV; rw [rA]; rfl
theorem putB : putV [vA] vB = (0, [vB, vA]) := by unfold putV; rw [rB]; rfl
theorem chnA : Chn [vA] := by simp [Chn]
theorem chnBA : Chn [vB, vA] := by simp [Chn, ltV, vA, vB, cmpS]
theorem getB : getV [vB, vA] 2 0 0 = some vB := by rfl
theorem getA : getV [vB, vA] 3 0 0 = none := by rfl
theorem cutA : cutN [vB, vA] 3 0 0 = 2 := by rfl
set_option maxRecDepth 100000 in
set_option maxHeartbeats 3200000 in
theorem cawake_any (w : World) : Calls Try.prog 8 #[] w (Ok0 w) := by
  have H1 := Lib.hid (put_any (w := w) (Sr.none_ w 0) (Nat.zero_le _) (by simp) (by simp [Chn]) (by decide) okA)
  rw [putA] at H1
  go_enter Try.func8, Try.ntmps8
  go_wp2_with fail
  refine H1.out.mono ?_
  rintro e w1 ⟨A1, c1, rfl, s1, b1, _⟩
  have H2 := Lib.hid (put_any s1 (Nat.le_refl _) (by simp; exact okA) chnA (by decide) okB)
  rw [putB] at H2
  have HB1 := Lib.hid b1
  clear H1 b1 s1
  go_wp2_with fail
  refine H2.out.mono ?_
  rintro e w2 ⟨A2, c2, rfl, s2, b2, _⟩
  have HS := Lib.hid s2
  have H3 := Lib.hid (get_any s2 (Nat.le_refl _) okBA chnBA (by decide) (a := 2) (b := 0) (c := 0) (by decide) (by decide))
  rw [getB] at H3
  have HB2 := Lib.hid (HB1.out.trans (b2.mono HB1.out.size))
  clear H2 b2 s2
  go_wp2_with fail
  refine H3.out.mono ?_
  rintro e w3 ⟨rfl, b3⟩
  go_wp2_with fail
  have HB3 := Lib.hid (HB2.out.trans (b3.mono HB2.out.size))
  have BA := (Below.refl w3.heap.size w3).alloc (Nat.le_refl _) (.cells #[.int .i64 vB.w, .int .u32 vB.t, .int .u32 vB.m, .int .i64 vB.k, .int .i64 vB.n, .string vB.x] 31)
  have HBA := Lib.hid (HB3.out.trans (BA.mono HB3.out.size))
  have HS3 := Lib.hid (HS.out.below (b3.trans (BA.mono b3.size)))
  have H4 := Lib.hid (get_any HS3.out (Nat.le_trans b3.size BA.size) okBA chnBA (by decide) (a := 3) (b := 0) (c := 0) (by decide) (by decide))
  have hz3 : w2.heap.size ≤ w3.heap.size := b3.size
  rw [getA] at H4
  clear H3 b3 BA
  refine H4.out.mono ?_
  rintro e w4 ⟨rfl, b4⟩
  have y4 : w4.cell? ⟨w3.heap.size, 4, none⟩ = some (.int .i64 5) := kept b4 (by simp [vB])
  have hz4 : w3.heap.size < w4.heap.size := Nat.lt_of_lt_of_le (by simp) b4.size
  have HB4 := Lib.hid (HBA.out.trans (b4.mono HBA.out.size))
  have BB := (Below.refl w4.heap.size w4).alloc (Nat.le_refl _) (.cells #[.int .i64 nilV.w, .int .u32 nilV.t, .int .u32 nilV.m, .int .i64 nilV.k, .int .i64 nilV.n, .string nilV.x] 31)
  have HBB := Lib.hid (HB4.out.trans (BB.mono HB4.out.size))
  have h24 : w2.heap.size ≤ (w4.alloc (.cells #[.int .i64 nilV.w, .int .u32 nilV.t, .int .u32 nilV.m, .int .i64 nilV.k, .int .i64 nilV.n, .string nilV.x] 31)).heap.size := by simp; omega
  have H5 := Lib.hid (cut_any ((HS3.out.below (b4.mono (by simp; omega))).below (BB.mono (by omega))) h24 okBA chnBA (by decide) (a := 3) (b := 0) (c := 0) (by decide) (by decide))
  rw [cutA] at H5
  clear b4 BB h24 H4
  go_wp2_with fail
  refine H5.out.mono ?_
  rintro e w5 ⟨A5, c5, rfl, s5, b5, _⟩
  have B5 := HBB.out.trans (b5.mono HBB.out.size)
  go_wp2
  go_ret
  exact ⟨rfl, B5⟩
end Go.Proofs.Ytbeclajbpfglgaa
