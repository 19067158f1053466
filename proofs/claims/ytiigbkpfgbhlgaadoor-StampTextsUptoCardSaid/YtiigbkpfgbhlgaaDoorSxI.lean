/- strconv.ParseInt as stamp.Parse calls it; the memory of stamp.Parse. -/
import Derived.Test.YtiigbkpfgbhlgaaDoorSxN
import Derived.Test.YtiigbkpfgbhlgaaDoorSxC
import Derived.Lib.AtoiErrMem
namespace Go.Proofs.YtiigbkpfgbhlgaaDoor
open Go.RowKit

/-- The two errors lie in their variables. -/
structure Errs (w : World) : Prop where
  s : ∃ te pe, w.cell? ⟨1, 0, none⟩ = some (.iface te pe)
  r : ∃ te pe, w.cell? ⟨2, 0, none⟩ = some (.iface te pe)
theorem Errs.below {w w' : World} (h : Errs w) (hb : Below w.heap.size w w') : Errs w' := by
  obtain ⟨⟨a, b, h1⟩, ⟨c, d, h2⟩⟩ := h
  exact ⟨⟨a, b, kept hb h1⟩, ⟨c, d, kept hb h2⟩⟩
def IntPost (w : World) (l : List UInt8) (e : Ending) (w' : World) : Prop :=
  Below w.heap.size w w' ∧ ((∃ v : Int, Lib.parseIntB 64 l = .ok v ∧ e = .returned (.tuple #[.int .i64 v, .nilIface])) ∨
    ((∀ v, Lib.parseIntB 64 l ≠ .ok v) ∧ ∃ (v : Int) (N : Nat), e = .returned (.tuple #[.int .i64 v, .iface 79 (.pointer (some ⟨N, 0, none⟩))])))
theorem parseInt_any (s : ByteArray) (w : World) (hs : s.size ≤ 281474976710656) (he : Errs w) :
    Calls Tryd.prog 15 #[.string s, .int .i64 10, .int .i64 64] w (IntPost w s.data.toList) := by
  obtain ⟨⟨te, pe, h1⟩, ⟨te', pe', h2⟩⟩ := he
  cases h : Lib.parseIntB 64 s.data.toList
  · rename_i v
    refine (Tryd.strconv_ParseInt_10_at64_ok s (by omega) v h w).mono fun e w' hh => ?_
    obtain ⟨rfl, hw⟩ := hh
    refine ⟨?_, .inl ⟨v, h, rfl⟩⟩
    rcases hw with rfl | ⟨t, rfl⟩
    · exact Below.refl _ _
    · exact Lib.bytesWorld_below _ _ _
  · refine (Tryd.strconv_ParseInt_10_at64_syntax s hs h _ w h1 (.inr ⟨te, pe, rfl⟩)).mono fun e w' hh => ?_
    obtain ⟨N, rfl, _, _, hb⟩ := hh
    exact ⟨hb, .inr ⟨(fun v hv => by rw [h] at hv; cases hv), _, N, rfl⟩⟩
  · refine (Tryd.strconv_ParseInt_10_at64_range s hs h _ w h2 (.inr ⟨te', pe', rfl⟩)).mono fun e w' hh => ?_
    obtain ⟨N, rfl, _, _, hb⟩ := hh
    exact ⟨hb, .inr ⟨(fun v hv => by rw [h] at hv; cases hv), _, N, rfl⟩⟩

/-- The call's own memory: its result's variable, its parts, its words. -/
structure PW (w : World) (x0 x1 x2 : Int) (s : Nat → ByteArray) (wr : World) : Prop where
  bl : Below w.heap.size w wr
  sz : w.heap.size + 3 ≤ wr.heap.size
  r0 : wr.cell? ⟨w.heap.size, 0, none⟩ = some (.int .i64 0)
  r1 : wr.cell? ⟨w.heap.size, 1, none⟩ = some (.int .u32 0)
  r2 : wr.cell? ⟨w.heap.size, 2, none⟩ = some (.int .u32 0)
  rf : ∀ i, wr.frozen? ⟨w.heap.size, i, none⟩ = false
  p0 : wr.cell? ⟨w.heap.size + 1, 0, none⟩ = some (.int .i64 x0)
  p1 : wr.cell? ⟨w.heap.size + 1, 1, none⟩ = some (.int .i64 x1)
  p2 : wr.cell? ⟨w.heap.size + 1, 2, none⟩ = some (.int .i64 x2)
  pf : ∀ i, wr.frozen? ⟨w.heap.size + 1, i, none⟩ = false
  c : ∀ i, i < 3 → wr.cell? ⟨w.heap.size + 2, i, none⟩ = some (.string (s i))
section
variable {w wr w' : World} {x0 x1 x2 y : Int} {s : Nat → ByteArray}
theorem PW.below (h : PW w x0 x1 x2 s wr) (hb : Below wr.heap.size wr w') : PW w x0 x1 x2 s w' := by
  have sz := h.sz
  have z := hb.size
  exact ⟨h.bl.trans (hb.mono (by omega)), by omega, kept hb h.r0, kept hb h.r1, kept hb h.r2, fun i => (hb.frozen (p := ⟨w.heap.size, i, none⟩) (by show w.heap.size < _; omega)).trans (h.rf i), kept hb h.p0, kept hb h.p1, kept hb h.p2,
    fun i => (hb.frozen (p := ⟨w.heap.size + 1, i, none⟩) (by show w.heap.size + 1 < _; omega)).trans (h.pf i), fun i hi => kept hb (h.c i hi)⟩
theorem PW.set_ (J : PW w x0 x1 x2 s wr) (i : Nat) (y : Int) : Below w.heap.size w (wr.setCell ⟨w.heap.size + 1, i, none⟩ (.int .i64 y)) ∧ w.heap.size + 3 ≤ (wr.setCell ⟨w.heap.size + 1, i, none⟩ (.int .i64 y)).heap.size ∧
    (∀ b j v, (b ≠ w.heap.size + 1 ∨ j ≠ i) → wr.cell? ⟨b, j, none⟩ = some v → (wr.setCell ⟨w.heap.size + 1, i, none⟩ (.int .i64 y)).cell? ⟨b, j, none⟩ = some v) ∧
    (∀ v, wr.cell? ⟨w.heap.size + 1, i, none⟩ = some v → (wr.setCell ⟨w.heap.size + 1, i, none⟩ (.int .i64 y)).cell? ⟨w.heap.size + 1, i, none⟩ = some (.int .i64 y)) ∧
    (∀ b j, wr.frozen? ⟨b, j, none⟩ = false → (wr.setCell ⟨w.heap.size + 1, i, none⟩ (.int .i64 y)).frozen? ⟨b, j, none⟩ = false) := by
  refine ⟨J.bl.setCell (by simp) _, by simpa using J.sz, fun b j v hne h => ?_, fun v h => ?_, fun b j h => ?_⟩
  · rw [World.cell?_setCell_other]
    · exact h
    · intro e
      injection e with e1 e2
      rcases hne with h' | h'
      · exact h' e1.symm
      · exact h' e2.symm
  · exact World.cell?_setCell_same (w := wr) (a := ⟨w.heap.size + 1, i, none⟩) (v := .int .i64 y) h
  · simpa using h
theorem PW.set0 (J : PW w x0 x1 x2 s wr) (y : Int) : PW w y x1 x2 s (wr.setCell ⟨w.heap.size + 1, 0, none⟩ (.int .i64 y)) := by
  obtain ⟨h1, h2, h3, h4, h5⟩ := J.set_ 0 y
  exact ⟨h1, h2, h3 _ _ _ (.inl (by omega)) J.r0, h3 _ _ _ (.inl (by omega)) J.r1, h3 _ _ _ (.inl (by omega)) J.r2, fun i => h5 _ _ (J.rf i), h4 _ J.p0, h3 _ _ _ (.inr (by omega)) J.p1, h3 _ _ _ (.inr (by omega)) J.p2, fun i => h5 _ _ (J.pf i), fun i hi => h3 _ _ _ (.inl (by omega)) (J.c i hi)⟩
theorem PW.set1 (J : PW w x0 x1 x2 s wr) (y : Int) : PW w x0 y x2 s (wr.setCell ⟨w.heap.size + 1, 1, none⟩ (.int .i64 y)) := by
  obtain ⟨h1, h2, h3, h4, h5⟩ := J.set_ 1 y
  exact ⟨h1, h2, h3 _ _ _ (.inl (by omega)) J.r0, h3 _ _ _ (.inl (by omega)) J.r1, h3 _ _ _ (.inl (by omega)) J.r2, fun i => h5 _ _ (J.rf i), h3 _ _ _ (.inr (by omega)) J.p0, h4 _ J.p1, h3 _ _ _ (.inr (by omega)) J.p2, fun i => h5 _ _ (J.pf i), fun i hi => h3 _ _ _ (.inl (by omega)) (J.c i hi)⟩
theorem PW.set2 (J : PW w x0 x1 x2 s wr) (y : Int) : PW w x0 x1 y s (wr.setCell ⟨w.heap.size + 1, 2, none⟩ (.int .i64 y)) := by
  obtain ⟨h1, h2, h3, h4, h5⟩ := J.set_ 2 y
  exact ⟨h1, h2, h3 _ _ _ (.inl (by omega)) J.r0, h3 _ _ _ (.inl (by omega)) J.r1, h3 _ _ _ (.inl (by omega)) J.r2, fun i => h5 _ _ (J.rf i), h3 _ _ _ (.inr (by omega)) J.p0, h3 _ _ _ (.inr (by omega)) J.p1, h4 _ J.p2, fun i => h5 _ _ (J.pf i), fun i hi => h3 _ _ _ (.inl (by omega)) (J.c i hi)⟩
end

theorem stamp_any (x y z : Int) (w : World) :
    Calls Tryd.prog 16 #[.agg #[.int .i64 x, .int .i64 y, .int .i64 z]] w fun e w' => e = .returned (stv x (y % 4294967296) (z % 4294967296)) ∧ Below w.heap.size w w' := by
  go_enter Tryd.func16, Tryd.ntmps16
  go_wp2
  exact bodyPost_ret (v := stv x (y % 4294967296) (z % 4294967296)) (by simp [results, Tryd.results16, go_sem]) rfl ⟨rfl, by go_grown⟩

def ParsePost (w : World) (t : List UInt8) (e : Ending) (w' : World) : Prop :=
  Below w.heap.size w w' ∧ ((∃ a b c : Nat, Reads t a b c ∧ e = .returned (.tuple #[stv a b c, .int .i64 0])) ∨ ((∀ a b c, ¬ Reads t a b c) ∧ e = .returned (.tuple #[stv 0 0 0, .int .i64 10])))
end Go.Proofs.YtiigbkpfgbhlgaaDoor
