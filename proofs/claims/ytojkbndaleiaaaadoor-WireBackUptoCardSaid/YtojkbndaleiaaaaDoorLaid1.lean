/- One number, laid by the program and by the document. -/
import Derived.Test.YtojkbndaleiaaaaDoorWr
import Derived.Test.YtojkbndaleiaaaaDoorRNum
import Derived.Handy
namespace Go.Proofs.YtojkbndaleiaaaaDoor
open Go.RowKit

set_option maxHeartbeats 800000 in
theorem wbytes_any (K b : Nat) (v : Value) (l : List UInt8) (w : World) (h : Wr w K b v l) (hsz : l.length ≤ 140737488355328) :
    Calls Tryd.prog 11 #[.pointer (some ⟨b, 0, none⟩)] w (NewBytes w l) := by
  obtain ⟨A, c, rfl⟩ := h.ob.form
  have hc0 := h.cell
  have HC := Lib.hid (clone_any w.heap.size A l.length c l w rfl h.ob.bs.1 (Nat.le_refl _) hsz)
  clear h
  go_enter Tryd.func11, Tryd.ntmps11
  go_wp2_with (go_at_call 36; refine HC.out.mono ?_; rintro e w1 ⟨A', c', rfl, ho1, hb1⟩)
  go_ret
  exact ⟨A', c', rfl, ho1, hb1⟩

/-- The cells of one number among things. -/
structure It1 (w : World) (g n : Nat) : Prop where
  c0 : w.cell? ⟨g, 0, none⟩ = some (.int .i64 0)
  c1 : w.cell? ⟨g, 1, none⟩ = some (.int .u64 (n : Int))
  c2 : w.cell? ⟨g, 2, none⟩ = some (.int .i64 0)
  c3 : w.cell? ⟨g, 3, none⟩ = some (.bool false)
  c4 : w.cell? ⟨g, 4, none⟩ = some (.string ⟨#[]⟩)
  c5 : w.cell? ⟨g, 5, none⟩ = some (.int .i64 0)
  c6 : w.cell? ⟨g, 6, none⟩ = some (.int .u32 0)
  c7 : w.cell? ⟨g, 7, none⟩ = some (.int .u32 0)
  c8 : w.cell? ⟨g, 8, none⟩ = some (.int .i64 0)
/-- Two new rows with the same bytes. -/
def Two (w : World) (l : List UInt8) (e : Ending) (w' : World) : Prop :=
  ∃ A c A' c', e = .returned (.tuple #[.slice A l.length c, .slice A' l.length c']) ∧ Ob w' w.heap.size (.slice A l.length c) l ∧ Ob w' w.heap.size (.slice A' l.length c') l ∧ Below w.heap.size w w'

set_option maxRecDepth 100000 in
set_option maxHeartbeats 1600000 in
theorem laid1 (n : Nat) (h1 : n ≤ 18446744073709551615) (g c : Nat) (w : World) (h : It1 w g n) :
    Calls Tryd.prog 8 #[.slice (some ⟨g, 0, none⟩) 1 c] w (Two w (numB n)) := by
  obtain ⟨c0, c1, c2, c3, c4, c5, c6, c7, c8⟩ := h
  have hg := World.block_lt_of_cell? w _ c0
  simp only at hg
  have hlen : (numB n).length ≤ 9 := by rw [numB_length]; have := kN_le n; omega
  have HLEN := Lib.hid hlen
  have HN := Lib.hid (fun K b v w (h : Wr w K b v []) => wnum_any n h1 K b v [] w h (by simp))
  have HR := Lib.hid (fun w => refNum_any n h1 w.heap.size none 0 0 [] w (Ob.empty _ _) (Nat.le_refl _) (by simp))
  rw [List.nil_append] at HN HR
  have HB := Lib.hid (fun K b v w (h : Wr w K b v (numB n)) => wbytes_any K b v (numB n) w h (by omega))
  clear hlen
  generalize numB n = m at *
  go_enter Tryd.func8, Tryd.ntmps8
  go_wp2_with (first
    | (go_at_call 9; refine (new_any _).mono ?_; rintro e w1 ⟨rfl, rfl⟩)
    | fail)
  refine wp_loop_rounds 2 ?_
  rw [rounds_succ]
  go_wp2_with (first
    | (go_at_call 25; go_loud (refine (HN.out w.heap.size w.heap.size (.slice none 0 0) _ ((wr_new w _ (Nat.le_refl _)).alloc _)).mono ?_; rintro e w2 ⟨v2, he2, hw2, ht2, ho2⟩; subst he2; have y1 : w2.cell? ⟨w.heap.size + 1, 1, none⟩ = some (.int .u64 (n : Int)) := ht2.cell (by simp) (by simp [Value.ownBlock])))
    | (go_at_call 29; go_loud (refine (HR.out _).mono ?_; rintro e w3 ⟨A3, c3, rfl, ho3, hg3⟩; have hb3 := hg3.belowNil; have hn3 := hg3.newNil ho3; have hw3 := hw2.below hb3; clear hg3 ho3))
    | fail)
  rw [rounds_succ]
  go_wp2_with (first
    | (go_at_call 11; go_loud (refine (HB.out _ _ _ _ hw3).mono ?_; rintro e w4 ⟨A4, c4', rfl, ho4, hb4⟩))
    | fail)
  refine bodyPost_ret (v := .tuple #[.slice A4 m.length c4', .slice A3 m.length c3]) (by simp [results, Tryd.results8, go_sem]) rfl ?_
  have z2 := ht2.size
  simp at z2
  have B2 : Below w.heap.size w w2 := ((Tn.alloc (P := fun k => w.heap.size ≤ k) w _).thenQ (Tn.alloc (P := fun k => w.heap.size ≤ k) _ _) (fun _ _ h => h) |>.thenQ ht2 (fun k _ h => by rcases h with rfl | h; exact Nat.le_refl _; cases h)).below (Nat.le_refl _) (fun _ _ h => h)
  have B3 : Below w.heap.size w w3 := B2.trans (hb3.mono (by omega))
  have z3 := hb3.size
  exact ⟨A4, c4', A3, c3, rfl, ho4.more (by omega), (hn3.below hb4).more (by omega), B3.trans (hb4.mono (by omega))⟩
end Go.Proofs.YtojkbndaleiaaaaDoor
