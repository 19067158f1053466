/- The document's reader of no bytes. -/
import Derived.Test.YtojkbndaleiaaaaDoorRStamp
import Derived.Deep.QuietTactic
import Derived.BigQuiet
namespace Go.Proofs.YtojkbndaleiaaaaDoor
open Go.RowKit

/-- The document's reader of no bytes, with the error E. -/
structure Md (w : World) (b : Nat) (E : Int) : Prop where
  c0 : w.cell? ⟨b, 0, none⟩ = some (.slice none 0 0)
  c1 : w.cell? ⟨b, 1, none⟩ = some (.int .i64 0)
  c2 : w.cell? ⟨b, 2, none⟩ = some (.int .i64 E)
  f2 : w.frozen? ⟨b, 2, none⟩ = false
theorem Md.lt {w : World} {b : Nat} {E : Int} (h : Md w b E) : b < w.heap.size := World.block_lt_of_cell? w _ h.c0
theorem Md.tn {P : Nat → Prop} {w w' : World} {b : Nat} {E : Int} (h : Md w b E) (t : Tn P w w') (hb : ¬ P b) : Md w' b E :=
  ⟨t.cell h.c0 hb, t.cell h.c1 hb, t.cell h.c2 hb, (t.frozen (p := ⟨b, 2, none⟩) h.lt hb).trans h.f2⟩
theorem Md.below {w w' : World} {b : Nat} {E : Int} (h : Md w b E) (hb : Below w.heap.size w w') : Md w' b E := h.tn (Tn.ofNew (P := fun _ => False) hb) id
theorem Md.err {w : World} {b : Nat} {E : Int} (h : Md w b E) (x : Int) : Md (w.setCell ⟨b, 2, none⟩ (.int .i64 x)) b x :=
  ⟨(World.cell?_setCell_other _ _ _ _ (by simp)).trans h.c0, (World.cell?_setCell_other _ _ _ _ (by simp)).trans h.c1, World.cell?_setCell_same' _ _ _ (by rw [h.c2]; rfl), by rw [World.frozen?_setCell]; exact h.f2⟩
theorem Md.drewN {w : World} {b : Nat} {E : Int} (h : Md w b E) (n : Nat) : Md (w.drewN n) b E := ⟨h.c0, h.c1, h.c2, h.f2⟩
theorem Tn.drewN {P : Nat → Prop} (w : World) (n : Nat) : Tn P w (w.drewN n) := ⟨rfl, rfl, rfl, Nat.le_refl _, fun _ _ _ => rfl⟩
def e9 (E : Int) : Int := if E ≠ 0 then E else 9
theorem e9_ne (E : Int) : e9 E ≠ 0 := by unfold e9; split <;> omega
structure Mst (w : World) (b : Nat) (E : Int) (w' : World) : Prop where
  md : Md w' b E
  tn : Tn (· = b) w w'

set_option maxHeartbeats 1600000 in
theorem mnum_any (b : Nat) (E : Int) (w : World) (h : Md w b E) :
    Calls Tryd.prog 40 #[.pointer (some ⟨b, 0, none⟩)] w fun en w' => en = .returned (.int .u64 0) ∧ Mst w b (e9 E) w' := by
  obtain ⟨c0, c1, c2, f2⟩ := h
  have HX := Lib.hid (show Md w b E from ⟨c0, c1, c2, f2⟩)
  unfold e9
  by_cases he : E ≠ 0
  · rw [if_pos he]
    go_enter Tryd.func40, Tryd.ntmps40
    go_wp2
    go_ret
    exact ⟨rfl, HX.out, Tn.refl _ _⟩
  · have he0 : E = 0 := by omega
    subst he0
    rw [if_neg he]
    clear he
    go_enter Tryd.func40, Tryd.ntmps40
    go_wp2_with fail
    go_quiet (fail)
    go_wp2_with fail
    go_ret
    exact ⟨rfl, (HX.out.drewN _).err 9, (Tn.drewN _ _).then (Tn.setCell _ _ _ _)⟩

set_option maxHeartbeats 1600000 in
theorem mint_any (b : Nat) (E : Int) (w : World) (h : Md w b E) :
    Calls Tryd.prog 41 #[.pointer (some ⟨b, 0, none⟩)] w fun en w' => en = .returned (.int .i64 0) ∧ Mst w b (e9 E) w' := by
  have HN := Lib.hid (mnum_any b E w h)
  clear h
  go_enter Tryd.func41, Tryd.ntmps41
  go_wp2_with (go_at_call 40; refine HN.out.mono ?_; rintro en w1 ⟨rfl, hr⟩)
  go_ret
  exact ⟨rfl, hr⟩
set_option maxHeartbeats 1600000 in
theorem mflag_any (b : Nat) (E : Int) (w : World) (h : Md w b E) :
    Calls Tryd.prog 42 #[.pointer (some ⟨b, 0, none⟩)] w fun en w' => en = .returned (.bool false) ∧ Mst w b (e9 E) w' := by
  have HN := Lib.hid (mnum_any b E w h)
  clear h
  go_enter Tryd.func42, Tryd.ntmps42
  go_wp2_with (go_at_call 40; refine HN.out.mono ?_; rintro en w1 ⟨rfl, hr⟩)
  go_ret
  exact ⟨rfl, hr⟩
set_option maxHeartbeats 1600000 in
theorem mcount_any (most : Int) (b : Nat) (E : Int) (w : World) (h : Md w b E) :
    Calls Tryd.prog 45 #[.pointer (some ⟨b, 0, none⟩), .int .i64 most] w fun en w' => en = .returned (.int .i64 0) ∧ Mst w b (e9 E) w' := by
  have HN := Lib.hid (mnum_any b E w h)
  have hne := e9_ne E
  clear h
  generalize e9 E = F at *
  go_enter Tryd.func45, Tryd.ntmps45
  go_wp2_with (go_at_call 40; refine HN.out.mono ?_; rintro en w1 ⟨rfl, hr⟩; obtain ⟨c0, c1, c2, f2⟩ := hr.md)
  go_ret
  exact ⟨rfl, hr⟩
set_option maxHeartbeats 1600000 in
theorem mtext_any (most : Int) (b : Nat) (E : Int) (w : World) (h : Md w b E) :
    Calls Tryd.prog 43 #[.pointer (some ⟨b, 0, none⟩), .int .i64 most] w fun en w' => en = .returned (.string ⟨#[]⟩) ∧ Mst w b (e9 E) w' := by
  have HN := Lib.hid (mcount_any most b E w h)
  have hne := e9_ne E
  clear h
  generalize e9 E = F at *
  go_enter Tryd.func43, Tryd.ntmps43
  go_wp2_with (go_at_call 45; refine HN.out.mono ?_; rintro en w1 ⟨rfl, hr⟩; obtain ⟨c0, c1, c2, f2⟩ := hr.md)
  go_ret
  exact ⟨rfl, hr⟩
set_option maxRecDepth 100000 in
set_option maxHeartbeats 1600000 in
theorem mstamp_any (b : Nat) (E : Int) (w : World) (h : Md w b E) :
    Calls Tryd.prog 44 #[.pointer (some ⟨b, 0, none⟩)] w fun en w' => en = .returned (stv 0 0 0) ∧ Mst w b (e9 E) w' := by
  have hlt := h.lt
  have hne : w.heap.size ≠ b := by omega
  have HX := Lib.hid (h.below ((Below.refl _ _).alloc (Nat.le_refl _) (.cells #[.int .i64 0, .int .u32 0, .int .u32 0] 37)))
  obtain ⟨c0, c1, c2, f2⟩ := h
  unfold e9
  by_cases he : E ≠ 0
  · rw [if_pos he]
    go_enter Tryd.func44, Tryd.ntmps44
    go_wp2
    refine bodyPost_ret (v := stv 0 0 0) (by simp [results, Tryd.results44, go_sem]) rfl ⟨rfl, HX.out, Tn.alloc _ _⟩
  · have he0 : E = 0 := by omega
    subst he0
    rw [if_neg he]
    clear he
    go_enter Tryd.func44, Tryd.ntmps44
    go_wp2_with fail
    go_quiet (fail)
    go_wp2_with fail
    refine bodyPost_ret (v := stv 0 0 0) (by simp [results, Tryd.results44, go_sem]) rfl ⟨rfl, ?_⟩
    have hH : ∀ k, k < w.heap.size → k = w.heap.size → k = b := fun k h1 h2 => by omega
    exact ⟨((((HX.out.drewN _).err 9).tn (Tn.setCell _ w.heap.size 0 _) (by omega)).tn (Tn.setCell _ w.heap.size 1 _) (by omega)).tn (Tn.setCell _ w.heap.size 2 _) (by omega), (((((Tn.alloc w _).then (Tn.drewN _ _)).then (Tn.setCell _ b 2 _)).thenQ (Tn.setCell _ w.heap.size 0 _) hH).thenQ (Tn.setCell _ w.heap.size 1 _) hH).thenQ (Tn.setCell _ w.heap.size 2 _) hH⟩
end Go.Proofs.YtojkbndaleiaaaaDoor
