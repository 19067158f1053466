/- stamp.Parse: the walk. -/
import Derived.Test.YtiigbkpfgbhlgaaDoorSxR
import Derived.LoopTactic
namespace Go.Proofs.YtiigbkpfgbhlgaaDoor
open Go.RowKit

theorem MxS.below {w w' : World} (h : MxS w) (hb : Below w.heap.size w w') : MxS w' := by
  obtain ⟨m, h⟩ := h
  exact ⟨m, kept hb h⟩
theorem splitN_any (t : ByteArray) (w : World) (hs : t.size ≤ 1048576) (hm : MxS w) : Calls Tryd.prog 14 #[.string t, .string ⟨#[46]⟩, .int .i64 4] w fun e w' =>
    ∃ N : Nat, e = .returned (.slice (some ⟨w.heap.size, 0, none⟩) (wordsB t).length N) ∧ Below w.heap.size w w' ∧ w.heap.size < w'.heap.size ∧ (wordsB t).length ≤ N ∧ N ≤ 4 ∧ ∀ i x, (wordsB t)[i]? = some x → w'.cell? ⟨w.heap.size, i, none⟩ = some (.string x) := by
  obtain ⟨m, hm⟩ := hm
  refine (Tryd.strings_SplitN t ⟨#[46]⟩ 4 m w (by omega) hm (by decide) (by decide) (by decide)).mono fun e w' h => ?_
  obtain ⟨rfl, rfl⟩ := h
  have hl := Lib.splitB_length_le ⟨#[46]⟩ 0 (min 4 (t.size + 1) - 1) t
  refine ⟨min 4 (t.size + 1), rfl, (Below.refl _ _).alloc (Nat.le_refl _) _, by simp, by unfold wordsB; omega, by omega, fun i x hx => ?_⟩
  have hi : i < (wordsB t).length := by
    rcases Nat.lt_or_ge i (wordsB t).length with h' | h'
    · exact h'
    · rw [List.getElem?_eq_none h'] at hx; cases hx
  have hc : (Lib.cellsOf (wordsB t) (min 4 (t.size + 1)))[i]? = some (.string x) := by
    unfold Lib.cellsOf
    rw [List.getElem?_toArray, List.getElem?_append_left (by simpa using hi), List.getElem?_map, hx]
    rfl
  show (w.alloc (.cells (Lib.cellsOf (wordsB t) (min 4 (t.size + 1))) 9)).cell? _ = _
  simp [World.cell?, World.alloc, hc, -World.alloc_eq]
theorem parseInt_ok (s : ByteArray) (w : World) (hs : s.size ≤ 281474976710656) (he : Errs w) (v : Int) (h : Lib.parseIntB 64 s.data.toList = .ok v) :
    Calls Tryd.prog 15 #[.string s, .int .i64 10, .int .i64 64] w fun e w' => e = .returned (.tuple #[.int .i64 v, .nilIface]) ∧ Below w.heap.size w w' :=
  (parseInt_any s w hs he).mono fun e w' hh => by
    obtain ⟨hb, ⟨u, hu, rfl⟩ | ⟨hn, _⟩⟩ := hh
    · rw [h] at hu; injection hu with hu; subst hu; exact ⟨rfl, hb⟩
    · exact absurd h (hn v)
theorem parseInt_bad (s : ByteArray) (w : World) (hs : s.size ≤ 281474976710656) (he : Errs w) (h : ∀ v, Lib.parseIntB 64 s.data.toList ≠ .ok v) :
    Calls Tryd.prog 15 #[.string s, .int .i64 10, .int .i64 64] w fun e w' => ∃ (v : Int) (N : Nat), e = .returned (.tuple #[.int .i64 v, .iface 79 (.pointer (some ⟨N, 0, none⟩))]) ∧ Below w.heap.size w w' :=
  (parseInt_any s w hs he).mono fun e w' hh => by
    obtain ⟨hb, ⟨u, hu, rfl⟩ | ⟨hn, v, N, rfl⟩⟩ := hh
    · exact absurd hu (h u)
    · exact ⟨v, N, rfl, hb⟩
theorem three_of {L : List ByteArray} (h : L.length = 3) : ∃ s : Nat → ByteArray, L = [s 0, s 1, s 2] := by
  match L, h with
  | [x, y, z], _ => exact ⟨fun i => if i = 0 then x else if i = 1 then y else z, rfl⟩

set_option maxRecDepth 100000 in
set_option maxHeartbeats 3200000 in
theorem parse_words (t : ByteArray) (w : World) (hs : t.size ≤ 1048576) (hm : MxS w) (h3 : (wordsB t).length ≠ 3) :
    Calls Tryd.prog 6 #[.string t] w (ParsePost w t.data.toList) := by
  have HF : Hid (∀ w', Below w.heap.size w w' → ParsePost w t.data.toList (.returned (.tuple #[stv 0 0 0, .int .i64 10])) w') := Lib.hid fun w' hb => ⟨hb, .inr ⟨none_len h3, rfl⟩⟩
  have HSP := Lib.hid fun W hM => splitN_any t W hs hM
  have h4 := wordsB_len t
  generalize (wordsB t).length = n at *
  have hne : ((n : Int) != 3) = true := by rw [bne_iff_ne]; omega
  clear hs h3
  go_enter Tryd.func6, Tryd.ntmps6
  go_wp2_with (go_at_call 14; refine (HSP.out _ (hm.below (by go_grown))).mono ?_; rintro e w2 ⟨N, rfl, hb2, z2, hN, hN4, _⟩; have B2 : Below w.heap.size w w2 := via hb2 (by go_grown) (by go_size); have R0 : w2.cell? ⟨w.heap.size, 0, none⟩ = some (.int .i64 0) := kept hb2 (by simp); have R1 : w2.cell? ⟨w.heap.size, 1, none⟩ = some (.int .u32 0) := kept hb2 (by simp); have R2 : w2.cell? ⟨w.heap.size, 2, none⟩ = some (.int .u32 0) := kept hb2 (by simp); have F0 : w2.frozen? ⟨w.heap.size, 0, none⟩ = false := keptF hb2 (by simp; omega) (by simp); have F1 : w2.frozen? ⟨w.heap.size, 1, none⟩ = false := keptF hb2 (by simp; omega) (by simp); have F2 : w2.frozen? ⟨w.heap.size, 2, none⟩ = false := keptF hb2 (by simp; omega) (by simp); obtain ⟨t0, t1, t2⟩ := three R0 R1 R2)
  exact bodyPost_ret (v := .tuple #[stv 0 0 0, .int .i64 10]) (by simp [results, Tryd.results6, go_sem, t0, t1, t2]) rfl (HF.out _ (by go_grown))
end Go.Proofs.YtiigbkpfgbhlgaaDoor
