/- The document's post: Has, Without. -/
import Derived.Test.YtejbjnjnabcleaaPAll
namespace Go.Proofs.Ytejbjnjnabcleaa
open Go.RowKit Go.Conc

theorem info_rmsg : (Try.prog.info? 33).map (fun i => (i.zero, i.size, i.bytes)) = some (some (.agg #[.int .i64 0, .int .i64 0, .slice none 0 0]), 3, 40) := by kernel_rfl
set_option maxHeartbeats 800000 in
theorem has_any (room i : Int) (A : Option Addr) (n c : Nat) (w : World) :
    Calls Try.prog 11 #[.agg #[.int .i64 room, .slice A n c], .int .i64 i] w fun e w' => e = .returned (.bool (decide (0 ≤ i ∧ i < n))) ∧ Below w.heap.size w w' := by
  by_cases h0 : 0 ≤ i
  · by_cases h1 : i < (n : Int)
    · go_enter Try.func11, Try.ntmps11
      go_wp2
      go_ret
      exact ⟨by simp [h0, h1], by go_grown⟩
    · go_enter Try.func11, Try.ntmps11
      go_wp2
      go_ret
      exact ⟨by simp [h1], by go_grown⟩
  · go_enter Try.func11, Try.ntmps11
    go_wp2
    go_ret
    exact ⟨by simp; omega, by go_grown⟩

theorem erase_next {l : List Mg} {i k : Nat} (hk : k < l.length) (hne : k ≠ i) : (l.take (k + 1)).eraseIdx i = (l.take k).eraseIdx i ++ [l[k]] := by
  have hlt : (l.take k).length = k := by simp; omega
  rw [List.take_add_one, List.getElem?_eq_getElem hk]
  by_cases h : i < k
  · rw [Option.toList_some, List.eraseIdx_append_of_lt_length (by omega)]
  · rw [Option.toList_some, List.eraseIdx_of_length_le (by simp; omega), List.eraseIdx_of_length_le (by omega)]
theorem erase_here {l : List Mg} {i : Nat} (hk : i < l.length) : (l.take (i + 1)).eraseIdx i = (l.take i).eraseIdx i := by
  have hlt : (l.take i).length = i := by simp; omega
  rw [List.take_add_one, List.getElem?_eq_getElem hk, Option.toList_some, List.eraseIdx_append_of_length_le (by omega), hlt, Nat.sub_self, List.eraseIdx_of_length_le (l := l.take i) (by omega)]
  simp
theorem erase_len (l : List Mg) (i k : Nat) : ((l.take k).eraseIdx i).length ≤ l.length := by
  rw [List.length_eraseIdx]
  split <;> simp <;> omega
def DocM (w : World) (room : Int) (l : List Mg) (e : Ending) (w' : World) : Prop :=
  ∃ A c, e = .returned (.agg #[.int .i64 room, .slice A l.length c]) ∧ So encM 3 w' w.heap.size 33 (.slice A l.length c) l ∧ Below w.heap.size w w'
set_option maxRecDepth 100000 in
set_option maxHeartbeats 3200000 in
theorem without_any (room : Int) (i : Nat) (A : Option Addr) (c : Nat) (l : List Mg) (w : World) (h : Sr encM 3 w w.heap.size A c l) (hl : l.length ≤ 4096) (hi : i < l.length) :
    Calls Try.prog 14 #[.agg #[.int .i64 room, .slice A l.length c], .int .i64 (i : Int)] w (DocM w room (l.eraseIdx i)) := by
  have HM := Lib.hid h
  have hle := h.le
  have hmx := h.max
  unfold maxLen at hmx
  clear h
  go_enter Try.func14, Try.ntmps14
  go_wp2_with fail
  go_loopw [5, 6] (fun u s wr => ∃ (k n cu : Nat) (Au : Option Addr), k ≤ l.length ∧ s = .int .i64 (k : Int) ∧ u = .slice Au n cu ∧ n = ((l.take k).eraseIdx i).length ∧ So encM 3 wr (w.heap.size + 2) 33 (.slice Au n cu) ((l.take k).eraseIdx i) ∧
      wr.cell? ⟨w.heap.size, 0, none⟩ = some (.int .i64 room) ∧ wr.cell? ⟨w.heap.size, 1, none⟩ = some (.slice A l.length c) ∧ wr.frozen? ⟨w.heap.size, 1, none⟩ = false ∧ wr.cell? ⟨w.heap.size + 1, 0, none⟩ = some (.int .i64 0) ∧ wr.cell? ⟨w.heap.size + 1, 1, none⟩ = some (.slice none 0 0) ∧ (∀ o, wr.frozen? ⟨w.heap.size + 1, o, none⟩ = false) ∧ Below w.heap.size w wr ∧ w.heap.size + 2 ≤ wr.heap.size) (fun _ s _ => l.length - (intOf s).toNat)
  case atStart => exact ⟨0, 0, 0, none, by omega, rfl, rfl, by simp, So.empty _ _ _ _ _, by simp, by simp, by simp, by simp, by simp, by simp, by go_grown, by simp⟩
  case round =>
    obtain ⟨k, n, cu, Au, hk, rfl, rfl, hn, so, a0, a1, f1, r0, r1, rf, hB, hz⟩ := hrel
    have HSO := Lib.hid so
    have HB := Lib.hid hB
    have HN := Lib.hid hn
    have hown := fun g e => (so.lt g e).1
    have HOWN := Lib.hid hown
    have own0 : (Value.slice Au n cu).ownBlock ≠ some w.heap.size := fun e => by have := HOWN.out _ e; omega
    have own1 : (Value.slice Au n cu).ownBlock ≠ some (w.heap.size + 1) := fun e => by have := HOWN.out _ e; omega
    have HO0 := Lib.hid own0
    have HO1 := Lib.hid own1
    clear own0 own1
    have hz1 : w.heap.size < wr.heap.size := by omega
    have hz2 : w.heap.size + 1 < wr.heap.size := by omega
    have hnl := erase_len l i k
    have HNL := Lib.hid hnl
    by_cases hlt : k < l.length
    · by_cases hki : k = i
      · subst hki
        have he := erase_here hlt
        have HE := Lib.hid he
        clear so hB hn hown hnl he
        go_wp2
        go_roundw
        case rel => exact ⟨k + 1, n, cu, Au, by omega, rfl, rfl, by rw [HE.out]; exact HN.out, by rw [HE.out]; exact HSO.out, a0, a1, f1, r0, r1, rf, HB.out, hz⟩
        case measure => simp [intOf]; omega
      · have he := erase_next hlt hki
        obtain ⟨ad, hA, hadb, h0, hj⟩ := (HM.out.below hB).get2 hlt
        subst hA
        generalize l[k] = x at *
        obtain ⟨xf, xt, xA, xn, xc⟩ := x
        have h0 := h0 _ rfl
        have h1 := hj 1 _ (by decide) rfl
        have h2 := hj 2 _ (by decide) rfl
        have HE := Lib.hid he
        have hkb : ((k : Int) != (i : Int)) = true := by rw [bne_iff_ne]; omega
        clear so hB hn hown hnl he hj
        go_wp2_with (at_builtin; go_loud (refine wpList_pushE Try.underlying28 info_rmsg rfl (by decide) wr rfl (.tmp 17) (.tmp 23) rfl (w.heap.size + 2) (.slice Au n cu) ((l.take k).eraseIdx i) rfl HSO.out ⟨xf, xt, xA, xn, xc⟩ _ rfl rfl (encM_one _) _ wr.heap.size rfl rfl (n + 1) (by rw [HN.out]) (by have := HN.out; have := HNL.out; unfold maxLen; omega) (by have := HN.out; have := HNL.out; omega) (by omega) ?_; intro A2 cap2 w2 so2 hgrow2 hat2; have t2 := Tn.ofGrown hgrow2; have z2 := hgrow2.size; have b0 := t2.cell a0 (fun e => HO0.out e.symm); have b1 := t2.cell a1 (fun e => HO0.out e.symm); have g1 : w2.frozen? ⟨w.heap.size, 1, none⟩ = false := (t2.frozen (p := ⟨w.heap.size, 1, none⟩) hz1 (fun e => HO0.out e.symm)).trans f1; have q0 := t2.cell r0 (fun e => HO1.out e.symm); have q1 := t2.cell r1 (fun e => HO1.out e.symm); have qf : ∀ o, w2.frozen? ⟨w.heap.size + 1, o, none⟩ = false := fun o => (t2.frozen (p := ⟨w.heap.size + 1, o, none⟩) hz2 (fun e => HO1.out e.symm)).trans (rf o); have B2 : Below w.heap.size w w2 := grown_belowE HB.out hgrow2 (by omega) (fun g e => by have := HOWN.out g e; omega)))
        go_roundw
        case rel => exact ⟨k + 1, n + 1, cap2, A2, by omega, rfl, rfl, by rw [HE.out, List.length_append, HN.out]; rfl, by rw [HE.out]; exact so2, b0, b1, g1, q0, q1, qf, B2, by omega⟩
        case measure => simp [intOf]; omega
    · have hkl : k = l.length := by omega
      subst hkl
      rw [List.take_length] at hn
      have HSF : So encM 3 wr (w.heap.size + 2) 33 (.slice Au n cu) (l.eraseIdx i) := by have := HSO.out; rwa [List.take_length] at this
      have HSE := Lib.hid HSF
      have HN9 := Lib.hid hn
      clear so hB hown hnl HSF hn HN HSO
      go_wp2_with fail
      have u0 : (wr.setCell ⟨w.heap.size, 1, none⟩ (.slice Au n cu)).cell? ⟨w.heap.size + 1, 0, none⟩ = some (.int .i64 0) := (World.cell?_setCell_other _ _ _ _ (by simp)).trans r0
      have u1 : (wr.setCell ⟨w.heap.size, 1, none⟩ (.slice Au n cu)).cell? ⟨w.heap.size + 1, 1, none⟩ = some (.slice none 0 0) := (World.cell?_setCell_other _ _ _ _ (by simp)).trans r1
      have F0 : (((wr.setCell ⟨w.heap.size, 1, none⟩ (.slice Au n cu)).setCell ⟨w.heap.size + 1, 0, none⟩ (.int .i64 room)).setCell ⟨w.heap.size + 1, 1, none⟩ (.slice Au n cu)).cell? ⟨w.heap.size + 1, 0, none⟩ = some (.int .i64 room) := (World.cell?_setCell_other _ _ _ _ (by simp)).trans (World.cell?_setCell_same' _ _ _ (by rw [u0]; rfl))
      have F1 : (((wr.setCell ⟨w.heap.size, 1, none⟩ (.slice Au n cu)).setCell ⟨w.heap.size + 1, 0, none⟩ (.int .i64 room)).setCell ⟨w.heap.size + 1, 1, none⟩ (.slice Au n cu)).cell? ⟨w.heap.size + 1, 1, none⟩ = some (.slice Au n cu) := World.cell?_setCell_same' _ _ _ (by rw [(World.cell?_setCell_other _ _ _ _ (by simp)).trans u1]; rfl)
      have T : Tn (fun k => k = w.heap.size ∨ k = w.heap.size + 1) wr (((wr.setCell ⟨w.heap.size, 1, none⟩ (.slice Au n cu)).setCell ⟨w.heap.size + 1, 0, none⟩ (.int .i64 room)).setCell ⟨w.heap.size + 1, 1, none⟩ (.slice Au n cu)) := (((Tn.setCell wr w.heap.size 1 _).mono (fun _ _ e => .inl e)).thenQ (Tn.setCell _ (w.heap.size + 1) 0 _) (fun _ _ e => .inr e)).thenQ (Tn.setCell _ (w.heap.size + 1) 1 _) (fun _ _ e => .inr e)
      generalize World.setCell _ _ _ = WF at F0 F1 T ⊢
      have so9 := (T.so HSE.out (fun g hg e => by rcases e with e | e <;> subst e; exact HO0.out hg; exact HO1.out hg)).more (K' := w.heap.size) (by omega)
      have hn := HN9.out
      subst hn
      refine bodyPost_ret (v := .agg #[.int .i64 room, .slice Au (l.eraseIdx i).length cu]) ?_ rfl ⟨Au, cu, rfl, so9, HB.out.trans (T.below (by omega) (fun k _ e => by rcases e with e | e <;> omega))⟩
      simp [results, Try.results14, go_sem, F0, F1]
end Go.Proofs.Ytejbjnjnabcleaa
