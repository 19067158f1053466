/- strings.IndexAny of the four signs, whatever the text. -/
import Derived.Test.YtcfbcidakddhfaaGreatDoorPr23
import Derived.Test.YtcfbcidakddhfaaGreatDoorPr16
import Derived.Test.YtcfbcidakddhfaaGreatDoorPr18
namespace Go.Proofs.YtcfbcidakddhfaaGreatDoor
open Go.RowKit

def Srt (l : List Smp) : Prop := l.Pairwise fun x y => x.1 ≤ y.1
def risB (l : List Smp) : Prop := ∀ i, i + 1 < l.length → (l.getD i (0, 0)).1 ≤ (l.getD (i + 1) (0, 0)).1
theorem srt_of : ∀ {l : List Smp}, risB l → Srt l
  | [], _ => List.Pairwise.nil
  | [x], _ => by simp [Srt]
  | x :: y :: l, h => by
    have h1 : risB (y :: l) := fun i hi => by
      have := h (i + 1) (by simp at hi ⊢; omega)
      simpa [List.getD] using this
    have h2 := srt_of h1
    have h3 : x.1 ≤ y.1 := by
      have := h 0 (by simp)
      simpa [List.getD] using this
    refine List.pairwise_cons.2 ⟨fun z hz => ?_, h2⟩
    rcases List.mem_cons.1 hz with rfl | hz
    · exact h3
    · have := (List.pairwise_cons.1 h2).1 z hz
      omega
theorem ah_take {l : List Smp} {T : Int} : ∀ x ∈ l.take (ah l T), x.1 < T := by
  induction l with
  | nil => simp
  | cons y l ih =>
    by_cases hy : y.1 < T
    · have e : ah (y :: l) T = ah l T + 1 := by unfold ah; rw [List.takeWhile_cons, if_pos (by simpa using hy)]; rfl
      rw [e, List.take_succ_cons]
      intro x hx
      rcases List.mem_cons.1 hx with rfl | hx
      · exact hy
      · exact ih x hx
    · have e : ah (y :: l) T = 0 := by unfold ah; rw [List.takeWhile_cons, if_neg (by simpa using hy)]; rfl
      rw [e]
      intro x hx
      simp at hx
theorem ah_drop {l : List Smp} {T : Int} (hs : Srt l) : ∀ x ∈ l.drop (ah l T), T ≤ x.1 := by
  induction l with
  | nil => simp
  | cons y l ih =>
    have h2 := List.pairwise_cons.1 hs
    by_cases hy : y.1 < T
    · have e : ah (y :: l) T = ah l T + 1 := by unfold ah; rw [List.takeWhile_cons, if_pos (by simpa using hy)]; rfl
      rw [e, List.drop_succ_cons]
      exact ih h2.2
    · have e : ah (y :: l) T = 0 := by unfold ah; rw [List.takeWhile_cons, if_neg (by simpa using hy)]; rfl
      rw [e]
      intro x hx
      rcases List.mem_cons.1 hx with rfl | hx
      · omega
      · have := h2.1 x hx
        omega
/-- How many samples lie in a span. -/
def cntB (a b : Int) (l : List Smp) : Nat := (l.filter fun s => decide (a ≤ s.1) && decide (s.1 < b)).length
theorem cnt_app (a b : Int) (l m : List Smp) : cntB a b (l ++ m) = cntB a b l + cntB a b m := by unfold cntB; rw [List.filter_append, List.length_append]
theorem cnt_all {a b : Int} {l : List Smp} (h : ∀ x ∈ l, a ≤ x.1 ∧ x.1 < b) : cntB a b l = l.length := by
  unfold cntB
  rw [List.filter_eq_self.2]
  intro x hx
  have := h x hx
  simp [this.1, this.2]
theorem cnt_none {a b : Int} {l : List Smp} (h : ∀ x ∈ l, x.1 < a ∨ b ≤ x.1) : cntB a b l = 0 := by
  unfold cntB
  rw [List.filter_eq_nil_iff.2]
  · rfl
  intro x hx
  have := h x hx
  simp
  omega
/-- Cells that cover. -/
structure Cv (a b st t : Int) (acc : List Smp) : Prop where
  all : ∀ x ∈ acc, 1 ≤ x.2 ∧ a ≤ x.1 ∧ x.1 < b ∧ (x.1 - a) % st = 0 ∧ x.1 < t
  up : acc.Pairwise fun x y => x.1 < y.1
theorem Cv.more {a b st t u : Int} {acc : List Smp} (h : Cv a b st t acc) (hu : t ≤ u) : Cv a b st u acc :=
  ⟨fun x hx => by obtain ⟨h1, h2, h3, h4, h5⟩ := h.all x hx; exact ⟨h1, h2, h3, h4, by omega⟩, h.up⟩
theorem fold2 {l : List Smp} (h0 : 0 < l.length) (h1 : l.length ≤ 65536) : foldB 2 l = ((l.length : Int), true, 0) := by
  have hb : ¬ badB 2 l = true := by unfold badB; simp; omega
  have hn : ¬ l = [] := by rintro rfl; simp at h0
  unfold foldB
  rw [if_neg hb, if_neg hn]
  rfl
theorem step_mod {a t st : Int} (h : (t - a) % st = 0) : (t + st - a) % st = 0 := by
  rw [show t + st - a = (t - a) + st by omega, Int.add_emod_right]
  exact h
theorem sumI_one (acc : List Smp) (x : Smp) : sumI (acc ++ [x]) = sumI acc + x.2 := by rw [sumI_app]; simp [sumI]
theorem winGo_cov {a b st : Int} (hst : 1 ≤ st) : ∀ (fuel : Nat) (t : Int) (l acc : List Smp), (b - t).toNat ≤ fuel → a ≤ t → t ≤ b → ((t - a) % st = 0 ∨ t = b) → (∀ x ∈ l, t ≤ x.1) → Srt l → l.length ≤ 65536 → Cv a b st t acc →
    ∃ acc', winGo 2 b st fuel t l acc = (0, acc') ∧ Cv a b st b acc' ∧ sumI acc' = sumI acc + (cntB a b l : Nat)
  | 0, t, l, acc, hf, ha, hb, _, hl, _, _, hC => by
    have : t = b := by omega
    subst this
    exact ⟨acc, rfl, hC, by rw [cnt_none fun x hx => .inr (hl x hx)]; simp⟩
  | fuel + 1, t, l, acc, hf, ha, hb, hm, hl, hs, hn, hC => by
    unfold winGo
    by_cases htb : t < b
    · rw [if_pos htb]
      by_cases h0 : l = []
      · rw [if_pos h0]
        exact ⟨acc, rfl, hC.more hb, by subst h0; simp [cntB]⟩
      rw [if_neg h0]
      obtain ⟨m, hmm⟩ : ∃ m, min st (b - t) = m := ⟨_, rfl⟩
      rw [hmm]
      have hm0 : (t - a) % st = 0 := by rcases hm with h | h <;> omega
      have hm2 : (t + m - a) % st = 0 ∨ t + m = b := by
        by_cases h : st ≤ b - t
        · obtain rfl : m = st := by omega
          exact .inl (step_mod hm0)
        · right; omega
      have hd := ah_drop (T := t + m) hs
      have htk := @ah_take l (t + m)
      have hle := ah_le l (t + m)
      have hsplit := List.take_append_drop (ah l (t + m)) l
      by_cases hq : ah l (t + m) = 0
      · rw [if_pos hq]
        rw [hq, List.drop_zero] at hd
        exact winGo_cov hst fuel (t + m) l acc (by omega) (by omega) (by omega) hm2 hd hs hn (hC.more (by omega))
      · rw [if_neg hq]
        have htl : (l.take (ah l (t + m))).length = ah l (t + m) := by rw [List.length_take]; omega
        have hf2 := fold2 (l := l.take (ah l (t + m))) (by omega) (by omega)
        have hc1 : cntB a b (l.take (ah l (t + m))) = ah l (t + m) := by
          rw [cnt_all, htl]
          intro x hx
          have h1 := hl x (List.mem_of_mem_take hx)
          have h2 := htk x hx
          omega
        have hcl : cntB a b l = ah l (t + m) + cntB a b (l.drop (ah l (t + m))) := by
          have h := congrArg (cntB a b) hsplit
          rw [cnt_app, hc1] at h
          exact h.symm
        rw [hf2]
        simp only [if_true]
        rw [htl]
        have hC' : Cv a b st (t + m) (acc ++ [(t, ((ah l (t + m) : Nat) : Int))]) := by
          refine ⟨fun x hx => ?_, ?_⟩
          · rcases List.mem_append.1 hx with hx | hx
            · obtain ⟨h1, h2, h3, h4, h5⟩ := hC.all x hx
              exact ⟨h1, h2, h3, h4, by omega⟩
            · simp at hx
              subst hx
              exact ⟨by simp; omega, ha, htb, hm0, by simp; omega⟩
          · rw [List.pairwise_append]
            refine ⟨hC.up, by simp, fun x hx y hy => ?_⟩
            simp at hy
            subst hy
            exact (hC.all x hx).2.2.2.2
        obtain ⟨acc', e1, e2, e3⟩ := winGo_cov hst fuel (t + m) (l.drop (ah l (t + m))) _ (by omega) (by omega) (by omega) hm2 hd (hs.sublist (List.drop_sublist _ _)) (by rw [List.length_drop]; omega) hC'
        refine ⟨acc', e1, e2, ?_⟩
        rw [e3, sumI_one, hcl]
        simp
        omega
    · rw [if_neg htb]
      have : t = b := by omega
      subst this
      exact ⟨acc, rfl, hC, by rw [cnt_none fun x hx => .inr (hl x hx)]; simp⟩
/-- What Windows tells by Count, of samples whose times don't fall. -/
theorem windows_cov {l : List Smp} {a b st : Int} (hs : Srt l) (hl : l.length ≤ 300) (h0 : (windowsB 2 l a b st).1 = 0) : Cv a b st b (windowsB 2 l a b st).2 ∧ sumI (windowsB 2 l a b st).2 = (cntB a b l : Nat) ∧ 1 ≤ st ∧ 0 ≤ a ∧ a ≤ b ∧ b ≤ 4611686018427387904 := by
  unfold windowsB at h0 ⊢
  by_cases h1 : (!okB 2 l.length || !spanB a b || decide (st < 1)) = true
  · rw [if_pos h1] at h0
    exact absurd h0 (by decide)
  · rw [if_neg h1] at h0 ⊢
    by_cases h2 : longB a b st = true
    · rw [if_pos h2] at h0
      exact absurd h0 (by decide)
    · rw [if_neg h2] at h0 ⊢
      simp only [Bool.or_eq_true, Bool.not_eq_true', decide_eq_true_eq, not_or] at h1
      obtain ⟨⟨_, h4⟩, h5⟩ := h1
      have h4 : spanB a b = true := by simpa using h4
      unfold spanB at h4
      simp at h4
      obtain ⟨acc', e1, e2, e3⟩ := winGo_cov (a := a) (b := b) (st := st) (by omega) (b - a).toNat a (l.drop (ah l a)) [] (Nat.le_refl _) (Int.le_refl _) (by omega) (.inl (by simp)) (ah_drop hs) (hs.sublist (List.drop_sublist _ _)) (by rw [List.length_drop]; omega) ⟨by simp, by simp⟩
      rw [e1]
      refine ⟨e2, ?_, by omega, by omega, by omega, by omega⟩
      rw [e3]
      have h6 : cntB a b l = cntB a b (l.take (ah l a)) + cntB a b (l.drop (ah l a)) := by rw [← cnt_app, List.take_append_drop]
      rw [h6, cnt_none fun x hx => .inl (ah_take x hx)]
      simp [sumI]
theorem windows_err {l : List Smp} {op a b st : Int} (h0 : (windowsB op l a b st).1 ≠ 0) : (windowsB op l a b st).2 = [] := by
  have go : ∀ (fuel : Nat) (t : Int) (l acc : List Smp), (winGo op b st fuel t l acc).1 ≠ 0 → (winGo op b st fuel t l acc).2 = [] := by
    intro fuel
    induction fuel with
    | zero => intro t l acc h; exact absurd rfl h
    | succ f ih =>
      intro t l acc h
      unfold winGo at h ⊢
      split at h <;> rename_i g1
      · rw [if_pos g1]
        split at h <;> rename_i g2
        · exact absurd rfl h
        · rw [if_neg g2]
          split at h <;> rename_i g3
          · rw [if_pos g3]; exact ih _ _ _ h
          · rw [if_neg g3]
            split at h <;> rename_i g4
            · rw [if_pos g4]; exact ih _ _ _ h
            · rw [if_neg g4]
      · exact absurd rfl h
  unfold windowsB at h0 ⊢
  split at h0 <;> rename_i g1
  · rw [if_pos g1]
  · rw [if_neg g1]
    split at h0 <;> rename_i g2
    · rw [if_pos g2]
    · rw [if_neg g2]
      exact go _ _ _ _ h0
end Go.Proofs.YtcfbcidakddhfaaGreatDoor
namespace Go.Proofs.YtcfbcidakddhfaaGreatDoor
open Go.RowKit

theorem runeHi_any (r : Int) (w : World) (h128 : 128 ≤ r) (hr : r ≤ 1114111) (hv : Utf8.valid r = true) : Calls Tryz.prog 96 #[.string ⟨#[61, 33, 94, 42]⟩, .int .i32 r] w fun e w' => e = .returned (.int .i64 (-1)) ∧ Below w.heap.size w w' := by
  by_cases h : r = 65533
  · subst h; exact indexRune_err w
  · exact indexRune_hi r w h128 hr hv h

set_option maxRecDepth 100000 in
set_option maxHeartbeats 3200000 in
theorem idx_short (t : ByteArray) (h8 : t.size ≤ 8) : IdxOk t := by
  intro w
  have h8z : decide ((8 : Int) < (t.size : Int)) = false := decide_eq_false (by omega)
  go_enter Tryz.func78, Tryz.ntmps78
  go_wp2_with (go_at_call 97; refine (Tryz.strings_shouldUseASCIISet _ _).mono ?_; rintro e w' ⟨rfl, hw⟩; rw [hw, h8z])
  go_loopg [9, 10] t.size (fun g _ _ wx => ∃ i : Nat, i + g = t.size ∧ wx.heap[w.heap.size]? = some (.stringIter t i) ∧ Lib.NoAny t.data.toList sgL i ∧ Below w.heap.size w wx)
  case atStart => exact ⟨0, by omega, World.iter_heap w t 0, Lib.NoAny.zero _ _, below_iter (Below.refl _ _) (Nat.le_refl _) _ _⟩
  case round =>
    obtain ⟨i, hig, hit, hno, hbl⟩ := hrel
    rename World => wr
    have HN := Lib.hid hno
    have HIT := Lib.hid hit
    have hlt : w.heap.size < wr.heap.size := (Array.getElem?_eq_some_iff.1 hit).1
    clear hno hit
    by_cases hi : i < t.size
    · by_cases hlow : (t.get! i).toNat < 128
      · have hx := get_byte t i hi
        have e : t.get! i = t[i]'hi := by
          show t.get! i = _
          simp [ByteArray.get!, getElem!_pos, hi]
          rfl
        have hd := decode_ascii t i hi (by rw [← e]; exact hlow)
        rw [← e] at hd
        generalize t.get! i = x at *
        have hnx := fun ty => run_next_any Tryz.prog wr w.heap.size t i x.toNat 1 ty HIT.out hi hd
        have hback : ((x.toNat : Int)).toNat.toUInt8 = x := by simp
        have hcon := Lib.contains_iff_indexByte sgL x
        have hir := fun W => Tryz.strings_IndexRune_ascii ⟨#[61, 33, 94, 42]⟩ (x.toNat : Int) W (by omega) (by omega)
        have e5 : (⟨#[61, 33, 94, 42]⟩ : ByteArray).data.toList = sgL := rfl
        rw [hback, e5] at hir
        have HX := Lib.hid hx
        have hset := setIter_at hlt t (i + 1)
        have hbs := setIter_below hbl (Nat.le_refl w.heap.size) t (i + 1)
        generalize setIter wr w.heap.size t (i + 1) = w2 at *
        have HB := Lib.hid hbs
        have HSET := Lib.hid hset
        clear e hd hx hback e5 hset hbs hbl
        cases hin : sgL.contains x with
        | false =>
          rw [hin] at hcon
          have hno2 := HN.out.succ HX.out hin
          have HN2 := Lib.hid hno2
          have hneg : ¬ ((0 : Int) ≤ Lib.indexByte sgL x) := of_decide_eq_false hcon.symm
          generalize Lib.indexByte sgL x = ib at *
          have HIR := Lib.hid hir
          clear hcon hin hno2 hir
          go_wp2_with (go_at_call 96; refine (HIR.out _).mono ?_; rintro e w' ⟨rfl, hw⟩; rw [hw])
          go_roundg (t.size - (i + 1))
          case measure => omega
          case rel => exact ⟨i + 1, by omega, HSET.out, HN2.out, HB.out⟩
        | true =>
          rw [hin] at hcon
          have HF : Hid (Lib.indexAny t.data.toList sgL = (i : Int)) := Lib.hid (Lib.indexAny_hit HN.out HX.out hin)
          have hpos : (0 : Int) ≤ Lib.indexByte sgL x := of_decide_eq_true hcon.symm
          generalize Lib.indexByte sgL x = ib at *
          have HIR := Lib.hid hir
          clear hcon hin hir
          go_wp2_with (go_at_call 96; refine (HIR.out _).mono ?_; rintro e w' ⟨rfl, hw⟩; rw [hw])
          go_ret
          exact ⟨by rw [HF.out]; rfl, HB.out⟩
      · obtain ⟨r, n, hd, hr1, hr2, hr3, hn1, hhi⟩ := decode_hi t i hi (by omega)
        have hnx := fun ty => run_next_any Tryz.prog wr w.heap.size t i r n ty HIT.out hi hd
        have HN2 := Lib.hid (noAny_hi HN.out hhi)
        have hle := hhi.1
        have hset := setIter_at hlt t (i + n)
        have hbs := setIter_below hbl (Nat.le_refl w.heap.size) t (i + n)
        have hsz : w.heap.size < (setIter wr w.heap.size t (i + n)).heap.size := (Array.getElem?_eq_some_iff.1 hset).1
        generalize setIter wr w.heap.size t (i + n) = w2 at *
        have HB := Lib.hid hbs
        have HSET := Lib.hid hset
        have HIR := Lib.hid (runeHi_any (r : Int) w2 (by omega) (by omega) hr3)
        clear hd hr3 hhi hset hbs hbl
        go_wp2_with (go_at_call 96; refine HIR.out.mono ?_; rintro e w3 ⟨rfl, hb3⟩)
        go_roundg (t.size - (i + n))
        case measure => omega
        case rel => exact ⟨i + n, by omega, by rw [hb3.block _ hsz]; exact HSET.out, HN2.out, HB.out.trans (hb3.mono (Nat.le_of_lt hsz))⟩
    · have hnx := fun ty => run_next_over Tryz.prog wr w.heap.size t i ty HIT.out hi
      have HF : Hid (Lib.indexAny t.data.toList sgL = -1) := Lib.hid (by
        have hie : i = t.data.toList.length := by simp; omega
        exact Lib.indexAny_none (by rw [← hie]; exact HN.out))
      go_wp2_with fail
      go_ret
      exact ⟨by rw [HF.out]; rfl, hbl⟩

set_option maxRecDepth 100000 in
theorem idx_any (t : ByteArray) (hs : t.size ≤ 4000000000) : IdxOk t := by
  by_cases h8 : t.size ≤ 8
  · exact idx_short t h8
  · intro W
    have hac : ∀ (j : Nat) b, (⟨#[61, 33, 94, 42]⟩ : ByteArray).data.toList[j]? = some b → b.toNat < 128 := fun j b hb => by
      have h : b ∈ ([61, 33, 94, 42] : List UInt8) := List.mem_of_getElem? hb
      simp at h
      rcases h with rfl | rfl | rfl | rfl <;> decide
    have h116 : (Tryz.prog.info? 173).map (fun i => (i.zero, i.size)) = some (some (.agg (Array.replicate 256 (.bool false))), 256) := by kernel_rfl
    refine (Tryz.strings_IndexAny_long (Go.zero_of_info h116).1 t ⟨#[61, 33, 94, 42]⟩ W (by decide) (by omega) (by omega) (by decide) hac).mono ?_
    rintro e w' ⟨rfl, rfl⟩
    exact ⟨rfl, ((Below.refl _ _).alloc (Nat.le_refl _) _).alloc (by simp) _⟩
end Go.Proofs.YtcfbcidakddhfaaGreatDoor
