/- Things laid by the program and by the document. -/
import Derived.Test.YtojkbndaleiaaaaDoorLdM
import Derived.Test.YtojkbndaleiaaaaDoorWAwake
import Derived.LoopTactic
namespace Go.Proofs.YtojkbndaleiaaaaDoor
open Go.RowKit

set_option maxRecDepth 100000 in
set_option maxHeartbeats 6400000 in
theorem laid_any (l : List Itm) (A : Option Addr) (c : Nat) (w : World) (h : Sr encIt 9 w w.heap.size A c l) (hok : ∀ i ∈ l, i.ok) (hw : Wid w) (hsz : (encs l).length + 32 ≤ 140737488355328) :
    Calls Tryd.prog 8 #[.slice A l.length c] w (Two w (encs l)) := by
  have HM := Lib.hid h
  have HK := Lib.hid hok
  have HW := Lib.hid hw
  have HB := Lib.hid (fun K b v w (h : Wr w K b v (encs l)) => wbytes_any K b v (encs l) w h (by omega))
  have HS := Lib.hid hsz
  have HLE := Lib.hid (encs_le l)
  have hll : l.length ≤ 9223372036854775807 := by
    have := h.le
    have := h.max
    unfold maxLen at this
    omega
  clear h hok hw hsz
  go_enter Tryd.func8, Tryd.ntmps8
  go_wp2_with (first
    | (go_at_call 9; refine (new_any _).mono ?_; rintro e w1 ⟨rfl, rfl⟩)
    | fail)
  go_loopw [5, 11] (fun u s wr => ∃ (q n cu : Nat) (Au : Option Addr) (v : Value), q ≤ l.length ∧ s = .int .i64 (q : Int) ∧ u = .slice Au n cu ∧ n = (encs (l.take q)).length ∧ Ld wr w.heap.size w.heap.size v (encs (l.take q)) (.slice Au n cu) (encs (l.take q)) ∧ Below w.heap.size w wr) (fun _ s _ => l.length - (intOf s).toNat)
  case atStart => exact ⟨0, 0, 0, none, .slice none 0 0, by omega, rfl, rfl, rfl, ⟨wr_new w _ (Nat.le_refl _), Ob.empty _ _, by simp [Value.ownBlock], by simp [Value.ownBlock]⟩, (Below.refl _ _).alloc (Nat.le_refl _) _⟩
  case round =>
    obtain ⟨q, n, cu, Au, v, hq, rfl, rfl, hn, hL, hB⟩ := hrel
    have zr := hB.size
    by_cases hlt : q < l.length
    · obtain ⟨ad, hA, hadb, h0, hj⟩ := (HM.out.below hB).get2 hlt
      have hx := HK.out l[q] (List.getElem_mem hlt)
      have hsucc := encs_succ l q hlt
      have hle2 := HLE.out (q + 1)
      rw [hsucc] at hle2
      generalize l[q] = x at *
      have h0 := h0 _ rfl
      have h1 := hj 1 _ (by decide) rfl
      have h2 := hj 2 _ (by decide) rfl
      have h3 := hj 3 _ (by decide) rfl
      have h4 := hj 4 _ (by decide) rfl
      have h5 := hj 5 _ (by decide) rfl
      have h6 := hj 6 _ (by decide) rfl
      have h7 := hj 7 _ (by decide) rfl
      have h8 := hj 8 _ (by decide) rfl
      obtain ⟨kd, nu, iv, fl, tx, x, y, z, mo⟩ := x
      simp only at h0 h1 h2 h3 h4 h5 h6 h7 h8
      clear hj
      subst hA
      have HLD := Lib.hid hL
      have HX := Lib.hid hx
      have HSU := Lib.hid hsucc
      have HL2 := Lib.hid hle2
      have HN := Lib.hid hn
      clear hL hx hsucc hle2 hn
      by_cases k0 : kd = 0
      · subst k0
        have hby : encs (l.take (q + 1)) = encs (l.take q) ++ numB nu := HSU.out.trans (by simp [Itm.by])
        have hlm : (encs (l.take q) ++ numB nu).length ≤ (encs l).length := by rw [← hby]; exact HLE.out (q + 1)
        have hl0 := HLE.out q
        have hss := HS.out
        have HP := Lib.hid (fun W (hL : Ld W w.heap.size w.heap.size v (encs (l.take q)) (.slice Au n cu) (encs (l.take q))) => wnum_any nu HX.out.nu w.heap.size w.heap.size v (encs (l.take q)) W hL.wr (by omega))
        have HR := Lib.hid (fun W v' m' (hL : Ld W w.heap.size w.heap.size v' m' (.slice Au n cu) (encs (l.take q))) => refNum_any nu HX.out.nu w.heap.size Au n cu (encs (l.take q)) W hL.ob (Nat.le_trans (hL.wr.kb) (Nat.le_of_lt hL.wr.lt)) (by omega))
        have HBY := Lib.hid hby
        clear hby hlm hl0 hss
        generalize encs (l.take q) ++ numB nu = M at *
        go_wp2_with (first
          | (go_at_call 25; go_loud (refine (HP.out _ (HLD.out.alloc _)).mono ?_; rintro e w2 ⟨v2, hs⟩; have he := hs.e; subst he; obtain ⟨L2, B2⟩ := (HLD.out.alloc _).step1 hs; have y1 : w2.cell? ⟨wr.heap.size, 1, none⟩ = some (.int .u64 (nu : Int)) := hs.tn.cell (by simp) (HLD.out.fresh (Nat.le_refl _)); have z2 := B2.size; clear hs))
          | (go_at_call 29; go_loud (refine (HR.out _ _ _ L2).mono ?_; rintro e w3 ⟨A3, c3, rfl, ho3, hg3⟩; obtain ⟨L3, B3⟩ := L2.step2 ho3 hg3; clear hg3 ho3)))
        go_roundw
        case rel => exact ⟨q + 1, _, c3, A3, v2, by omega, rfl, rfl, by rw [HBY.out], by rw [HBY.out]; exact L3, ((hB.alloc zr _).trans B2).trans B3⟩
        case measure => simp [intOf]; omega
      by_cases k1 : kd = 1
      · subst k1
        have hby : encs (l.take (q + 1)) = encs (l.take q) ++ numB (zz iv) := HSU.out.trans (by simp [Itm.by])
        have hlm : (encs (l.take q) ++ numB (zz iv)).length ≤ (encs l).length := by rw [← hby]; exact HLE.out (q + 1)
        have hl0 := HLE.out q
        have hss := HS.out
        have HP := Lib.hid (fun W (hL : Ld W w.heap.size w.heap.size v (encs (l.take q)) (.slice Au n cu) (encs (l.take q))) => wint_any iv HX.out.iv0 HX.out.iv1 w.heap.size w.heap.size v (encs (l.take q)) W hL.wr (by omega))
        have HR := Lib.hid (fun W v' m' (hL : Ld W w.heap.size w.heap.size v' m' (.slice Au n cu) (encs (l.take q))) => refInt_any iv HX.out.iv0 HX.out.iv1 w.heap.size Au n cu (encs (l.take q)) W hL.ob (Nat.le_trans (hL.wr.kb) (Nat.le_of_lt hL.wr.lt)) (by omega))
        have HBY := Lib.hid hby
        clear hby hlm hl0 hss
        generalize encs (l.take q) ++ numB (zz iv) = M at *
        go_wp2_with (first
          | (go_at_call 26; go_loud (refine (HP.out _ (HLD.out.alloc _)).mono ?_; rintro e w2 ⟨v2, hs⟩; have he := hs.e; subst he; obtain ⟨L2, B2⟩ := (HLD.out.alloc _).step1 hs; have y2 : w2.cell? ⟨wr.heap.size, 2, none⟩ = some (.int .i64 iv) := hs.tn.cell (by simp) (HLD.out.fresh (Nat.le_refl _)); have z2 := B2.size; clear hs))
          | (go_at_call 30; go_loud (refine (HR.out _ _ _ L2).mono ?_; rintro e w3 ⟨A3, c3, rfl, ho3, hg3⟩; obtain ⟨L3, B3⟩ := L2.step2 ho3 hg3; clear hg3 ho3)))
        go_roundw
        case rel => exact ⟨q + 1, _, c3, A3, v2, by omega, rfl, rfl, by rw [HBY.out], by rw [HBY.out]; exact L3, ((hB.alloc zr _).trans B2).trans B3⟩
        case measure => simp [intOf]; omega
      by_cases k2 : kd = 2
      · subst k2
        have hby : encs (l.take (q + 1)) = encs (l.take q) ++ [if fl then 1 else 0] := HSU.out.trans (by simp [Itm.by])
        have hlm : (encs (l.take q) ++ [if fl then 1 else 0]).length ≤ (encs l).length := by rw [← hby]; exact HLE.out (q + 1)
        have hl0 := HLE.out q
        have hss := HS.out
        have HP := Lib.hid (fun W (hL : Ld W w.heap.size w.heap.size v (encs (l.take q)) (.slice Au n cu) (encs (l.take q))) => wflag_any fl w.heap.size w.heap.size v (encs (l.take q)) W hL.wr (by omega))
        have HR := Lib.hid (fun W v' m' (hL : Ld W w.heap.size w.heap.size v' m' (.slice Au n cu) (encs (l.take q))) => refFlag_any fl w.heap.size Au n cu (encs (l.take q)) W hL.ob (Nat.le_trans (hL.wr.kb) (Nat.le_of_lt hL.wr.lt)) (by omega))
        have HBY := Lib.hid hby
        clear hby hlm hl0 hss
        generalize encs (l.take q) ++ [if fl then 1 else 0] = M at *
        go_wp2_with (first
          | (go_at_call 27; go_loud (refine (HP.out _ (HLD.out.alloc _)).mono ?_; rintro e w2 ⟨v2, hs⟩; have he := hs.e; subst he; obtain ⟨L2, B2⟩ := (HLD.out.alloc _).step1 hs; have y3 : w2.cell? ⟨wr.heap.size, 3, none⟩ = some (.bool fl) := hs.tn.cell (by simp) (HLD.out.fresh (Nat.le_refl _)); have z2 := B2.size; clear hs))
          | (go_at_call 31; go_loud (refine (HR.out _ _ _ L2).mono ?_; rintro e w3 ⟨A3, c3, rfl, ho3, hg3⟩; obtain ⟨L3, B3⟩ := L2.step2 ho3 hg3; clear hg3 ho3)))
        go_roundw
        case rel => exact ⟨q + 1, _, c3, A3, v2, by omega, rfl, rfl, by rw [HBY.out], by rw [HBY.out]; exact L3, ((hB.alloc zr _).trans B2).trans B3⟩
        case measure => simp [intOf]; omega
      by_cases k3 : kd = 3
      · subst k3
        have hby : encs (l.take (q + 1)) = encs (l.take q) ++ (numB tx.size ++ tx.data.toList) := HSU.out.trans (by simp [Itm.by])
        have hlm : (encs (l.take q) ++ (numB tx.size ++ tx.data.toList)).length ≤ (encs l).length := by rw [← hby]; exact HLE.out (q + 1)
        have hl0 := HLE.out q
        have hl3 : (encs (l.take q)).length + tx.size ≤ (encs l).length := by
          rw [List.length_append, List.length_append] at hlm
          have e : tx.data.toList.length = tx.size := by simp
          omega
        have hss := HS.out
        have HP := Lib.hid (fun W (hL : Ld W w.heap.size w.heap.size v (encs (l.take q)) (.slice Au n cu) (encs (l.take q))) => (by rw [← List.append_assoc]; exact wtext_any tx w.heap.size w.heap.size v (encs (l.take q)) W hL.wr (by omega) : Calls Tryd.prog 10 #[.pointer (some ⟨w.heap.size, 0, none⟩), .string tx] W fun e w' => ∃ v', Wst W w.heap.size w.heap.size v (encs (l.take q) ++ (numB tx.size ++ tx.data.toList)) e w' v'))
        have HR := Lib.hid (fun W v' m' (hL : Ld W w.heap.size w.heap.size v' m' (.slice Au n cu) (encs (l.take q))) => (by rw [← List.append_assoc]; exact refText_any tx w.heap.size Au n cu (encs (l.take q)) W hL.ob (Nat.le_trans (hL.wr.kb) (Nat.le_of_lt hL.wr.lt)) (by omega) : Calls Tryd.prog 32 #[.slice Au n cu, .string tx] W (App W w.heap.size (.slice Au n cu) (encs (l.take q) ++ (numB tx.size ++ tx.data.toList)))))
        have HBY := Lib.hid hby
        clear hby hlm hl0 hl3 hss
        generalize encs (l.take q) ++ (numB tx.size ++ tx.data.toList) = M at *
        go_wp2_with (first
          | (go_at_call 10; go_loud (refine (HP.out _ (HLD.out.alloc _)).mono ?_; rintro e w2 ⟨v2, hs⟩; have he := hs.e; subst he; obtain ⟨L2, B2⟩ := (HLD.out.alloc _).step1 hs; have y4 : w2.cell? ⟨wr.heap.size, 4, none⟩ = some (.string tx) := hs.tn.cell (by simp) (HLD.out.fresh (Nat.le_refl _)); have z2 := B2.size; clear hs))
          | (go_at_call 32; go_loud (refine (HR.out _ _ _ L2).mono ?_; rintro e w3 ⟨A3, c3, rfl, ho3, hg3⟩; obtain ⟨L3, B3⟩ := L2.step2 ho3 hg3; clear hg3 ho3)))
        go_roundw
        case rel => exact ⟨q + 1, _, c3, A3, v2, by omega, rfl, rfl, by rw [HBY.out], by rw [HBY.out]; exact L3, ((hB.alloc zr _).trans B2).trans B3⟩
        case measure => simp [intOf]; omega
      by_cases k4 : kd = 4
      · subst k4
        have hby : encs (l.take (q + 1)) = encs (l.take q) ++ putB x y z := HSU.out.trans (by simp [Itm.by])
        have hlm : (encs (l.take q) ++ putB x y z).length ≤ (encs l).length := by rw [← hby]; exact HLE.out (q + 1)
        have hl0 := HLE.out q
        have hss := HS.out
        have HP := Lib.hid (fun W (hL : Ld W w.heap.size w.heap.size v (encs (l.take q)) (.slice Au n cu) (encs (l.take q))) (hW : Wid W) => wstamp_any x y z HX.out.y HX.out.z w.heap.size w.heap.size v (encs (l.take q)) W hL.wr hW (by omega))
        have HR := Lib.hid (fun W v' m' (hL : Ld W w.heap.size w.heap.size v' m' (.slice Au n cu) (encs (l.take q))) => refStamp_any x y z HX.out.y HX.out.z w.heap.size Au n cu (encs (l.take q)) W hL.ob (Nat.le_trans (hL.wr.kb) (Nat.le_of_lt hL.wr.lt)) (by omega))
        have HBY := Lib.hid hby
        clear hby hlm hl0 hss
        generalize encs (l.take q) ++ putB x y z = M at *
        go_wp2_with (first
          | (go_at_call 33; go_loud (refine (to_any _ _ _ _).mono ?_; rintro e w1 ⟨rfl, hb1⟩; have L1 := (HLD.out.alloc _).below hb1; have z1 := hb1.size; simp at z1; have HW1 := Lib.hid (HW.out.below ((below_over hb1).mono zr |> fun t => hB.trans t))))
          | (go_at_call 28; go_loud (refine (HP.out _ L1 HW1.out).mono ?_; rintro e w2 ⟨v2, hs⟩; have he := hs.e; subst he; obtain ⟨L2, B2⟩ := L1.step1 hs; have y5 : w2.cell? ⟨wr.heap.size, 5, none⟩ = some (.int .i64 x) := hs.tn.cell (kept hb1 (by simp)) (HLD.out.fresh (Nat.le_refl _)); have y6 : w2.cell? ⟨wr.heap.size, 6, none⟩ = some (.int .u32 y) := hs.tn.cell (kept hb1 (by simp)) (HLD.out.fresh (Nat.le_refl _)); have y7 : w2.cell? ⟨wr.heap.size, 7, none⟩ = some (.int .u32 z) := hs.tn.cell (kept hb1 (by simp)) (HLD.out.fresh (Nat.le_refl _)); have z2 := B2.size; clear hs))
          | (go_at_call 34; go_loud (refine (HR.out _ _ _ L2).mono ?_; rintro e w3 ⟨A3, c3, rfl, ho3, hg3⟩; obtain ⟨L3, B3⟩ := L2.step2 ho3 hg3; clear hg3 ho3)))
        go_roundw
        case rel => exact ⟨q + 1, _, c3, A3, v2, by omega, rfl, rfl, by rw [HBY.out], by rw [HBY.out]; exact L3, ((hB.trans (below_over hb1 |>.mono zr)).trans B2).trans B3⟩
        case measure => simp [intOf]; omega
      have hby : encs (l.take (q + 1)) = encs (l.take q) := HSU.out.trans (by simp [Itm.by, k0, k1, k2, k3, k4])
      have HBY := Lib.hid hby
      clear hby
      go_wp2
      go_roundw
      case rel => exact ⟨q + 1, n, cu, Au, v, by omega, rfl, rfl, by rw [HBY.out]; exact HN.out, by rw [HBY.out]; exact HLD.out.alloc _, hB.alloc zr _⟩
      case measure => simp [intOf]; omega
    · have hqj : q = l.length := by omega
      subst hqj
      rw [List.take_length] at hn hL
      have HL := Lib.hid hL
      clear hL
      go_wp2_with (first
        | (go_at_call 11; go_loud (refine (HB.out _ _ _ _ HL.out.wr).mono ?_; rintro e w4 ⟨A4, c4, rfl, ho4, hb4⟩)))
      refine bodyPost_ret (v := .tuple #[.slice A4 (encs l).length c4, .slice Au (encs l).length cu]) (by simp [results, Tryd.results8, go_sem]) rfl ?_
      subst hn
      exact ⟨A4, c4, Au, cu, rfl, ho4.more zr, HL.out.ob.below hb4, hB.trans (hb4.mono zr)⟩
end Go.Proofs.YtojkbndaleiaaaaDoor
