/- The document's Same of rules, at one and the same list. -/
import Derived.Test.YtcmpenmaphmifaaGreatDoorPk8
import Derived.Test.YtcmpenmaphmifaaGreatDoorPk11
import Derived.Test.YtcmpenmaphmifaaGreatDoorPk1
import Derived.Test.YtcmpenmaphmifaaGreatDoorPk5
import Derived.Deep.QuietTactic
import Derived.BigQuiet
import Derived.Test.YtcmpenmaphmifaaGreatDoorPk0
import Derived.RegionTactic
namespace Go.Proofs.YtcmpenmaphmifaaGreatDoor
open Go.RowKit

theorem numsQ_len (q : Qr) : (numsQ q).length ≤ 3 := by unfold numsQ; split <;> simp
theorem ptrsQ_size (b : Nat) (q : Qr) : (ptrsQ b q.op).size = (numsQ q).length := by unfold ptrsQ numsQ; split <;> rfl
theorem ptrs_get {b : Nat} {q : Qr} (A : Option Addr) (c : Nat) {k : Nat} (h : k < (numsQ q).length) : (ptrsQ b q.op)[k]? = some (.pointer (some ⟨b, k + 2, none⟩)) ∧ (qc q A c)[k + 2]? = some (.int .i64 ((numsQ q).getD k 0)) := by
  have h3 := numsQ_len q
  by_cases h0 : q.op = 0
  · have e1 : numsQ q = [q.fr, q.to_] := if_pos h0
    have e2 : ptrsQ b q.op = #[.pointer (some ⟨b, 2, none⟩), .pointer (some ⟨b, 3, none⟩)] := if_pos h0
    rw [e1] at h ⊢
    rw [e2]
    match k, h with
    | 0, _ => exact ⟨rfl, rfl⟩
    | 1, _ => exact ⟨rfl, rfl⟩
    | k + 2, h => exact absurd h (by simp)
  · have e1 : numsQ q = [q.fr, q.to_, q.st] := if_neg h0
    have e2 : ptrsQ b q.op = #[.pointer (some ⟨b, 2, none⟩), .pointer (some ⟨b, 3, none⟩), .pointer (some ⟨b, 4, none⟩)] := if_neg h0
    rw [e1] at h ⊢
    rw [e2]
    match k, h with
    | 0, _ => exact ⟨rfl, rfl⟩
    | 1, _ => exact ⟨rfl, rfl⟩
    | 2, _ => exact ⟨rfl, rfl⟩
    | k + 3, h => exact absurd h (by simp)
theorem nums_fit {q : Qr} (h : Qok q) (k : Nat) : -9223372036854775808 ≤ (numsQ q).getD k 0 ∧ (numsQ q).getD k 0 ≤ 9223372036854775807 := by
  obtain ⟨_, _, f1, f2, t1, t2, s1, s2⟩ := h
  unfold numsQ
  split
  · match k with
    | 0 => exact ⟨f1, f2⟩
    | 1 => exact ⟨t1, t2⟩
    | k + 2 => simp
  · match k with
    | 0 => exact ⟨f1, f2⟩
    | 1 => exact ⟨t1, t2⟩
    | 2 => exact ⟨s1, s2⟩
    | k + 3 => simp
theorem numsL_snoc (l : List Int) {k : Nat} (h : k < l.length) : numsL (l.take (k + 1)) = numsL (l.take k) ++ 32 :: Lib.itoa (l.getD k 0) := by
  unfold numsL
  have e : l.getD k 0 = l[k] := by rw [List.getD_eq_getElem?_getD, List.getElem?_eq_getElem h]; rfl
  rw [List.take_succ_eq_append_getElem h, List.flatMap_append, e]
  simp
theorem numsL_len {q : Qr} (h : Qok q) : ∀ k, k ≤ (numsQ q).length → (numsL ((numsQ q).take k)).length ≤ k * 22
  | 0, _ => by simp [numsL]
  | k + 1, hk => by
    have h1 := numsL_len h k (by omega)
    have h2 := nums_fit h k
    have h3 := itoa_len h2.1 h2.2
    rw [numsL_snoc _ (by omega), List.length_append, List.length_cons]
    omega
theorem textR_len {l : List Rp} (h : SmR l) : (textR l).length ≤ l.length * 4000001 + 2 := by
  have := partsR_len (l := l) h
  unfold textR
  simp
  omega
theorem wordQ_len (op : Int) : (wordQ op).length ≤ 6 := by
  unfold wordQ
  repeat' (first | (split; next => decide) | decide)
theorem sz_strB (l : List UInt8) : (strB l).size = l.length := by simp [strB, ByteArray.size]
theorem ls_strB (l : List UInt8) : (strB l).data.toList = l := by simp [strB]
theorem mk_strB (l : List UInt8) : (⟨l.toArray⟩ : ByteArray) = strB l := rfl
/-- The text so far: the box of the query in block b0, the builder in block b. -/
structure Tx (w wr : World) (q : Qr) (A : Option Addr) (c b0 b : Nat) (L : List UInt8) : Prop where
  bf : Bf wr b b L
  bx : Rwo wr b0 (qc q A c) 27
  bl : Below w.heap.size w wr
  lb : b < wr.heap.size
  hb : b0 < b ∧ w.heap.size ≤ b0
section
variable {w wr w' : World} {q : Qr} {A : Option Addr} {c b0 b g : Nat} {L L' : List UInt8}
theorem Tx.below (h : Tx w wr q A c b0 b L) (hb : Below wr.heap.size wr w') : Tx w w' q A c b0 b L :=
  ⟨h.bf.below hb, h.bx.below hb, h.bl.trans (hb.mono h.bl.size), Nat.lt_of_lt_of_le h.lb hb.size, h.hb⟩
theorem Tx.wrote (h : Tx w wr q A c b0 b L) (hf : Bf w' b b L') (hb : Below b wr w') (hk : Okb b wr w') : Tx w w' q A c b0 b L' :=
  ⟨hf, h.bx.okb hk (by have := h.hb; omega) (by decide), h.bl.trans (hb.mono (by have := h.hb; omega)), Nat.lt_of_lt_of_le h.lb hb.size, h.hb⟩
end
set_option maxRecDepth 100000 in
set_option maxHeartbeats 1600000 in
theorem akText_any {q : Qr} {A : Option Addr} {c K : Nat} (w : World) (hr : Rr w K A c q.rs) (hK : K ≤ w.heap.size) (hS : SmR q.rs) (hl : q.rs.length ≤ 1048576) (hq : Qok q) (hg : Sg w) (hwo : Wo w) (hp : Pow w) :
    Calls Tryz.prog 13 #[qv q A c] w (NewStr w ⟨(textQ q).toArray⟩) := by
  have hcl := hr.le
  have HL1 := Lib.hid (textR_len hS)
  have HLl := Lib.hid hl
  have HSR := Lib.hid hS
  have HQ := Lib.hid hq
  have HN := Lib.hid (numsL_len hq)
  have HW6 := Lib.hid (wordQ_len q.op)
  have B0 : Below w.heap.size w (w.alloc (.cells (qc q A c) 27)) := (Below.refl _ _).alloc (Nat.le_refl _) _
  have hz0 : w.heap.size < (w.alloc (.cells (qc q A c) 27)).heap.size := by simp
  have HX0 : Hid (Rwo (w.alloc (.cells (qc q A c) 27)) w.heap.size (qc q A c) 27) := Lib.hid ⟨heap_alloc_new w _⟩
  have HGL : Hid (∀ wx, Below w.heap.size w wx → Sg wx ∧ Wo wx ∧ Pow wx ∧ Rr wx K A c q.rs ∧ K ≤ wx.heap.size) := Lib.hid fun wx h => ⟨Sg.below hg h, hwo.below h, hp.below h, hr.below (h.mono hK), Nat.le_trans hK h.size⟩
  have HFN : Hid (textQ q = wordQ q.op ++ textR q.rs ++ numsL (numsQ q) ++ (if q.nt = true then notesL else [])) := Lib.hid rfl
  clear hr hS hl hq hg hwo hp
  go_enter Tryz.func13, Tryz.ntmps13
  go_upto_region 2 with fail
  have HT2 : Hid (Tx w ((w.alloc (.cells (qc q A c) 27)).alloc (.cells #[.pointer none, .slice none 0 0] 102)) q A c w.heap.size (w.heap.size + 1) []) := Lib.hid ⟨by have h := Bf.new (w.alloc (.cells (qc q A c) 27)); simpa using h, HX0.out.below ((Below.refl _ _).alloc (Nat.le_refl _) _), B0.alloc B0.size _, by simp, Nat.lt_succ_self _, Nat.le_refl _⟩
  generalize (w.alloc (.cells (qc q A c) 27)).alloc (.cells #[.pointer none, .slice none 0 0] 102) = w2 at HT2 ⊢
  obtain ⟨b, hb⟩ : ∃ b, w.heap.size + 1 = b := ⟨_, rfl⟩
  rw [hb] at HT2 ⊢
  have hb1 : w.heap.size < b := by omega
  clear B0 HX0 hz0 hb
  have y0 := HT2.out.bx.cell (i := 0) rfl
  have yl := HT2.out.bx.lt
  have HWd := Lib.hid (wordOf_any q.op w2 (HGL.out _ HT2.out.bl).2.1)
  go_wp2_with fail
  refine HWd.out.mono ?_
  rintro e w' ⟨rfl, rfl⟩
  have HC2 := Lib.hid (fws_any b b [] (strB (wordQ q.op)) w2 HT2.out.bf (by have := HW6.out; rw [sz_strB]; simp; omega) (Nat.le_of_lt HT2.out.lb))
  go_wp2_with fail
  refine HC2.out.mono ?_
  rintro e w3 ⟨rfl, f3, b3, k3⟩
  have HT3 := Lib.hid (HT2.out.wrote f3 b3 k3)
  clear f3 b3 k3 y0 yl HWd HC2 HT2
  have y1 := HT3.out.bx.cell (i := 1) rfl
  have yl := HT3.out.bx.lt
  have HM3 := Lib.hid (HGL.out _ HT3.out.bl)
  have HC3 := Lib.hid (textRl_any K A q.rs.length c q.rs w3 rfl HM3.out.2.2.2.1 HM3.out.2.2.2.2 HSR.out HLl.out HM3.out.1)
  go_wp2_with fail
  refine HC3.out.mono ?_
  rintro e w4 ⟨rfl, b4⟩
  have HT4 := Lib.hid (HT3.out.below b4)
  have HC4 := Lib.hid (fws_any b b _ (strB (textR q.rs)) w4 HT4.out.bf (by have h1 := HW6.out; have h2 := HL1.out; have h3 := HLl.out; rw [sz_strB, ls_strB]; simp; omega) (Nat.le_of_lt HT4.out.lb))
  clear b4 y1 yl
  go_wp2_with fail
  refine HC4.out.mono ?_
  rintro e w5 ⟨rfl, f5, b5, k5⟩
  have HT5 := Lib.hid (HT4.out.wrote f5 b5 k5)
  clear f5 b5 k5 HC4 HT4 HT3 HM3 HC3
  have y0 := HT5.out.bx.cell (i := 0) rfl
  go_wp2_with fail
  refine (numbersOf_any w.heap.size q.op w5 y0).mono ?_
  rintro e w6 ⟨g, rfl, b6, hg6, hr6⟩
  have HT6 := Lib.hid (HT5.out.below b6)
  have hgb : g ≠ b := by
    have := HT5.out.lb
    omega
  have HR6 := Lib.hid hr6
  have hps := ptrsQ_size w.heap.size q
  clear b6 hr6 y0 HT5
  rw [hps]
  clear hps
  obtain ⟨L0, hL0⟩ : ∃ L0, L0 = [] ++ (strB (wordQ q.op)).data.toList ++ (strB (textR q.rs)).data.toList := ⟨_, rfl⟩
  rw [← hL0] at HT6
  have HL0 : Hid (L0 = wordQ q.op ++ textR q.rs) := Lib.hid (by rw [hL0, ls_strB, ls_strB]; rfl)
  clear hL0
  obtain ⟨N, hN⟩ : ∃ N, N = (numsQ q).length := ⟨_, rfl⟩
  rw [← hN]
  have HNN := Lib.hid hN
  have hN3 : N ≤ 3 := by rw [hN]; exact numsQ_len q
  clear hN
  have HL9 : Hid (L0.length ≤ 1048576 * 4000001 + 8) := Lib.hid (by
    have h1 := HW6.out; have h2 := HL1.out; have h3 := HLl.out
    rw [HL0.out, List.length_append]
    omega)
  go_wp2_with fail
  go_loopw [16] (fun iv wr => ∃ k : Nat, iv = .int .i64 (k : Int) ∧ k ≤ N ∧ Hid (Tx w wr q A c w.heap.size b (L0 ++ numsL ((numsQ q).take k))) ∧ Hid (Rwo wr g (ptrsQ w.heap.size q.op) 110)) (fun iv _ => N - (intOf iv).toNat)
  case atStart => exact ⟨0, rfl, Nat.zero_le _, Lib.hid (by simpa [numsL] using HT6.out), HR6⟩
  case round =>
    obtain ⟨k, rfl, hk, HT, HR⟩ := hrel
    rename World => W0
    clear HT6 HR6
    have i0 : 0 ≤ (k : Int) := by omega
    by_cases hlt : k < N
    · have i1 : (k : Int) < N := by omega
      obtain ⟨pg, pc⟩ := ptrs_get (b := w.heap.size) A c (HNN.out ▸ hlt)
      have hfit := nums_fit HQ.out k
      have hsn := numsL_snoc (numsQ q) (HNN.out ▸ hlt)
      have z0 := HR.out.cell pg
      have z1 := HT.out.bx.cell pc
      have zl := HR.out.lt
      have zb := HT.out.bx.lt
      have hlen := HN.out k (by rw [← HNN.out]; exact hk)
      have HSN := Lib.hid hsn
      have HLN : Hid ((L0 ++ numsL ((numsQ q).take k)).length ≤ 1048576 * 4000001 + 100) := Lib.hid (by have h := HL9.out; rw [List.length_append]; omega)
      generalize numsL ((numsQ q).take k) = S at HT HLN HSN
      generalize (numsQ q).getD k 0 = n at z1 hfit HSN pc
      obtain ⟨f1, f2⟩ := hfit
      have HPC := Lib.hid pc
      have HPG := Lib.hid pg
      clear pg pc hsn hlen
      have HC1 := Lib.hid (fwb_any b b (L0 ++ S) 32 32 W0 rfl HT.out.bf (by have := HLN.out; omega) (Nat.le_of_lt HT.out.lb))
      go_wp2_with fail
      refine HC1.out.mono ?_
      rintro e W1 ⟨rfl, u1, u2, u3⟩
      have HT1 := Lib.hid (HT.out.wrote u1 u2 u3)
      have HR1 := Lib.hid (HR.out.okb u3 hgb (by decide))
      have z1' := HT1.out.bx.cell HPC.out
      have zl' := HT1.out.bx.lt
      have HF := Lib.hid (format_any n W1 f1 f2 (HGL.out _ HT1.out.bl).2.2.1)
      clear u1 u2 u3 HC1 HT HR z0 z1 zl zb
      go_wp2_with fail
      refine HF.out.mono ?_
      rintro e W2 ⟨rfl, b2⟩
      have HT2 := Lib.hid (HT1.out.below b2)
      have HR2 := Lib.hid (HR1.out.below b2)
      have HI := Lib.hid (itoa_len f1 f2)
      have HC2 := Lib.hid (fws_any b b _ (strB (Lib.itoa n)) W2 HT2.out.bf (by have := HLN.out; have := HI.out; rw [sz_strB]; simp at *; omega) (Nat.le_of_lt HT2.out.lb))
      clear b2 z1' zl'
      go_wp2_with fail
      refine HC2.out.mono ?_
      rintro e W3 ⟨rfl, u1, u2, u3⟩
      have HT3 : Hid (Tx w W3 q A c w.heap.size b (L0 ++ numsL ((numsQ q).take (k + 1)))) := Lib.hid (by
        have h := HT2.out.wrote u1 u2 u3
        rw [HSN.out]
        rw [ls_strB] at h
        simpa using h)
      have HR3 := Lib.hid (HR2.out.okb u3 hgb (by decide))
      clear u1 u2 u3 HC2
      go_wp2_with fail
      go_roundw
      case rel => exact ⟨k + 1, by go_num, hlt, HT3, HR3⟩
      case measure => simp [intOf]; omega
    · have i1 : ¬ (k : Int) < N := by omega
      have hkN : k = N := by omega
      have HT9 : Hid (Tx w W0 q A c w.heap.size b (L0 ++ numsL (numsQ q))) := Lib.hid (by
        have h := HT.out
        rw [hkN, HNN.out, List.take_length] at h
        exact h)
      have HLN : Hid ((L0 ++ numsL (numsQ q)).length ≤ 1048576 * 4000001 + 100) := Lib.hid (by
        have h := HL9.out
        have h2 := HN.out (numsQ q).length (Nat.le_refl _)
        rw [List.take_length] at h2
        have h3 := numsQ_len q
        rw [List.length_append]
        omega)
      clear HT hkN
      have y5 : W0.cell? ⟨w.heap.size, 5, none⟩ = some (.bool q.nt) := HT9.out.bx.cell rfl
      have yl := HT9.out.bx.lt
      cases hnt : q.nt with
      | false =>
        rw [hnt] at y5
        have HF : Hid (textQ q = L0 ++ numsL (numsQ q)) := Lib.hid (by rw [HFN.out, hnt, HL0.out]; simp)
        clear hnt
        have HC := Lib.hid (fstr_any b b _ W0 HT9.out.bf (Nat.le_of_lt HT9.out.lb))
        go_wp2_with fail
        refine HC.out.mono ?_
        rintro e W1 ⟨rfl, b1⟩
        have HB : Hid (Below w.heap.size w W1) := Lib.hid (HT9.out.bl.trans (b1.mono (by omega)))
        clear b1
        go_wp2_with fail
        go_ret
        exact ⟨by rw [HF.out]; rfl, HB.out⟩
      | true =>
        rw [hnt] at y5
        have HF : Hid (textQ q = L0 ++ numsL (numsQ q) ++ notesL) := Lib.hid (by rw [HFN.out, hnt, HL0.out]; simp)
        clear hnt
        have HC1 := Lib.hid (fws_any b b _ (strB notesL) W0 HT9.out.bf (by have := HLN.out; rw [sz_strB]; simp [notesL] at *; omega) (Nat.le_of_lt HT9.out.lb))
        go_wp2_with fail
        refine HC1.out.mono ?_
        rintro e W1 ⟨rfl, u1, u2, u3⟩
        have HT1 := Lib.hid (HT9.out.wrote u1 u2 u3)
        have HC := Lib.hid (fstr_any b b _ W1 HT1.out.bf (Nat.le_of_lt HT1.out.lb))
        clear u1 u2 u3
        go_wp2_with fail
        refine HC.out.mono ?_
        rintro e W2 ⟨rfl, b1⟩
        have HB : Hid (Below w.heap.size w W2) := Lib.hid (HT1.out.bl.trans (b1.mono (by omega)))
        clear b1
        go_wp2_with fail
        go_ret
        exact ⟨by rw [HF.out, List.append_assoc]; rfl, HB.out⟩
end Go.Proofs.YtcmpenmaphmifaaGreatDoor
namespace Go.Proofs.YtcmpenmaphmifaaGreatDoor
open Go.RowKit

theorem rSign_any (o : Int) (w : World) : Calls Tryz.prog 67 #[.int .i64 o] w fun e w' => e = .returned (.string ⟨(sgB o).toArray⟩) ∧ w = w' := by
  by_cases h1 : o = 1
  · subst h1
    go_enter Tryz.func67, Tryz.ntmps67
    go_wp2
    go_ret
    exact ⟨rfl, rfl⟩
  by_cases h2 : o = 2
  · subst h2
    go_enter Tryz.func67, Tryz.ntmps67
    go_wp2
    go_ret
    exact ⟨rfl, rfl⟩
  by_cases h3 : o = 3
  · subst h3
    go_enter Tryz.func67, Tryz.ntmps67
    go_wp2
    go_ret
    exact ⟨rfl, rfl⟩
  by_cases h4 : o = 4
  · subst h4
    go_enter Tryz.func67, Tryz.ntmps67
    go_wp2
    go_ret
    exact ⟨rfl, rfl⟩
  · have HF : Hid (sgB o = []) := Lib.hid (by simp [sgB, h1, h2, h3, h4])
    have e1 : (o == 1) = false := beq_eq_false_iff_ne.2 h1
    have e2 : (o == 2) = false := beq_eq_false_iff_ne.2 h2
    have e3 : (o == 3) = false := beq_eq_false_iff_ne.2 h3
    have e4 : (o == 4) = false := beq_eq_false_iff_ne.2 h4
    clear h1 h2 h3 h4
    go_enter Tryz.func67, Tryz.ntmps67
    go_wp2
    go_ret
    rw [HF.out]
    exact ⟨rfl, rfl⟩
end Go.Proofs.YtcmpenmaphmifaaGreatDoor
namespace Go.Proofs.YtcmpenmaphmifaaGreatDoor
open Go.RowKit

theorem cell1 (n : Int) (c : UInt8) (h : n = (c.toNat : Int)) : [Value.int .u8 n] = [c].map bv := by subst h; rfl

set_option maxHeartbeats 3200000 in
theorem rQuote_any (s : ByteArray) (w : World) (hs : s.size ≤ 1000000000000) : Calls Tryz.prog 80 #[.string s] w (NewStr w ⟨(quoteB s).toArray⟩) := by
  have k34 : [Value.int .u8 34] = [(34 : UInt8)].map bv := cell1 34 34 rfl
  have k92 : [Value.int .u8 92] = [(92 : UInt8)].map bv := cell1 92 92 rfl
  have K34 := Lib.hid k34
  have K92 := Lib.hid k92
  clear k34 k92
  go_enter Tryz.func80, Tryz.ntmps80
  go_wp2_with fail
  have h0 : Ob (w.alloc (.cells #[.int .u8 34] 5)) w.heap.size (.slice (some ⟨w.heap.size, 0, none⟩) 1 1) [34] := lit_ob w w.heap.size w.heap.size rfl (Nat.le_refl _) _ 1 _ K34.out rfl (by decide)
  have B0 : Below w.heap.size w (w.alloc (.cells #[.int .u8 34] 5)) := (Below.refl _ _).alloc (Nat.le_refl _) _
  go_loopw [3, 4] (fun v i wr => ∃ (k n c : Nat) (A : Option Addr), k ≤ s.size ∧ i = .int .i64 k ∧ v = .slice A n c ∧ Ob wr w.heap.size (.slice A n c) (quoteTo s k) ∧ Below w.heap.size w wr) (fun _ i _ => s.size - (intOf i).toNat)
  case atStart => exact ⟨0, 1, 1, _, Nat.zero_le _, rfl, rfl, by rw [quoteTo_zero]; exact h0, B0⟩
  case round =>
    obtain ⟨k, n, c, A, hk, rfl, rfl, hob, hbl⟩ := hrel
    have z := hbl.size
    have hlen := quoteTo_len s k
    have hn := hob.bs.2
    have HN := Lib.hid hn
    clear h0 B0 hn
    by_cases hlt : k < s.size
    · by_cases hg : gN ((s[k]).toNat : Int) = true
      · have HQ := Lib.hid (quoteTo_yes s k hlt hg)
        by_cases h34 : ((s[k]).toNat : Int) = 34
        · have e34 : (((s[k]).toNat : Int) == 34) = true := by rw [h34]; rfl
          clear hg h34
          go_wp2_with (first
            | (at_builtin; refine wpList_app _ rfl (.tmp 22) (.tmp 23) rfl w.heap.size (.slice A n c) (quoteTo s k) rfl (hob.alloc _) (some ⟨wr.heap.size, 0, none⟩) 1 1 [92] rfl rfl _ (lit_bsH wr _ wr.heap.size rfl _ 1 _ K92.out rfl (by decide)) (n + 1) (by rw [HN.out]; rfl) (by simp; omega) (by simp; omega) ?_; intro A6 c6 w6 hown6 hgrow6 hat6; have B6 : Below w.heap.size w w6 := grown_belowE (hbl.alloc z _) hgrow6 (by simp; omega) (fun _ h => (hob.lt _ h).1); have z6 := B6.size)
            | (at_builtin; refine wpList_app _ rfl (.tmp 25) (.tmp 29) rfl w.heap.size (.slice A6 (n + 1) c6) (quoteTo s k ++ [92]) rfl (hown6.alloc _) (some ⟨w6.heap.size, 0, none⟩) 1 1 [s[k]] rfl rfl _ (lit_bsH w6 _ w6.heap.size rfl _ 1 _ rfl rfl (by decide)) (n + 2) (by rw [HN.out]; simp) (by simp; omega) (by simp; omega) ?_; intro A7 c7 w7 hown7 hgrow7 hat7; have B7 : Below w.heap.size w w7 := grown_belowE (B6.alloc z6 _) hgrow7 (by simp; omega) (fun _ h => (hown6.lt _ h).1)))
          go_roundw
          case rel => exact ⟨k + 1, n + 2, c7, A7, by omega, by go_num, rfl, by rw [HQ.out]; exact hown7, B7⟩
          case measure => simp [intOf]; omega
        · have e34 : (((s[k]).toNat : Int) == 34) = false := by simpa using h34
          have e92 : (((s[k]).toNat : Int) == 92) = true := by simp [gN] at hg ⊢; omega
          clear hg h34
          go_wp2_with (first
            | (at_builtin; refine wpList_app _ rfl (.tmp 22) (.tmp 23) rfl w.heap.size (.slice A n c) (quoteTo s k) rfl (hob.alloc _) (some ⟨wr.heap.size, 0, none⟩) 1 1 [92] rfl rfl _ (lit_bsH wr _ wr.heap.size rfl _ 1 _ K92.out rfl (by decide)) (n + 1) (by rw [HN.out]; rfl) (by simp; omega) (by simp; omega) ?_; intro A6 c6 w6 hown6 hgrow6 hat6; have B6 : Below w.heap.size w w6 := grown_belowE (hbl.alloc z _) hgrow6 (by simp; omega) (fun _ h => (hob.lt _ h).1); have z6 := B6.size)
            | (at_builtin; refine wpList_app _ rfl (.tmp 25) (.tmp 29) rfl w.heap.size (.slice A6 (n + 1) c6) (quoteTo s k ++ [92]) rfl (hown6.alloc _) (some ⟨w6.heap.size, 0, none⟩) 1 1 [s[k]] rfl rfl _ (lit_bsH w6 _ w6.heap.size rfl _ 1 _ rfl rfl (by decide)) (n + 2) (by rw [HN.out]; simp) (by simp; omega) (by simp; omega) ?_; intro A7 c7 w7 hown7 hgrow7 hat7; have B7 : Below w.heap.size w w7 := grown_belowE (B6.alloc z6 _) hgrow7 (by simp; omega) (fun _ h => (hown6.lt _ h).1)))
          go_roundw
          case rel => exact ⟨k + 1, n + 2, c7, A7, by omega, by go_num, rfl, by rw [HQ.out]; exact hown7, B7⟩
          case measure => simp [intOf]; omega
      · have hg : gN ((s[k]).toNat : Int) = false := by simpa using hg
        have HQ := Lib.hid (quoteTo_no s k hlt hg)
        have e34 : (((s[k]).toNat : Int) == 34) = false := by simp [gN] at hg ⊢; omega
        have e92 : (((s[k]).toNat : Int) == 92) = false := by simp [gN] at hg ⊢; omega
        clear hg
        go_wp2_with (at_builtin; refine wpList_app _ rfl (.tmp 25) (.tmp 29) rfl w.heap.size (.slice A n c) (quoteTo s k) rfl (hob.alloc _) (some ⟨wr.heap.size, 0, none⟩) 1 1 [s[k]] rfl rfl _ (lit_bsH wr _ wr.heap.size rfl _ 1 _ rfl rfl (by decide)) (n + 1) (by rw [HN.out]; rfl) (by simp; omega) (by simp; omega) ?_; intro A6 c6 w6 hown6 hgrow6 hat6; have B6 : Below w.heap.size w w6 := grown_belowE (hbl.alloc z _) hgrow6 (by simp; omega) (fun _ h => (hob.lt _ h).1))
        go_roundw
        case rel => exact ⟨k + 1, n + 1, c6, A6, by omega, by go_num, rfl, by rw [HQ.out]; exact hown6, B6⟩
        case measure => simp [intOf]; omega
    · have hks : k = s.size := by omega
      subst hks
      have hfin : quoteTo s s.size ++ [34] = quoteB s := rfl
      have HF := Lib.hid hfin
      clear hfin
      go_wp2_with (at_builtin; refine wpList_app _ rfl (.tmp 31) (.tmp 32) rfl w.heap.size (.slice A n c) (quoteTo s s.size) rfl (hob.alloc _) (some ⟨wr.heap.size, 0, none⟩) 1 1 [34] rfl rfl _ (lit_bsH wr _ wr.heap.size rfl _ 1 _ K34.out rfl (by decide)) (n + 1) (by rw [HN.out]; rfl) (by simp; omega) (by simp; omega) ?_; intro A6 c6 w6 hown6 hgrow6 hat6; have B6 : Below w.heap.size w w6 := grown_belowE (hbl.alloc z _) hgrow6 (by simp; omega) (fun _ h => (hob.lt _ h).1); rw [HF.out] at hown6; have hcv := bs_str hown6.bs.1 hown6.bs.2.symm)
      go_ret
      exact ⟨rfl, B6⟩

set_option maxRecDepth 100000 in
set_option maxHeartbeats 3200000 in
theorem rUnquote_any (t : ByteArray) (w : World) (hs : t.size ≤ 1000000000000) : Calls Tryz.prog 68 #[.string t] w (UnqPost w (unqB t)) := by
  by_cases h0 : t.size = 0
  · rw [unqB_nil h0]
    have e1 : t.size < 1 := by omega
    have H0 := Lib.hid h0
    clear h0
    go_enter Tryz.func68, Tryz.ntmps68
    go_wp2
    go_ret2
    exact ⟨rfl, Below.refl _ _⟩
  have hpos : 0 < t.size := by omega
  by_cases hc : ((t[0]).toNat : Int) = 34
  · have hstart := unqB_yes hpos hc
    have HS := Lib.hid hstart
    have hc2 : (((t[0]).toNat : Int) == 34) = true := by rw [hc]; rfl
    have hc3 : (((t[0]).toNat : Int) != 34) = false := by rw [hc]; rfl
    generalize unqB t = R at *
    clear hstart hc h0
    go_enter Tryz.func68, Tryz.ntmps68
    go_wp2_with fail
    clear hc2 hc3
    go_loopw [4, 5] (fun v i wr => ∃ (k n c : Nat) (A : Option Addr) (acc : List UInt8), 1 ≤ k ∧ k ≤ t.size ∧ i = .int .i64 k ∧ v = .slice A n c ∧ acc.length ≤ k ∧ Ob wr w.heap.size (.slice A n c) acc ∧ Hid (R = unqGo (t.data.toList.drop k) false acc k) ∧ Below w.heap.size w wr) (fun _ i _ => t.size - (intOf i).toNat)
    case atStart => exact ⟨1, 0, 0, none, [], by omega, by omega, rfl, rfl, by simp, Ob.empty _ _, HS, Below.refl _ _⟩
    case round =>
      obtain ⟨k, n, c, A, acc, h1k, hk, rfl, rfl, hal, hob, HT, hbl⟩ := hrel
      have z := hbl.size
      have hn := hob.bs.2
      have HN := Lib.hid hn
      clear hn
      by_cases hlt : k < t.size
      · by_cases h34 : ((t[k]).toNat : Int) = 34
        · have HF : Hid (R = (acc, k + 1)) := Lib.hid (by rw [HT.out, go_quote hlt _ _ h34])
          have c1 : (((t[k]).toNat : Int) == 34) = true := by rw [h34]; rfl
          have c2 : (((t[k]).toNat : Int) != 34) = false := by rw [h34]; rfl
          have hcv := bs_str hob.bs.1 HN.out.symm
          have H34 := Lib.hid h34
          clear h34
          go_wp2_with fail
          go_ret2
          exact ⟨by rw [HF.out]; exact ret_unq rfl (by omega), hbl⟩
        · have c1 : (((t[k]).toNat : Int) == 34) = false := by simpa using h34
          have c2 : (((t[k]).toNat : Int) != 34) = true := by simpa using h34
          by_cases h92 : ((t[k]).toNat : Int) = 92
          · have c3 : (((t[k]).toNat : Int) == 92) = true := by rw [h92]; rfl
            have hsl := go_slash hlt acc k h92
            have HSL := Lib.hid hsl
            have H92 := Lib.hid h92
            clear h92 h34 hsl
            by_cases hlt2 : k + 1 < t.size
            · by_cases hg : gN ((t[k + 1]).toNat : Int) = true
              · have HNX : Hid (R = unqGo (t.data.toList.drop (k + 1 + 1)) false (acc ++ [t[k + 1]]) (k + 1 + 1)) := Lib.hid (by rw [HT.out, HSL.out, go_guard_yes hlt2 _ _ hg])
                by_cases g34 : ((t[k + 1]).toNat : Int) = 34
                · have e34 : (((t[k + 1]).toNat : Int) == 34) = true := by rw [g34]; rfl
                  have f34 : (((t[k + 1]).toNat : Int) != 34) = false := by rw [g34]; rfl
                  clear hg g34
                  go_wp2_with (at_builtin; refine wpList_app _ rfl (.tmp 46) (.tmp 50) rfl w.heap.size (.slice A n c) acc rfl (hob.alloc _) (some ⟨wr.heap.size, 0, none⟩) 1 1 [t[k + 1]] rfl rfl _ (lit_bsH wr _ wr.heap.size rfl _ 1 _ rfl rfl (by decide)) (n + 1) (by rw [HN.out]; rfl) (by simp; omega) (by simp; omega) ?_; intro A6 c6 w6 hown6 hgrow6 hat6; have B6 : Below w.heap.size w w6 := grown_belowE (hbl.alloc z _) hgrow6 (by simp; omega) (fun _ h => (hob.lt _ h).1))
                  go_roundw
                  case rel => exact ⟨k + 1 + 1, n + 1, c6, A6, _, by omega, by omega, by go_num, rfl, by simp; omega, hown6, HNX, B6⟩
                  case measure => simp [intOf]; omega
                · have e34 : (((t[k + 1]).toNat : Int) == 34) = false := by simpa using g34
                  have f34 : (((t[k + 1]).toNat : Int) != 34) = true := by simpa using g34
                  have e92 : (((t[k + 1]).toNat : Int) == 92) = true := by simp [gN] at hg ⊢; omega
                  have f92 : (((t[k + 1]).toNat : Int) != 92) = false := by simp [gN] at hg ⊢; omega
                  clear hg g34
                  go_wp2_with (at_builtin; refine wpList_app _ rfl (.tmp 46) (.tmp 50) rfl w.heap.size (.slice A n c) acc rfl (hob.alloc _) (some ⟨wr.heap.size, 0, none⟩) 1 1 [t[k + 1]] rfl rfl _ (lit_bsH wr _ wr.heap.size rfl _ 1 _ rfl rfl (by decide)) (n + 1) (by rw [HN.out]; rfl) (by simp; omega) (by simp; omega) ?_; intro A6 c6 w6 hown6 hgrow6 hat6; have B6 : Below w.heap.size w w6 := grown_belowE (hbl.alloc z _) hgrow6 (by simp; omega) (fun _ h => (hob.lt _ h).1))
                  go_roundw
                  case rel => exact ⟨k + 1 + 1, n + 1, c6, A6, _, by omega, by omega, by go_num, rfl, by simp; omega, hown6, HNX, B6⟩
                  case measure => simp [intOf]; omega
              · have hg : gN ((t[k + 1]).toNat : Int) = false := by simpa using hg
                have HF : Hid (R = ([], 0)) := Lib.hid (by rw [HT.out, HSL.out, go_guard_no hlt2 _ _ hg])
                have e34 : (((t[k + 1]).toNat : Int) == 34) = false := by simp [gN] at hg ⊢; omega
                have e92 : (((t[k + 1]).toNat : Int) == 92) = false := by simp [gN] at hg ⊢; omega
                have f34 : (((t[k + 1]).toNat : Int) != 34) = true := by simp [gN] at hg ⊢; omega
                have f92 : (((t[k + 1]).toNat : Int) != 92) = true := by simp [gN] at hg ⊢; omega
                clear hg
                go_wp2_with fail
                go_ret2
                exact ⟨by rw [HF.out]; rfl, hbl⟩
            · have HF : Hid (R = ([], 0)) := Lib.hid (by rw [HT.out, HSL.out, go_end (by omega)])
              go_wp2_with fail
              go_ret2
              exact ⟨by rw [HF.out]; rfl, hbl⟩
          · have c3 : (((t[k]).toNat : Int) == 92) = false := by simpa using h92
            have HNX : Hid (R = unqGo (t.data.toList.drop (k + 1)) false (acc ++ [t[k]]) (k + 1)) := Lib.hid (by rw [HT.out, go_plain hlt _ _ h34 h92])
            clear h34 h92
            go_wp2_with (at_builtin; refine wpList_app _ rfl (.tmp 46) (.tmp 50) rfl w.heap.size (.slice A n c) acc rfl (hob.alloc _) (some ⟨wr.heap.size, 0, none⟩) 1 1 [t[k]] rfl rfl _ (lit_bsH wr _ wr.heap.size rfl _ 1 _ rfl rfl (by decide)) (n + 1) (by rw [HN.out]; rfl) (by simp; omega) (by simp; omega) ?_; intro A6 c6 w6 hown6 hgrow6 hat6; have B6 : Below w.heap.size w w6 := grown_belowE (hbl.alloc z _) hgrow6 (by simp; omega) (fun _ h => (hob.lt _ h).1))
            go_roundw
            case rel => exact ⟨k + 1, n + 1, c6, A6, _, by omega, by omega, by go_num, rfl, by simp; omega, hown6, HNX, B6⟩
            case measure => simp [intOf]; omega
      · have HF : Hid (R = ([], 0)) := Lib.hid (by rw [HT.out, go_end (by omega)])
        go_wp2_with fail
        go_ret2
        exact ⟨by rw [HF.out]; rfl, hbl⟩
  · have HF : Hid (unqB t = ([], 0)) := Lib.hid (unqB_no hpos hc)
    have hc2 : (((t[0]).toNat : Int) == 34) = false := by simpa using hc
    have hc3 : (((t[0]).toNat : Int) != 34) = true := by simpa using hc
    clear hc h0
    go_enter Tryz.func68, Tryz.ntmps68
    go_wp2_with fail
    go_ret2
    exact ⟨by rw [HF.out]; rfl, Below.refl _ _⟩
end Go.Proofs.YtcmpenmaphmifaaGreatDoor
namespace Go.Proofs.YtcmpenmaphmifaaGreatDoor
open Go.RowKit

/-- The text up to the k-th label. -/
def strR (l : List Rp) (k : Nat) : ByteArray := ⟨(123 :: Lib.join ((l.take k).map partRL) [44]).toArray⟩
theorem strR_zero (l : List Rp) : strR l 0 = ⟨#[123]⟩ := by simp [strR, Lib.join]
theorem strR_len {l : List Rp} (h : SmR2 l) (k : Nat) : (strR l k).size ≤ 1 + l.length * 4000001 := by
  have hs : SmR2 (l.take k) := fun x hx => h x (List.mem_of_mem_take hx)
  have h1 := partsR_len hs
  have h2 : (l.take k).length * 4000001 ≤ l.length * 4000001 := Nat.mul_le_mul_right _ (by rw [List.length_take]; omega)
  simp [strR, ByteArray.size]
  simp at h1 h2
  omega
theorem ba_ext {a b : ByteArray} (h : a.data.toList = b.data.toList) : a = b := by
  apply ByteArray.ext
  exact Array.toList_inj.1 h
theorem takeR_part {l : List Rp} {k : Nat} (hk : k < l.length) : (l.take (k + 1)).map partRL = (l.take k).map partRL ++ [partRL (l.getD k nilR)] := by
  rw [List.take_succ_eq_append_getElem hk, List.map_append, getR_eq hk]
  rfl
theorem strR_first {l : List Rp} {k : Nat} (hk : k < l.length) (h0 : k = 0) : strR l k ++ (l.getD k nilR).1 ++ ⟨(sgB (l.getD k nilR).2.1).toArray⟩ ++ ⟨(quoteB (l.getD k nilR).2.2).toArray⟩ = strR l (k + 1) := by
  apply ba_ext
  simp only [app_list, strR, takeR_part hk]
  subst h0
  simp [partRL, Lib.join]
theorem strR_next {l : List Rp} {k : Nat} (hk : k < l.length) (h0 : 0 < k) : (strR l k ++ ⟨#[44]⟩) ++ (l.getD k nilR).1 ++ ⟨(sgB (l.getD k nilR).2.1).toArray⟩ ++ ⟨(quoteB (l.getD k nilR).2.2).toArray⟩ = strR l (k + 1) := by
  have hne : (l.take k).map partRL ≠ [] := by
    intro e
    have h := congrArg List.length e
    rw [List.length_map, List.length_take, List.length_nil] at h
    omega
  apply ba_ext
  simp only [app_list, strR, takeR_part hk, join_snoc _ _ hne]
  simp [partRL]
theorem strR_end (l : List Rp) : strR l l.length ++ ⟨#[125]⟩ = ⟨(textR l).toArray⟩ := by
  apply ba_ext
  simp [strR, textR]

set_option maxRecDepth 100000 in
set_option maxHeartbeats 6400000 in
theorem rTextR_any (K : Nat) (A : Option Addr) (n cap : Nat) (l : List Rp) (w : World) (hln : l.length = n) (hp : Rr w K A cap l) (hK : K ≤ w.heap.size) (hS : SmR2 l) (hl : l.length ≤ 1048576) :
    Calls Tryz.prog 47 #[.slice A n cap] w (NewStr w ⟨(textR l).toArray⟩) := by
  subst hln
  have hle := hp.le
  have hmax := hp.max
  unfold maxLen at hmax
  have HZ := Lib.hid (strR_zero l)
  go_enter Tryz.func47, Tryz.ntmps47
  go_wp2
  go_loopw [3, 4] (fun v i wr => ∃ k : Nat, k ≤ l.length ∧ i = .int .i64 k ∧ v = .string (strR l k) ∧ Below w.heap.size w wr) (fun _ i _ => l.length - (intOf i).toNat)
  case atStart => exact ⟨0, Nat.zero_le _, rfl, by rw [HZ.out], Below.refl _ _⟩
  case round =>
    obtain ⟨k, hk, rfl, rfl, hbl⟩ := hrel
    have z := hbl.size
    have hsz := strR_len hS k
    by_cases hlt : k < l.length
    · obtain ⟨ad, rfl, hadK, h1, h2, h3⟩ := rr_at (hp.below (hbl.mono hK)) hlt
      have hs : (l.getD k nilR).1.size ≤ 1048576 ∧ (l.getD k nilR).2.2.size ≤ 1048576 := by rw [getR_eq hlt]; exact hS _ (List.getElem_mem hlt)
      have hql := quoteB_len (l.getD k nilR).2.2
      have hsl := sgB_len (l.getD k nilR).2.1
      by_cases h0 : k = 0
      ·
        have hg0 : decide (0 < k) = false := by simp; omega
        have hnext : (strR l k) ++ (l.getD k nilR).1 ++ ⟨(sgB (l.getD k nilR).2.1).toArray⟩ ++ ⟨(quoteB (l.getD k nilR).2.2).toArray⟩ = strR l (k + 1) := strR_first hlt h0
        have s0 : (strR l k).size ≤ (strR l k).size := Nat.le_refl _
        generalize hsk : strR l k = y0 at *
        clear hsk
        generalize l.getD k nilR = x at *
        obtain ⟨xn, xo, xv⟩ := x
        simp only at h1 h2 h3 hs hql hsl hnext
        have HQ := Lib.hid (fun W => rQuote_any xv W (by omega))
        generalize hqe : quoteB xv = q at *
        clear hqe
        have HSO := Lib.hid (rSign_any xo)
        have e0 : (⟨(sgB xo).toArray⟩ : ByteArray).size = (sgB xo).length := by simp [ByteArray.size]
        generalize (⟨(sgB xo).toArray⟩ : ByteArray) = sg at *
        generalize (sgB xo).length = sgn at *
        have a1 := str_add y0 xn (by omega)
        have s1 : (y0 ++ xn).size = y0.size + xn.size := ByteArray.size_append
        have a2 := str_add (y0 ++ xn) sg (by omega)
        have s2 : (y0 ++ xn ++ sg).size = (y0 ++ xn).size + sg.size := ByteArray.size_append
        have s3 : (⟨q.toArray⟩ : ByteArray).size = q.length := by simp [ByteArray.size]
        have a3 := str_add (y0 ++ xn ++ sg) ⟨q.toArray⟩ (by omega)
        generalize y0 ++ xn = y1 at *
        generalize y1 ++ sg = y2 at *
        generalize (⟨q.toArray⟩ : ByteArray) = qs at *
        generalize y2 ++ qs = y3 at *
        have HN := Lib.hid hnext
        clear hnext h0 s0 s1 s2 s3 e0
        go_wp2_with fail
        go_region_with (first
          | (go_at_call 67; refine (HSO.out _).mono ?_; rintro e w' ⟨rfl, rfl⟩)
          | (go_at_call 80; refine (HQ.out _).mono ?_; rintro e w1 ⟨rfl, hb1⟩; have m0 : w1.cell? (ad.add (k * 3)) = some (.string xn) := kept hb1 (by simp [h1]); have m1 : w1.cell? ⟨(ad.add (k * 3)).block, (ad.add (k * 3)).off + 1, none⟩ = some (.int .i64 xo) := kept hb1 (by simp [h2]); have HB1 := Lib.hid hb1; clear hb1))
        all_goals
          go_wp2_with fail
          have B1 : Below w.heap.size w w1 := by
            first
              | exact hbl.trans (HB1.out.mono z)
              | exact (below_drewN hbl _).trans (HB1.out.mono z)
          go_roundw
          case rel => exact ⟨k + 1, by omega, by go_num, by rw [HN.out], by first | exact B1 | exact below_drewN B1 _⟩
          case measure => simp [intOf]; omega
      ·
        have hg0 : decide (0 < k) = true := by simp; omega
        have hnext : (strR l k ++ ⟨#[44]⟩) ++ (l.getD k nilR).1 ++ ⟨(sgB (l.getD k nilR).2.1).toArray⟩ ++ ⟨(quoteB (l.getD k nilR).2.2).toArray⟩ = strR l (k + 1) := strR_next hlt (by omega)
        have a0 := str_add (strR l k) ⟨#[44]⟩ (by have : (⟨#[44]⟩ : ByteArray).size = 1 := rfl; omega)
        have s0 : (strR l k ++ ⟨#[44]⟩ : ByteArray).size = (strR l k).size + 1 := by rw [ByteArray.size_append]; rfl
        generalize hsk : strR l k = sk at *
        clear hsk
        generalize sk ++ ⟨#[44]⟩ = y0 at *
        generalize l.getD k nilR = x at *
        obtain ⟨xn, xo, xv⟩ := x
        simp only at h1 h2 h3 hs hql hsl hnext
        have HQ := Lib.hid (fun W => rQuote_any xv W (by omega))
        generalize hqe : quoteB xv = q at *
        clear hqe
        have HSO := Lib.hid (rSign_any xo)
        have e0 : (⟨(sgB xo).toArray⟩ : ByteArray).size = (sgB xo).length := by simp [ByteArray.size]
        generalize (⟨(sgB xo).toArray⟩ : ByteArray) = sg at *
        generalize (sgB xo).length = sgn at *
        have a1 := str_add y0 xn (by omega)
        have s1 : (y0 ++ xn).size = y0.size + xn.size := ByteArray.size_append
        have a2 := str_add (y0 ++ xn) sg (by omega)
        have s2 : (y0 ++ xn ++ sg).size = (y0 ++ xn).size + sg.size := ByteArray.size_append
        have s3 : (⟨q.toArray⟩ : ByteArray).size = q.length := by simp [ByteArray.size]
        have a3 := str_add (y0 ++ xn ++ sg) ⟨q.toArray⟩ (by omega)
        generalize y0 ++ xn = y1 at *
        generalize y1 ++ sg = y2 at *
        generalize (⟨q.toArray⟩ : ByteArray) = qs at *
        generalize y2 ++ qs = y3 at *
        have HN := Lib.hid hnext
        clear hnext h0 s0 s1 s2 s3 e0
        go_wp2_with fail
        go_region_with (first
          | (go_at_call 67; refine (HSO.out _).mono ?_; rintro e w' ⟨rfl, rfl⟩)
          | (go_at_call 80; refine (HQ.out _).mono ?_; rintro e w1 ⟨rfl, hb1⟩; have m0 : w1.cell? (ad.add (k * 3)) = some (.string xn) := kept hb1 (by simp [h1]); have m1 : w1.cell? ⟨(ad.add (k * 3)).block, (ad.add (k * 3)).off + 1, none⟩ = some (.int .i64 xo) := kept hb1 (by simp [h2]); have HB1 := Lib.hid hb1; clear hb1))
        all_goals
          go_wp2_with fail
          have B1 : Below w.heap.size w w1 := by
            first
              | exact hbl.trans (HB1.out.mono z)
              | exact (below_drewN hbl _).trans (HB1.out.mono z)
          go_roundw
          case rel => exact ⟨k + 1, by omega, by go_num, by rw [HN.out], by first | exact B1 | exact below_drewN B1 _⟩
          case measure => simp [intOf]; omega
    · have hks : k = l.length := by omega
      have HF := Lib.hid (strR_end l)
      have a0 := str_add (strR l k) ⟨#[125]⟩ (by have : (⟨#[125]⟩ : ByteArray).size = 1 := rfl; omega)
      rw [hks] at a0
      rw [HF.out] at a0
      rw [hks] at *
      generalize strR l l.length = sk at *
      go_wp2_with fail
      go_ret
      exact ⟨rfl, hbl⟩
end Go.Proofs.YtcmpenmaphmifaaGreatDoor
namespace Go.Proofs.YtcmpenmaphmifaaGreatDoor
open Go.RowKit

set_option maxHeartbeats 1600000 in
theorem sameR_refl (K : Nat) (A B : Option Addr) (n m cap cbp : Nat) (l : List Rp) (w : World) (hn : l.length = n) (hm : l.length = m) (ha : Rr w K A cap l) (hb : Rr w K B cbp l) :
    Calls Tryz.prog 49 #[.slice A n cap, .slice B m cbp] w fun e w' => e = .returned (.bool true) ∧ Below w.heap.size w w' := by
  subst hn hm
  have hle := ha.le
  have hmax := ha.max
  unfold maxLen at hmax
  go_enter Tryz.func49, Tryz.ntmps49
  go_wp2
  go_loopw [5] (fun i wr => ∃ k : Nat, k ≤ l.length ∧ i = .int .i64 k ∧ ∃ n, wr = w.drewN n) (fun i _ => l.length - (intOf i).toNat)
  case atStart => exact ⟨0, Nat.zero_le _, rfl, 0, rfl⟩
  case round =>
    obtain ⟨k, hk, rfl, d, rfl⟩ := hrel
    by_cases hlt : k < l.length
    · obtain ⟨ad, rfl, _, h1, h2, h3⟩ := rr_at ha hlt
      obtain ⟨bd, rfl, _, g1, g2, g3⟩ := rr_at hb hlt
      generalize l.getD k nilR = x at *
      obtain ⟨xn, xo, xv⟩ := x
      simp only at h1 h2 h3 g1 g2 g3
      go_wp2_with fail
      go_quiet (fail)
      go_wp2_with fail
      go_roundw
      case rel => exact ⟨k + 1, by omega, by go_num, _, rfl⟩
      case measure => simp [intOf]; omega
    · go_wp2_with fail
      go_ret
      exact ⟨rfl, below_drewN (Below.refl _ _) _⟩
end Go.Proofs.YtcmpenmaphmifaaGreatDoor
