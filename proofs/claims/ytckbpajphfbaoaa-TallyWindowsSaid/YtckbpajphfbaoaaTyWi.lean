/- TallyWindows: its walk. -/
import Derived.Test.YtckbpajphfbaoaaTyV3
import Derived.Test.YtckbpajphfbaoaaTyR
namespace Go.Proofs.Ytckbpajphfbaoaa
open Go.RowKit

theorem winGo_len {op b st : Int} : ∀ (f : Nat) (t : Int) (l acc : List Smp), (winGo op b st f t l acc).2.length ≤ acc.length + l.length
  | 0, _, l, acc => by unfold winGo; simp
  | f + 1, t, l, acc => by
    unfold winGo
    split
    · split
      · simp
      · split
        · exact winGo_len f _ l acc
        · split
          · have h := winGo_len (op := op) (b := b) (st := st) f (t + min st (b - t)) (l.drop (ah l (t + min st (b - t)))) (acc ++ [(t, (foldB op (l.take (ah l (t + min st (b - t))))).1)])
            have hle := ah_le l (t + min st (b - t))
            rw [List.length_append, List.length_drop] at h
            simp only [List.length_cons, List.length_nil] at h
            omega
          · simp
    · simp
theorem windows_len (op : Int) (l : List Smp) (a b st : Int) : (windowsB op l a b st).2.length ≤ l.length := by
  unfold windowsB
  split
  · simp
  · split
    · simp
    · have h := winGo_len (op := op) (b := b) (st := st) (b - a).toNat a (l.drop (ah l a)) []
      rw [List.length_drop] at h
      simp at h
      omega
set_option maxRecDepth 100000 in
set_option maxHeartbeats 1600000 in
theorem tywindows_any (op : Int) (A0 : Option Addr) (cap0 : Nat) (l : List Smp) (a b st : Int) (w : World) (h0 : Sr encS 2 w w.heap.size A0 cap0 l) (ho : ∀ u ∈ l, Sok u) (hl : l.length * 16 ≤ 140737488355328) (_h1 : -9223372036854775808 ≤ op ∧ op ≤ 9223372036854775807)
    (_ha : -9223372036854775808 ≤ a ∧ a ≤ 9223372036854775807) (_hb : -9223372036854775808 ≤ b ∧ b ≤ 9223372036854775807) (hst : -9223372036854775808 ≤ st ∧ st ≤ 9223372036854775807) :
    Calls Try.prog 4 #[.int .i64 op, .slice A0 l.length cap0, .int .i64 a, .int .i64 b, .int .i64 st] w (Ok0 w) := by
  have HRi := Lib.hid (rising_any w.heap.size A0 l.length cap0 l w rfl h0 (Nat.le_refl _))
  have HTo := Lib.hid (fun W (h : Below w.heap.size w W) => to_any w.heap.size A0 l.length cap0 l W rfl (h0.below h) h.size hl)
  have HWi := Lib.hid (fun (A : Option Addr) (cap : Nat) W (h : Sr encS 2 W W.heap.size A cap l) => windows_any op W.heap.size A l.length cap l a b st W rfl h (Nat.le_refl _) ho hst.2)
  have HRw := Lib.hid (fun W (h : Below w.heap.size w W) => rwindows_any op w.heap.size A0 l.length cap0 l a b st W rfl (h0.below h) h.size ho hst.2)
  have hmax0 := h0.max
  have hle0 := h0.le
  unfold maxLen at hmax0
  have hsame : Srt l → windowsB op l a b st = rwinB op l a b st := fun h => windows_same h
  have hwlen : (windowsB op l a b st).2.length * 16 ≤ 140737488355328 := by have := windows_len op l a b st; omega
  clear h0 ho hl _h1 _ha _hb hst
  cases hr : risD l with
  | false =>
    rw [hr] at HRi
    clear hr hsame hwlen HRw
    generalize windowsB op l a b st = R at *
    go_enter Try.func4, Try.ntmps4
    go_wp2_with fail
    refine HRi.out.mono ?_
    rintro e w1 ⟨rfl, b1⟩
    have HB1 := Lib.hid b1
    clear b1 HRi
    go_wp2_with fail
    refine (HTo.out _ HB1.out).mono ?_
    rintro e w2 ⟨A, cap, rfl, so2, b2⟩
    have HS2 := Lib.hid (so2.sr encS_len).1
    have HB2 := Lib.hid (HB1.out.trans (b2.mono HB1.out.size))
    clear b2 so2 HB1 HTo
    go_wp2_with fail
    refine (HWi.out A cap _ HS2.out).mono ?_
    rintro e w3 ⟨B, cb, rfl, so3, b3⟩
    have HB3 := Lib.hid (HB2.out.trans (b3.mono HB2.out.size))
    clear b3 so3 HB2 HWi HS2
    go_wp2_with fail
    refine (awake_any _).mono ?_
    rintro e w4 ⟨rfl, b4⟩
    have HB4 := HB3.out.trans (b4.mono HB3.out.size)
    go_wp2_with fail
    go_ret
    exact ⟨rfl, HB4⟩
  | true =>
    rw [hr] at HRi
    have hsm := hsame (srt_of (of_risD hr))
    rw [← hsm] at HRw
    clear hr hsame hsm
    generalize windowsB op l a b st = R at *
    obtain ⟨er, c⟩ := R
    simp only at hwlen
    by_cases hbig : 300 < l.length
    · have i1 : (300 : Int) < l.length := by omega
      clear HRw hwlen
      go_enter Try.func4, Try.ntmps4
      go_wp2_with fail
      refine HRi.out.mono ?_
      rintro e w1 ⟨rfl, b1⟩
      have HB1 := Lib.hid b1
      clear b1 HRi
      go_wp2_with fail
      refine (HTo.out _ HB1.out).mono ?_
      rintro e w2 ⟨A, cap, rfl, so2, b2⟩
      have HS2 := Lib.hid (so2.sr encS_len).1
      have HB2 := Lib.hid (HB1.out.trans (b2.mono HB1.out.size))
      clear b2 so2 HB1 HTo
      go_wp2_with fail
      refine (HWi.out A cap _ HS2.out).mono ?_
      rintro e w3 ⟨B, cb, rfl, so3, b3⟩
      have HB3 := Lib.hid (HB2.out.trans (b3.mono HB2.out.size))
      clear b3 so3 HB2 HWi HS2
      go_wp2_with fail
      refine (awake_any _).mono ?_
      rintro e w4 ⟨rfl, b4⟩
      have HB4 := HB3.out.trans (b4.mono HB3.out.size)
      go_wp2_with fail
      go_ret
      exact ⟨rfl, HB4⟩
    have i1 : ¬ (300 : Int) < l.length := by omega
    go_enter Try.func4, Try.ntmps4
    go_wp2_with fail
    refine HRi.out.mono ?_
    rintro e w1 ⟨rfl, b1⟩
    have HB1 := Lib.hid b1
    clear b1 HRi
    go_wp2_with fail
    refine (HTo.out _ HB1.out).mono ?_
    rintro e w2 ⟨A, cap, rfl, so2, b2⟩
    have HS2 := Lib.hid (so2.sr encS_len).1
    have HB2 := Lib.hid (HB1.out.trans (b2.mono HB1.out.size))
    clear b2 so2 HB1 HTo
    go_wp2_with fail
    refine (HWi.out A cap _ HS2.out).mono ?_
    rintro e w3 ⟨B, cb, rfl, so3, b3⟩
    have HS3 := Lib.hid (so3.sr encS_len).1
    have HB3 := Lib.hid (HB2.out.trans (b3.mono HB2.out.size))
    clear b3 so3 HB2 HWi HS2
    simp only
    go_wp2_with fail
    refine (HRw.out _ HB3.out).mono ?_
    rintro e w4 ⟨C, cc, rfl, so4, b4⟩
    have HS4 := Lib.hid ((HS3.out.below b4).more b4.size)
    have HR4 := Lib.hid (so4.sr encS_len).1
    have HB4 := Lib.hid (HB3.out.trans (b4.mono HB3.out.size))
    clear b4 so4 HB3 HRw HS3
    simp only
    go_wp2_with fail
    refine (awake_any _).mono ?_
    rintro e w5 ⟨rfl, b5⟩
    have HS5 := Lib.hid ((HS4.out.below b5).more b5.size)
    have HR5 := Lib.hid ((HR4.out.below b5).more b5.size)
    have HB5 := Lib.hid (HB4.out.trans (b5.mono HB4.out.size))
    clear b5 HS4 HR4 HB4
    go_wp2_with fail
    refine (from_any w5.heap.size B c.length cb c w5 rfl HS5.out (Nat.le_refl _) hwlen).mono ?_
    rintro e w6 ⟨D, cd, rfl, so6, b6⟩
    have HS6 := Lib.hid (so6.sr encS_len).1
    have HR6 := Lib.hid ((HR5.out.below b6).more b6.size)
    have HB6 := Lib.hid (HB5.out.trans (b6.mono HB5.out.size))
    clear b6 so6 HS5 HR5 HB5
    go_wp2_with fail
    refine (same_any rfl HS6.out HR6.out (Nat.le_refl _)).mono ?_
    rintro e w7 ⟨rfl, b7⟩
    have HB7 := HB6.out.trans (b7.mono HB6.out.size)
    go_wp2_with fail
    go_ret
    exact ⟨rfl, HB7⟩
end Go.Proofs.Ytckbpajphfbaoaa
