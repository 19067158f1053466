/- The program's Parse. -/
import Derived.Test.YtpkadghdnlkfiaaLbPr
namespace Go.Proofs.Ytpkadghdnlkfiaa
open Go.RowKit

theorem mkP_sm {l : List UInt8} (h : l.length ≤ 4096) : (mkP (partP l).1).1.size ≤ 1048576 ∧ (mkP (partP l).1).2.size ≤ 1048576 := by
  have := partP_len l
  have e1 : (mkP (partP l).1).1.size = (partP l).1.1.length := by simp [mkP, ByteArray.size]
  have e2 : (mkP (partP l).1).2.size = (partP l).1.2.length := by simp [mkP, ByteArray.size]
  omega
theorem Sm.snoc {acc : List Pp} {x : Pp} (h : Sm acc) (hx : x.1.size ≤ 1048576 ∧ x.2.size ≤ 1048576) : Sm (acc ++ [x]) := by
  intro y hy
  rcases List.mem_append.1 hy with h' | h'
  · exact h y h'
  · simp at h'; subst h'; exact hx
theorem readGo_sm : ∀ (f : Nat) (l : List UInt8) (acc m : List Pp), l.length ≤ 4096 → Sm acc → readGo f l acc = some m → Sm m
  | 0, _, _, _, _, _, h => by simp [readGo] at h
  | f + 1, l, acc, m, hl, ha, h => by
    rw [readGo] at h
    have hx := Sm.snoc ha (mkP_sm hl)
    split at h
    · cases h
    · split at h
      · injection h with h
        subst h
        exact hx
      · split at h
        · exact readGo_sm f _ _ m (by rw [List.length_drop]; omega) hx h
        · cases h
theorem readB_sm {t : List UInt8} {m : List Pp} (ht : t.length ≤ 4096) (h : readB t = some m) : Sm m := by
  unfold readB at h
  split at h
  · injection h with h
    subst h
    intro x hx; simp at hx
  · split at h
    · exact readGo_sm _ _ _ m (by rw [List.length_drop]; omega) (fun x hx => by simp at hx) h
    · cases h

def ParsePost (w : World) (t : List UInt8) (e : Ending) (w' : World) : Prop :=
  ∃ A c, e = .returned (.tuple #[.slice A (parseL t).length c, .int .i64 (parseE t)]) ∧ La w' w.heap.size (.slice A (parseL t).length c) (parseL t) ∧ Below w.heap.size w w'
theorem parse_long {t : List UInt8} (h : 4096 < t.length) : parseE t = 10 ∧ parseL t = [] := by simp [parseE, parseL, h]
theorem parse_none {t : List UInt8} (h : ¬ 4096 < t.length) (hr : readB t = none) : parseE t = 10 ∧ parseL t = [] := by simp [parseE, parseL, h, hr]
theorem parse_some {t : List UInt8} {l : List Pp} (h : ¬ 4096 < t.length) (hr : readB t = some l) (hR : rightL l = true) : parseE t = 0 ∧ parseL t = l := by simp [parseE, parseL, h, hr, hR]
theorem parse_no {t : List UInt8} {l : List Pp} (h : ¬ 4096 < t.length) (hr : readB t = some l) (hR : rightL l = false) : parseE t = 40 ∧ parseL t = [] := by simp [parseE, parseL, h, hr, hR]
theorem ret_parse {A : Option Addr} {n m c : Nat} {a b : Int} (h : n = m) (h2 : a = b) : Ending.returned (.tuple #[.slice A n c, .int .i64 a]) = .returned (.tuple #[.slice A m c, .int .i64 b]) := by rw [h, h2]

set_option maxHeartbeats 1600000 in
theorem parse_any (t : ByteArray) (w : World) (hm : Mx w) (hs : t.size ≤ maxLen) : Calls Try.prog 26 #[.string t] w (ParsePost w t.data.toList) := by
  unfold maxLen at hs
  have hl : t.data.toList.length = t.size := by simp
  unfold ParsePost
  by_cases h1 : 4096 < t.size
  · obtain ⟨e1, e2⟩ := parse_long (t := t.data.toList) (by omega)
    have E1 := Lib.hid e1
    have E2 := Lib.hid e2
    clear e1 e2 hl
    go_enter Try.func26, Try.ntmps26
    go_wp2
    go_ret2
    refine ⟨none, 0, ret_parse (by rw [E2.out]; rfl) E1.out.symm, ?_, Below.refl _ _⟩
    rw [E2.out]
    exact So.empty _ _ _ _ _
  · have hr := read_any t w (by omega) hm
    have HRD := Lib.hid hr
    clear hr hm
    cases hb : readB t.data.toList with
    | none =>
      obtain ⟨e1, e2⟩ := parse_none (t := t.data.toList) (by omega) hb
      have E1 := Lib.hid e1
      have E2 := Lib.hid e2
      rw [hb] at HRD
      clear e1 e2 hl hb
      go_enter Try.func26, Try.ntmps26
      go_wp2_with fail
      refine HRD.out.mono ?_
      rintro e w1 ⟨A1, c1, rfl, ha1, hb1⟩
      go_wp2_with fail
      go_ret2
      refine ⟨none, 0, ret_parse (by rw [E2.out]; rfl) E1.out.symm, ?_, hb1⟩
      rw [E2.out]
      exact So.empty _ _ _ _ _
    | some l =>
      have hsm := readB_sm (by omega) hb
      rw [hb] at HRD
      have hRD : Calls Try.prog 43 #[.string t] w fun e w' => ∃ A c, e = .returned (.tuple #[.slice A l.length c, .bool true]) ∧ La w' w.heap.size (.slice A l.length c) l ∧ Below w.heap.size w w' := HRD.out
      have HRD2 := Lib.hid hRD
      clear HRD hRD
      by_cases hR : rightL l = true
      · obtain ⟨e1, e2⟩ := parse_some (t := t.data.toList) (by omega) hb hR
        have E1 := Lib.hid e1
        have E2 := Lib.hid e2
        have HR := Lib.hid hR
        clear e1 e2 hl hb hR
        go_enter Try.func26, Try.ntmps26
        go_wp2_with fail
        refine HRD2.out.mono ?_
        rintro e w1 ⟨A1, c1, rfl, ha1, hb1⟩
        have hrt := right_any w1.heap.size A1 l.length c1 l w1 rfl (So.sr encP_len ha1).1 (Nat.le_refl _) hsm
        rw [HR.out] at hrt
        have HRT := Lib.hid hrt
        clear hrt
        go_wp2_with fail
        refine HRT.out.mono ?_
        rintro e w2 ⟨rfl, hb2⟩
        go_wp2_with fail
        go_ret2
        refine ⟨A1, c1, ret_parse (by rw [E2.out]) E1.out.symm, ?_, hb1.trans (hb2.mono hb1.size)⟩
        rw [E2.out]
        exact So.below ha1 hb2
      · have hR : rightL l = false := by simpa using hR
        obtain ⟨e1, e2⟩ := parse_no (t := t.data.toList) (by omega) hb hR
        have E1 := Lib.hid e1
        have E2 := Lib.hid e2
        have HR := Lib.hid hR
        clear e1 e2 hl hb hR
        go_enter Try.func26, Try.ntmps26
        go_wp2_with fail
        refine HRD2.out.mono ?_
        rintro e w1 ⟨A1, c1, rfl, ha1, hb1⟩
        have hrt := right_any w1.heap.size A1 l.length c1 l w1 rfl (So.sr encP_len ha1).1 (Nat.le_refl _) hsm
        rw [HR.out] at hrt
        have HRT := Lib.hid hrt
        clear hrt
        go_wp2_with fail
        refine HRT.out.mono ?_
        rintro e w2 ⟨rfl, hb2⟩
        go_wp2_with fail
        go_ret2
        refine ⟨none, 0, ret_parse (by rw [E2.out]; rfl) E1.out.symm, ?_, hb1.trans (hb2.mono hb1.size)⟩
        rw [E2.out]
        exact So.empty _ _ _ _ _
end Go.Proofs.Ytpkadghdnlkfiaa
