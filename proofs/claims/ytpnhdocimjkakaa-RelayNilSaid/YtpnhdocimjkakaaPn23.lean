/- The document's reader of any bytes: TakeInt, TakeCount, End. -/
import Derived.Test.YtpnhdocimjkakaaPn21
namespace Go.Proofs.Ytpnhdocimjkakaa
open Go.RowKit Go.BigFrame

variable {K9 : Nat}

theorem Mt.le {w w' : World} {b : Nat} {B : List UInt8} {r : Nat × List UInt8 × Int} (h : Mt K9 w b B r w') : ∃ a', Mr K9 w' b B a' r.2.2 ∧ (r.2.2 = 0 → B.drop a' = r.2.1) := h.out
def MintP (K9 : Nat) (w : World) (b : Nat) (B : List UInt8) (r : Nat × List UInt8 × Int) (en : Ending) (w' : World) : Prop := en = .returned (.int .i64 (unzz r.1)) ∧ Mt K9 w b B r w'
set_option maxHeartbeats 1600000 in
theorem mint_any2 (b a : Nat) (B : List UInt8) (E : Int) (w : World) (h : Mr K9 w b B a E) :
    Calls Try.prog 57 #[.pointer (some ⟨b, 0, none⟩)] w (MintP K9 w b B (nuR (B.drop a) E)) := by
  have HM := Lib.hid (mtake_any b a B E w h)
  have hlt := nuR_lt (B.drop a) E
  clear h
  generalize nuR (B.drop a) E = r at *
  obtain ⟨n, l1, e1⟩ := r
  simp only at hlt
  by_cases hn : n % 2 = 0
  · obtain ⟨q, rfl⟩ : ∃ q, n = 2 * q := ⟨n / 2, by omega⟩
    have d0 : (((2 * q : Nat) : Int) % 2 == 0) = true := by simp
    have e2 : ((2 * q : Nat) : Int) / 2 = (q : Int) := by omega
    have e3 : 2 * q / 2 = q := by omega
    have HV : Hid ((q : Int) = unzz (2 * q)) := Lib.hid (by unfold unzz; rw [if_pos hn, e3])
    have HE := Lib.hid e2
    clear hn e3 e2
    go_enter Try.func57, Try.ntmps57
    go_wp2_with fail
    refine HM.out.mono ?_
    rintro en w1 ⟨rfl, ht⟩
    have HT := Lib.hid ht
    clear ht
    simp only
    generalize hz : ((2 * q : Nat) : Int) = z at *
    have z0 : 0 ≤ z := by omega
    have z1 : z ≤ 18446744073709551615 := by omega
    have HZ := Lib.hid hz
    clear hz
    go_wp2_with fail
    go_ret
    exact ⟨ret_int (by have h9 := HE.out; have h8 := HV.out; show _ = unzz (2 * q); omega), HT.out⟩
  · obtain ⟨q, rfl⟩ : ∃ q, n = 2 * q + 1 := ⟨n / 2, by omega⟩
    have d0 : (((2 * q + 1 : Nat) : Int) % 2 == 0) = false := by first | (simp; done) | (simp; omega)
    have e2 : ((2 * q + 1 : Nat) : Int) / 2 = (q : Int) := by omega
    have e3 : (2 * q + 1) / 2 = q := by omega
    have HV : Hid (-(q : Int) - 1 = unzz (2 * q + 1)) := Lib.hid (by unfold unzz; rw [if_neg hn, e3])
    have HE := Lib.hid e2
    clear hn e3 e2
    go_enter Try.func57, Try.ntmps57
    go_wp2_with fail
    refine HM.out.mono ?_
    rintro en w1 ⟨rfl, ht⟩
    have HT := Lib.hid ht
    clear ht
    simp only
    generalize hz : ((2 * q + 1 : Nat) : Int) = z at *
    have z0 : 0 ≤ z := by omega
    have z1 : z ≤ 18446744073709551615 := by omega
    have HZ := Lib.hid hz
    clear hz
    go_wp2_with fail
    go_ret
    exact ⟨ret_int (by have h9 := HE.out; have h8 := HV.out; show _ = unzz (2 * q + 1); omega), HT.out⟩
set_option maxRecDepth 100000 in
set_option maxHeartbeats 1600000 in
theorem mcount_any2 (b a : Nat) (B : List UInt8) (E : Int) (w : World) (h : Mr K9 w b B a E) :
    Calls Try.prog 110 #[.pointer (some ⟨b, 0, none⟩), .int .i64 8] w fun en w' => en = .returned (.int .i64 ((cnR 8 (B.drop a) E).1 : Int)) ∧ Mt K9 w b B (cnR 8 (B.drop a) E) w' := by
  have HM := Lib.hid (mtake_any b a B E w h)
  have hlt := nuR_lt (B.drop a) E
  clear h
  unfold cnR
  generalize nuR (B.drop a) E = r at *
  obtain ⟨n, l1, e1⟩ := r
  simp only at hlt ⊢
  by_cases he : e1 ≠ 0
  · rw [if_pos he]
    have d1 : (e1 != 0) = true := by simpa using he
    have HE := Lib.hid he
    clear he
    go_enter Try.func110, Try.ntmps110
    go_wp2_with fail
    refine HM.out.mono ?_
    rintro en w1 ⟨rfl, ⟨a', hr, hd⟩, ht⟩
    have y2 := hr.c2
    have HR := Lib.hid hr
    have HT := Lib.hid ht
    clear hr hd ht
    go_wp2_with fail
    go_ret
    exact ⟨rfl, ⟨a', HR.out, fun e => absurd e HE.out⟩, HT.out⟩
  · obtain rfl : e1 = 0 := by omega
    rw [if_neg he, if_neg (by decide)]
    clear he
    by_cases h8 : (8 : Int) < (n : Int)
    · rw [if_pos h8]
      have d8 : decide ((8 : Int) < (n : Int)) = true := by simpa using h8
      have d8' : decide (8 < n) = true := by simp; omega
      clear h8
      go_enter Try.func110, Try.ntmps110
      go_wp2_with fail
      refine HM.out.mono ?_
      rintro en w1 ⟨rfl, ⟨a', hr, hd⟩, ht⟩
      have y2 := hr.c2
      have yf := hr.fr 2
      have HR := Lib.hid hr
      have HT := Lib.hid ht
      clear hr hd ht
      go_wp2_with fail
      go_ret
      exact ⟨rfl, ⟨a', HR.out.err 8, fun e => absurd e (by simp)⟩, HT.out.then (Tn.setCell _ _ _ _)⟩
    · rw [if_neg h8]
      have d8 : decide ((8 : Int) < (n : Int)) = false := by simpa using h8
      have d8' : decide (8 < n) = false := by simp; omega
      have hn8 : (n : Int) ≤ 8 := by omega
      clear h8
      go_enter Try.func110, Try.ntmps110
      go_wp2_with fail
      refine HM.out.mono ?_
      rintro en w1 ⟨rfl, ⟨a', hr, hd⟩, ht⟩
      have y2 := hr.c2
      have HR := Lib.hid hr
      have HD := Lib.hid hd
      have HT := Lib.hid ht
      clear hr hd ht
      go_wp2_with fail
      go_ret
      exact ⟨rfl, ⟨a', HR.out, fun _ => HD.out trivial⟩, HT.out⟩
set_option maxRecDepth 100000 in
set_option maxHeartbeats 1600000 in
theorem mend_any2 (b a : Nat) (B : List UInt8) (E : Int) (w : World) (h : Mr K9 w b B a E) :
    Calls Try.prog 60 #[.pointer (some ⟨b, 0, none⟩)] w fun en w' => en = .returned (.int .i64 (if E = 0 ∧ a < B.length then 10 else E)) ∧ Tn (· = b) w w' := by
  obtain ⟨A, cap, h0, hs⟩ := h.out
  have h1 := h.c1
  have h2 := h.c2
  have f2 := h.fr 2
  have hlc := hs.le
  have hmx := hs.max
  unfold maxLen at hmx
  have hal := h.le
  clear h hs
  by_cases he : E = 0
  · subst he
    by_cases hl : a < B.length
    · rw [if_pos ⟨rfl, hl⟩]
      have d1 : decide ((a : Int) < (B.length : Int)) = true := by simp; omega
      have d2 : decide (a < B.length) = true := by simp; omega
      clear hl
      go_enter Try.func60, Try.ntmps60
      go_wp2_with fail
      go_big_quiet (fail)
      go_wp2_with fail
      go_ret
      exact ⟨rfl, (TnN _ _).then (Tn.setCell _ _ _ _)⟩
    · rw [if_neg (fun h => hl h.2)]
      have d1 : decide ((a : Int) < (B.length : Int)) = false := by simp; omega
      have d2 : decide (a < B.length) = false := by simp; omega
      clear hl
      go_enter Try.func60, Try.ntmps60
      go_wp2_with fail
      go_big_quiet (fail)
      go_wp2_with fail
      go_ret
      exact ⟨rfl, TnN _ _⟩
  · rw [if_neg (fun h => he h.1)]
    have d0 : (E == 0) = false := by simpa using he
    clear he
    go_enter Try.func60, Try.ntmps60
    go_wp2_with fail
    go_big_quiet (fail)
    go_wp2_with fail
    go_ret
    exact ⟨rfl, TnN _ _⟩
end Go.Proofs.Ytpnhdocimjkakaa
