/- A reader's other methods. -/
import Derived.Test.YtojkbndaleiaaaaDoorRNumR
import Derived.Test.YtojkbndaleiaaaaDoorWr2
import Derived.Test.YtojkbndaleiaaaaDoorStr
import Derived.Deep.RegionLaw
import Derived.Lib.Zigzag
namespace Go.Proofs.YtojkbndaleiaaaaDoor
open Go.RowKit

theorem ofBE_lt8 {l : List UInt8} (h : l.length ≤ 8) : ofBE l < 18446744073709551616 := Nat.lt_of_lt_of_le (ofBE_lt l) (Nat.le_trans (Nat.pow_le_pow_right (by decide) h) (by decide))
theorem nuR_lt (l : List UInt8) (e : Int) : (nuR l e).1 ≤ 18446744073709551615 := by
  unfold nuR
  split
  · simp
  · match l with
    | [] => simp
    | c :: r =>
      have hc : c.toNat < 256 := c.toNat_lt
      have := ofBE_lt8 (l := r.take (c.toNat - 247)) (by simp; omega)
      simp only
      repeat' split
      all_goals (simp only)
      all_goals omega
def unzz (n : Nat) : Int := if n % 2 = 0 then ((n / 2 : Nat) : Int) else -((n / 2 : Nat) : Int) - 1
theorem unzz_zz (n : Int) (h0 : -9223372036854775808 ≤ n) (h1 : n ≤ 9223372036854775807) : unzz (zz n) = n := by
  unfold unzz zz
  split <;> split <;> omega

theorem xor_i64c (a b : Int) : bits .xor .i64 a b = bits .xor .i64 b a := by
  show IntKind.i64.wrap ((BitVec.ofInt 64 a ^^^ BitVec.ofInt 64 b).toNat : Int) = IntKind.i64.wrap ((BitVec.ofInt 64 b ^^^ BitVec.ofInt 64 a).toNat : Int)
  rw [BitVec.xor_comm]
theorem xor_i640 (x : Nat) (hx : x < 9223372036854775808) : bits .xor .i64 (x : Int) 0 = (x : Int) := by
  show IntKind.i64.wrap ((BitVec.ofInt 64 (x : Int) ^^^ BitVec.ofInt 64 0).toNat : Int) = _
  have h0 : BitVec.ofInt 64 0 = 0#64 := by decide
  rw [h0, BitVec.xor_zero, BitVec.toNat_ofInt, IntKind.wrap_i64]
  omega
theorem unzz_eq (n : Nat) (h : n ≤ 18446744073709551615) : bits .xor .i64 ((n : Int) / 2) (wrap64 (-wrap64 (bits .and .u64 (n : Int) 1))) = unzz n := by
  rw [Lib.u64_and1 _ (by omega) (by omega)]
  have e : ((n : Int) / 2) = ((n / 2 : Nat) : Int) := by omega
  rw [e]
  unfold unzz
  split
  · have e0 : wrap64 (-wrap64 ((n : Int) % 2)) = 0 := by unfold wrap64; omega
    rw [e0]
    exact xor_i640 _ (by omega)
  · have e0 : wrap64 (-wrap64 ((n : Int) % 2)) = -1 := by unfold wrap64; omega
    rw [e0, xor_i64c]
    exact Lib.i64_not _ (by omega)

set_option maxRecDepth 100000 in
set_option maxHeartbeats 3200000 in
theorem rint_any (K b : Nat) (l : List UInt8) (e : Int) (w : World) (h : Rd w K b l e) :
    Calls Tryd.prog 15 #[.pointer (some ⟨b, 0, none⟩)] w fun en w' => en = .returned (.int .i64 (unzz (nuR l e).1)) ∧ Rst w K b (nuR l e).2.1 (nuR l e).2.2 w' := by
  have HN := Lib.hid (rnum_any K b l e w h)
  have hlt := nuR_lt l e
  clear h
  generalize (nuR l e).1 = n at *
  generalize (nuR l e).2.1 = l1 at *
  generalize (nuR l e).2.2 = e1 at *
  go_enter Tryd.func15, Tryd.ntmps15
  go_wp2_with (go_at_call 14; refine HN.out.mono ?_; rintro en w1 ⟨rfl, hr⟩)
  go_ret
  exact ⟨congrArg (fun z => Ending.returned (.int .i64 z)) (unzz_eq n hlt), hr⟩

set_option maxHeartbeats 1600000 in
theorem rflag_any (K b : Nat) (l : List UInt8) (e : Int) (w : World) (h : Rd w K b l e) :
    Calls Tryd.prog 16 #[.pointer (some ⟨b, 0, none⟩)] w fun en w' => en = .returned (.bool (((nuR l e).1 : Int) == 1)) ∧ Rst w K b (nuR l e).2.1 (if 1 < (nuR l e).1 then 10 else (nuR l e).2.2) w' := by
  have HN := Lib.hid (rnum_any K b l e w h)
  have hlt := nuR_lt l e
  clear h
  generalize (nuR l e).1 = n at *
  generalize (nuR l e).2.1 = l1 at *
  generalize (nuR l e).2.2 = e1 at *
  by_cases hn : 1 < n
  · rw [if_pos hn]
    go_enter Tryd.func16, Tryd.ntmps16
    go_wp2_with (go_at_call 14; refine HN.out.mono ?_; rintro en w1 ⟨rfl, hr⟩; obtain ⟨A4, c4, g0, g1, f0, f1, _⟩ := hr.rd.out)
    go_ret
    exact ⟨rfl, hr.rd.err 10, hr.tn.then (Tn.setCell _ _ _ _)⟩
  · rw [if_neg hn]
    go_enter Tryd.func16, Tryd.ntmps16
    go_wp2_with (go_at_call 14; refine HN.out.mono ?_; rintro en w1 ⟨rfl, hr⟩; obtain ⟨A4, c4, g0, g1, f0, f1, _⟩ := hr.rd.out)
    go_ret
    exact ⟨rfl, hr⟩

/-- A Count: the number, what is left, the error. -/
def cnR (most : Int) (l : List UInt8) (e : Int) : Nat × List UInt8 × Int :=
  if (nuR l e).2.2 ≠ 0 then (0, (nuR l e).2.1, (nuR l e).2.2) else if most < 0 then (0, (nuR l e).2.1, 8) else if most < ((nuR l e).1 : Int) then (0, (nuR l e).2.1, 8) else ((nuR l e).1, (nuR l e).2.1, 0)
theorem cnR_le (most : Int) (hm : most ≤ 9223372036854775807) (l : List UInt8) (e : Int) : (cnR most l e).1 ≤ 9223372036854775807 := by
  unfold cnR
  repeat' split
  all_goals (simp only)
  all_goals omega
set_option maxRecDepth 100000 in
set_option maxHeartbeats 3200000 in
theorem rcount_any (most : Int) (hm0 : -9223372036854775808 ≤ most) (hm : most ≤ 9223372036854775807) (K b : Nat) (l : List UInt8) (e : Int) (w : World) (h : Rd w K b l e) :
    Calls Tryd.prog 24 #[.pointer (some ⟨b, 0, none⟩), .int .i64 most] w fun en w' => en = .returned (.int .i64 ((cnR most l e).1 : Int)) ∧ Rst w K b (cnR most l e).2.1 (cnR most l e).2.2 w' := by
  have HN := Lib.hid (rnum_any K b l e w h)
  have hlt := nuR_lt l e
  clear h
  unfold cnR
  generalize (nuR l e).1 = n at *
  generalize (nuR l e).2.1 = l1 at *
  generalize (nuR l e).2.2 = e1 at *
  by_cases he : e1 ≠ 0
  · rw [if_pos he]
    go_enter Tryd.func24, Tryd.ntmps24
    go_wp2_with (first
      | (go_at_call 14; refine HN.out.mono ?_; rintro en w1 ⟨rfl, hr⟩)
      | (go_at_call 21; go_loud (refine (rerr_any K b l1 e1 _ hr.rd).mono ?_; rintro en w' ⟨rfl, rfl⟩)))
    go_ret
    exact ⟨rfl, hr⟩
  · have he0 : e1 = 0 := by omega
    subst he0
    rw [if_neg he]
    clear he
    by_cases hneg : most < 0
    · rw [if_pos hneg]
      go_enter Tryd.func24, Tryd.ntmps24
      go_wp2_with (first
        | (go_at_call 14; refine HN.out.mono ?_; rintro en w1 ⟨rfl, hr⟩; obtain ⟨A4, c4, g0, g1, f0, f1, _⟩ := hr.rd.out)
        | (go_at_call 21; go_loud (refine (rerr_any K b l1 0 _ hr.rd).mono ?_; rintro en w' ⟨rfl, rfl⟩)))
      go_ret
      exact ⟨rfl, hr.rd.err 8, hr.tn.then (Tn.setCell _ _ _ _)⟩
    · rw [if_neg hneg]
      by_cases hmo : most < (n : Int)
      · rw [if_pos hmo]
        go_enter Tryd.func24, Tryd.ntmps24
        go_wp2_with (first
          | (go_at_call 14; refine HN.out.mono ?_; rintro en w1 ⟨rfl, hr⟩; obtain ⟨A4, c4, g0, g1, f0, f1, _⟩ := hr.rd.out)
          | (go_at_call 21; go_loud (refine (rerr_any K b l1 0 _ hr.rd).mono ?_; rintro en w' ⟨rfl, rfl⟩)))
        go_ret
        exact ⟨rfl, hr.rd.err 8, hr.tn.then (Tn.setCell _ _ _ _)⟩
      · rw [if_neg hmo]
        go_enter Tryd.func24, Tryd.ntmps24
        go_wp2_with (first
          | (go_at_call 14; refine HN.out.mono ?_; rintro en w1 ⟨rfl, hr⟩)
          | (go_at_call 21; go_loud (refine (rerr_any K b l1 0 _ hr.rd).mono ?_; rintro en w' ⟨rfl, rfl⟩)))
        go_ret
        exact ⟨rfl, hr⟩

/-- A Text: the bytes, what is left, the error. -/
def txB (most : Int) (l : List UInt8) (e : Int) : List UInt8 := tkB (cnR most l e).1 (cnR most l e).2.1 (cnR most l e).2.2
def txL (most : Int) (l : List UInt8) (e : Int) : List UInt8 := tkL (cnR most l e).1 (cnR most l e).2.1 (cnR most l e).2.2
def txE (most : Int) (l : List UInt8) (e : Int) : Int := tkE (cnR most l e).1 (cnR most l e).2.1 (cnR most l e).2.2
set_option maxRecDepth 100000 in
set_option maxHeartbeats 3200000 in
theorem rtext_any (most : Int) (hm0 : -9223372036854775808 ≤ most) (hm : most ≤ 9223372036854775807) (K b : Nat) (l : List UInt8) (e : Int) (w : World) (h : Rd w K b l e) :
    Calls Tryd.prog 17 #[.pointer (some ⟨b, 0, none⟩), .int .i64 most] w fun en w' => en = .returned (.string (strB (txB most l e))) ∧ Rst w K b (txL most l e) (txE most l e) w' := by
  have HN := Lib.hid (rcount_any most hm0 hm K b l e w h)
  have hle := cnR_le most hm l e
  clear h
  unfold txB txL txE
  generalize (cnR most l e).1 = n at *
  generalize (cnR most l e).2.1 = l1 at *
  generalize (cnR most l e).2.2 = e1 at *
  have HT := Lib.hid (fun w (h : Rd w K b l1 e1) => take_any n K b l1 e1 w h hle)
  obtain ⟨s, hs⟩ : ∃ s, s = strB (tkB n l1 e1) := ⟨_, rfl⟩
  rw [← hs]
  have HS := Lib.hid hs
  clear hs
  generalize tkB n l1 e1 = t at *
  go_enter Tryd.func17, Tryd.ntmps17
  go_wp2_with (first
    | (go_at_call 24; refine HN.out.mono ?_; rintro en w1 ⟨rfl, hr⟩)
    | (go_at_call 37; go_loud (refine (HT.out w1 hr.rd).mono ?_; rintro en w2 ⟨⟨A, c, rfl, hb⟩, hr2⟩; have hq := bs_str hb rfl; rw [← HS.out] at hq)))
  go_ret
  exact ⟨rfl, hr.trans hr2⟩

set_option maxRecDepth 100000 in
set_option maxHeartbeats 1600000 in
theorem rend_any (K b : Nat) (l : List UInt8) (e : Int) (w : World) (h : Rd w K b l e) :
    Calls Tryd.prog 22 #[.pointer (some ⟨b, 0, none⟩)] w fun en w' => en = .returned (.int .i64 (if e = 0 ∧ 0 < l.length then 10 else e)) ∧ Rst w K b l (if e = 0 ∧ 0 < l.length then 10 else e) w' := by
  have HX := Lib.hid h
  have HE := Lib.hid (fun w e (h : Rd w K b l e) => rerr_any K b l e w h)
  obtain ⟨A, cap, h0, h1, f0, f1, hs⟩ := h.out
  clear h hs
  by_cases he : e = 0
  · subst he
    by_cases hl : 0 < l.length
    · rw [if_pos ⟨rfl, hl⟩]
      go_enter Tryd.func22, Tryd.ntmps22
      go_wp2_with (first
        | (go_at_call 21; refine (HE.out _ 0 HX.out).mono ?_; rintro en w' ⟨rfl, rfl⟩)
        | (go_at_call 21; refine (HE.out _ 10 (HX.out.err 10)).mono ?_; rintro en w' ⟨rfl, rfl⟩))
      go_ret
      exact ⟨rfl, HX.out.err 10, Tn.setCell _ _ _ _⟩
    · rw [if_neg (fun h => hl h.2)]
      go_enter Tryd.func22, Tryd.ntmps22
      go_wp2_with (go_at_call 21; refine (HE.out _ 0 HX.out).mono ?_; rintro en w' ⟨rfl, rfl⟩)
      go_ret
      exact ⟨rfl, Rst.refl HX.out⟩
  · rw [if_neg (fun h => he h.1)]
    have hne : (e == 0) = false := by simpa using he
    go_enter Tryd.func22, Tryd.ntmps22
    go_wp2_with (go_at_call 21; refine (HE.out _ e HX.out).mono ?_; rintro en w' ⟨rfl, rfl⟩)
    go_ret
    exact ⟨rfl, Rst.refl HX.out⟩
end Go.Proofs.YtojkbndaleiaaaaDoor
