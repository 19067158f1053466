/- The document's Int, Flag, Text, Stamp behind bytes. -/
import Derived.Test.YtpnhdocimjkakaaPn17
import Derived.Test.YtpnhdocimjkakaaPn16
import Derived.Test.YtpnhdocimjkakaaPn6
import Derived.Deep.RegionLaw
import Derived.Lib.Zigzag
import Derived.Test.YtpnhdocimjkakaaPn11
namespace Go.Proofs.Ytpnhdocimjkakaa
open Go.RowKit

theorem ofBE_lt8 {l : List UInt8} (h : l.length ≤ 8) : ofBE l < 18446744073709551616 := Nat.lt_of_lt_of_le (ofBE_lt l) (Nat.le_trans (Nat.pow_le_pow_right (by decide) h) (by decide))
theorem nuR_lt (l : List UInt8) (e : Int) : (nuR l e).1 ≤ 18446744073709551615 := by
  unfold nuR
  split
  · simp
  · match l with
    | [] => simp
    | c :: r =>
      have hc : c.toNat < 256 := c.toNat_lt
      have := ofBE_lt8 (l := r.take (c.toNat - 247)) (by simp; omega)
      simp only
      repeat' split
      all_goals (simp only)
      all_goals omega
def unzz (n : Nat) : Int := if n % 2 = 0 then ((n / 2 : Nat) : Int) else -((n / 2 : Nat) : Int) - 1
theorem unzz_zz (n : Int) (h0 : -9223372036854775808 ≤ n) (h1 : n ≤ 9223372036854775807) : unzz (zz n) = n := by
  unfold unzz zz
  split <;> split <;> omega

theorem xor_i64c (a b : Int) : bits .xor .i64 a b = bits .xor .i64 b a := by
  show IntKind.i64.wrap ((BitVec.ofInt 64 a ^^^ BitVec.ofInt 64 b).toNat : Int) = IntKind.i64.wrap ((BitVec.ofInt 64 b ^^^ BitVec.ofInt 64 a).toNat : Int)
  rw [BitVec.xor_comm]
theorem xor_i640 (x : Nat) (hx : x < 9223372036854775808) : bits .xor .i64 (x : Int) 0 = (x : Int) := by
  show IntKind.i64.wrap ((BitVec.ofInt 64 (x : Int) ^^^ BitVec.ofInt 64 0).toNat : Int) = _
  have h0 : BitVec.ofInt 64 0 = 0#64 := by decide
  rw [h0, BitVec.xor_zero, BitVec.toNat_ofInt, IntKind.wrap_i64]
  omega
theorem unzz_eq (n : Nat) (h : n ≤ 18446744073709551615) : bits .xor .i64 ((n : Int) / 2) (wrap64 (-wrap64 (bits .and .u64 (n : Int) 1))) = unzz n := by
  rw [Lib.u64_and1 _ (by omega) (by omega)]
  have e : ((n : Int) / 2) = ((n / 2 : Nat) : Int) := by omega
  rw [e]
  unfold unzz
  split
  · have e0 : wrap64 (-wrap64 ((n : Int) % 2)) = 0 := by unfold wrap64; omega
    rw [e0]
    exact xor_i640 _ (by omega)
  · have e0 : wrap64 (-wrap64 ((n : Int) % 2)) = -1 := by unfold wrap64; omega
    rw [e0, xor_i64c]
    exact Lib.i64_not _ (by omega)

set_option maxRecDepth 100000 in
set_option maxHeartbeats 3200000 in
theorem rint_any (K b : Nat) (l : List UInt8) (e : Int) (w : World) (h : Rd w K b l e) :
    Calls Try.prog 53 #[.pointer (some ⟨b, 0, none⟩)] w fun en w' => en = .returned (.int .i64 (unzz (nuR l e).1)) ∧ Rst w K b (nuR l e).2.1 (nuR l e).2.2 w' := by
  have HN := Lib.hid (rnum_any K b l e w h)
  have hlt := nuR_lt l e
  clear h
  generalize (nuR l e).1 = n at *
  generalize (nuR l e).2.1 = l1 at *
  generalize (nuR l e).2.2 = e1 at *
  go_enter Try.func53, Try.ntmps53
  go_wp2_with (go_at_call 93; refine HN.out.mono ?_; rintro en w1 ⟨rfl, hr⟩)
  go_ret
  exact ⟨congrArg (fun z => Ending.returned (.int .i64 z)) (unzz_eq n hlt), hr⟩

/-- A Count: the number, what is left, the error. -/
def cnR (most : Int) (l : List UInt8) (e : Int) : Nat × List UInt8 × Int :=
  if (nuR l e).2.2 ≠ 0 then (0, (nuR l e).2.1, (nuR l e).2.2) else if most < 0 then (0, (nuR l e).2.1, 8) else if most < ((nuR l e).1 : Int) then (0, (nuR l e).2.1, 8) else ((nuR l e).1, (nuR l e).2.1, 0)
theorem cnR_le (most : Int) (hm : most ≤ 9223372036854775807) (l : List UInt8) (e : Int) : (cnR most l e).1 ≤ 9223372036854775807 := by
  unfold cnR
  repeat' split
  all_goals (simp only)
  all_goals omega
set_option maxRecDepth 100000 in
set_option maxHeartbeats 3200000 in
theorem rcount_any (most : Int) (hm0 : -9223372036854775808 ≤ most) (hm : most ≤ 9223372036854775807) (K b : Nat) (l : List UInt8) (e : Int) (w : World) (h : Rd w K b l e) :
    Calls Try.prog 107 #[.pointer (some ⟨b, 0, none⟩), .int .i64 most] w fun en w' => en = .returned (.int .i64 ((cnR most l e).1 : Int)) ∧ Rst w K b (cnR most l e).2.1 (cnR most l e).2.2 w' := by
  have HN := Lib.hid (rnum_any K b l e w h)
  have hlt := nuR_lt l e
  clear h
  unfold cnR
  generalize (nuR l e).1 = n at *
  generalize (nuR l e).2.1 = l1 at *
  generalize (nuR l e).2.2 = e1 at *
  by_cases he : e1 ≠ 0
  · rw [if_pos he]
    go_enter Try.func107, Try.ntmps107
    go_wp2_with (first
      | (go_at_call 93; refine HN.out.mono ?_; rintro en w1 ⟨rfl, hr⟩)
      | (go_at_call 108; go_loud (refine (rerr_any K b l1 e1 _ hr.rd).mono ?_; rintro en w' ⟨rfl, rfl⟩)))
    go_ret
    exact ⟨rfl, hr⟩
  · have he0 : e1 = 0 := by omega
    subst he0
    rw [if_neg he]
    clear he
    by_cases hneg : most < 0
    · rw [if_pos hneg]
      go_enter Try.func107, Try.ntmps107
      go_wp2_with (first
        | (go_at_call 93; refine HN.out.mono ?_; rintro en w1 ⟨rfl, hr⟩; obtain ⟨A4, c4, g0, g1, f0, f1, _⟩ := hr.rd.out)
        | (go_at_call 108; go_loud (refine (rerr_any K b l1 0 _ hr.rd).mono ?_; rintro en w' ⟨rfl, rfl⟩)))
      go_ret
      exact ⟨rfl, hr.rd.err 8, hr.tn.then (Tn.setCell _ _ _ _)⟩
    · rw [if_neg hneg]
      by_cases hmo : most < (n : Int)
      · rw [if_pos hmo]
        go_enter Try.func107, Try.ntmps107
        go_wp2_with (first
          | (go_at_call 93; refine HN.out.mono ?_; rintro en w1 ⟨rfl, hr⟩; obtain ⟨A4, c4, g0, g1, f0, f1, _⟩ := hr.rd.out)
          | (go_at_call 108; go_loud (refine (rerr_any K b l1 0 _ hr.rd).mono ?_; rintro en w' ⟨rfl, rfl⟩)))
        go_ret
        exact ⟨rfl, hr.rd.err 8, hr.tn.then (Tn.setCell _ _ _ _)⟩
      · rw [if_neg hmo]
        go_enter Try.func107, Try.ntmps107
        go_wp2_with (first
          | (go_at_call 93; refine HN.out.mono ?_; rintro en w1 ⟨rfl, hr⟩)
          | (go_at_call 108; go_loud (refine (rerr_any K b l1 0 _ hr.rd).mono ?_; rintro en w' ⟨rfl, rfl⟩)))
        go_ret
        exact ⟨rfl, hr⟩

/-- A Text: the bytes, what is left, the error. -/
def txB (most : Int) (l : List UInt8) (e : Int) : List UInt8 := tkB (cnR most l e).1 (cnR most l e).2.1 (cnR most l e).2.2
def txL (most : Int) (l : List UInt8) (e : Int) : List UInt8 := tkL (cnR most l e).1 (cnR most l e).2.1 (cnR most l e).2.2
def txE (most : Int) (l : List UInt8) (e : Int) : Int := tkE (cnR most l e).1 (cnR most l e).2.1 (cnR most l e).2.2
set_option maxRecDepth 100000 in
set_option maxHeartbeats 3200000 in
theorem rtext_any (most : Int) (hm0 : -9223372036854775808 ≤ most) (hm : most ≤ 9223372036854775807) (K b : Nat) (l : List UInt8) (e : Int) (w : World) (h : Rd w K b l e) :
    Calls Try.prog 109 #[.pointer (some ⟨b, 0, none⟩), .int .i64 most] w fun en w' => en = .returned (.string (strB (txB most l e))) ∧ Rst w K b (txL most l e) (txE most l e) w' := by
  have HN := Lib.hid (rcount_any most hm0 hm K b l e w h)
  have hle := cnR_le most hm l e
  clear h
  unfold txB txL txE
  generalize (cnR most l e).1 = n at *
  generalize (cnR most l e).2.1 = l1 at *
  generalize (cnR most l e).2.2 = e1 at *
  have HT := Lib.hid (fun w (h : Rd w K b l1 e1) => take_any n K b l1 e1 w h hle)
  obtain ⟨s, hs⟩ : ∃ s, s = strB (tkB n l1 e1) := ⟨_, rfl⟩
  rw [← hs]
  have HS := Lib.hid hs
  clear hs
  generalize tkB n l1 e1 = t at *
  go_enter Try.func109, Try.ntmps109
  go_wp2_with (first
    | (go_at_call 107; refine HN.out.mono ?_; rintro en w1 ⟨rfl, hr⟩)
    | (go_at_call 126; go_loud (refine (HT.out w1 hr.rd).mono ?_; rintro en w2 ⟨⟨A, c, rfl, hb⟩, hr2⟩; have hq := bs_str hb rfl; rw [← HS.out] at hq)))
  go_ret
  exact ⟨rfl, hr.trans hr2⟩

set_option maxRecDepth 100000 in
set_option maxHeartbeats 1600000 in
theorem rend_any (K b : Nat) (l : List UInt8) (e : Int) (w : World) (h : Rd w K b l e) :
    Calls Try.prog 56 #[.pointer (some ⟨b, 0, none⟩)] w fun en w' => en = .returned (.int .i64 (if e = 0 ∧ 0 < l.length then 10 else e)) ∧ Rst w K b l (if e = 0 ∧ 0 < l.length then 10 else e) w' := by
  have HX := Lib.hid h
  have HE := Lib.hid (fun w e (h : Rd w K b l e) => rerr_any K b l e w h)
  obtain ⟨A, cap, h0, h1, f0, f1, hs⟩ := h.out
  clear h hs
  by_cases he : e = 0
  · subst he
    by_cases hl : 0 < l.length
    · rw [if_pos ⟨rfl, hl⟩]
      go_enter Try.func56, Try.ntmps56
      go_wp2_with (first
        | (go_at_call 108; refine (HE.out _ 0 HX.out).mono ?_; rintro en w' ⟨rfl, rfl⟩)
        | (go_at_call 108; refine (HE.out _ 10 (HX.out.err 10)).mono ?_; rintro en w' ⟨rfl, rfl⟩))
      go_ret
      exact ⟨rfl, HX.out.err 10, Tn.setCell _ _ _ _⟩
    · rw [if_neg (fun h => hl h.2)]
      go_enter Try.func56, Try.ntmps56
      go_wp2_with (go_at_call 108; refine (HE.out _ 0 HX.out).mono ?_; rintro en w' ⟨rfl, rfl⟩)
      go_ret
      exact ⟨rfl, Rst.refl HX.out⟩
  · rw [if_neg (fun h => he h.1)]
    have hne : (e == 0) = false := by simpa using he
    go_enter Try.func56, Try.ntmps56
    go_wp2_with (go_at_call 108; refine (HE.out _ e HX.out).mono ?_; rintro en w' ⟨rfl, rfl⟩)
    go_ret
    exact ⟨rfl, Rst.refl HX.out⟩
end Go.Proofs.Ytpnhdocimjkakaa
namespace Go.Proofs.Ytpnhdocimjkakaa
open Go.RowKit

set_option maxHeartbeats 800000 in
theorem refInt_any (n : Int) (h0 : -9223372036854775808 ≤ n) (h1 : n ≤ 9223372036854775807) (K : Nat) (A : Option Addr) (n0 cap : Nat) (l : List UInt8) (w : World) (ho : Ob w K (.slice A n0 cap) l) (hK : K ≤ w.heap.size) (hsz : l.length + 9 ≤ 140737488355328) :
    Calls Try.prog 67 #[.slice A n0 cap, .int .i64 n] w (App w K (.slice A n0 cap) (l ++ numB (zz n))) := by
  have hN := refNum_any (zz n) (zz_le h0 h1) K A n0 cap l w ho hK hsz
  clear ho hK hsz
  generalize l ++ numB (zz n) = m at *
  by_cases hn : 0 ≤ n
  · have e : ((zz n : Nat) : Int) = 2 * n := by unfold zz; rw [if_pos hn]; omega
    rw [e] at hN
    have HN := Lib.hid hN
    clear hN e
    go_enter Try.func67, Try.ntmps67
    go_wp2_with (go_at_call 114; refine HN.out.mono ?_; rintro e w1 ⟨A1, c1, rfl, ho1, hg1⟩)
    go_ret
    exact ⟨A1, c1, rfl, ho1, hg1⟩
  · have e : ((zz n : Nat) : Int) = 2 * -(n + 1) + 1 := by unfold zz; rw [if_neg hn]; omega
    rw [e] at hN
    have HN := Lib.hid hN
    clear hN e
    go_enter Try.func67, Try.ntmps67
    go_wp2_with (go_at_call 114; refine HN.out.mono ?_; rintro e w1 ⟨A1, c1, rfl, ho1, hg1⟩)
    go_ret
    exact ⟨A1, c1, rfl, ho1, hg1⟩

theorem takeB_succ (t : ByteArray) (q : Nat) (h : q < t.size) : t.data.toList.take (q + 1) = t.data.toList.take q ++ [t[q]] := by
  rw [List.take_add_one, List.getElem?_eq_getElem (by simpa using h)]
  rfl
set_option maxRecDepth 100000 in
set_option maxHeartbeats 3200000 in
theorem refText_any (t : ByteArray) (K : Nat) (A : Option Addr) (n0 cap : Nat) (l : List UInt8) (w : World) (ho : Ob w K (.slice A n0 cap) l) (hK : K ≤ w.heap.size) (hsz : l.length + t.size + 9 ≤ 140737488355328) :
    Calls Try.prog 115 #[.slice A n0 cap, .string t] w (App w K (.slice A n0 cap) (l ++ numB t.size ++ t.data.toList)) := by
  have hnl : (numB t.size).length ≤ 9 := by rw [numB_length]; have := kN_le t.size; omega
  have HN := Lib.hid (refNum_any t.size (by omega) K A n0 cap l w ho hK (by omega))
  have hml : (l ++ numB t.size).length + t.size ≤ 140737488355328 := by rw [List.length_append]; omega
  clear ho
  generalize l ++ numB t.size = m at *
  have htl : t.data.toList.length = t.size := by simp
  have HTL := Lib.hid htl
  have hbig : t.size < 9223372036854775807 := by omega
  clear htl hnl hsz
  go_enter Try.func115, Try.ntmps115
  go_wp2_with (go_at_call 114; go_loud (refine HN.out.mono ?_; rintro e w1 ⟨A1, c1, rfl, ho1, hg1⟩))
  go_loopw [0, 5] (fun v s wx => ∃ (q nn c2 : Nat) (A2 : Option Addr), q ≤ t.size ∧ s = .int .i64 (q : Int) ∧ v = .slice A2 nn c2 ∧ nn = m.length + q ∧ Ob wx K (.slice A2 nn c2) (m ++ t.data.toList.take q) ∧ Gr w wx (.slice A n0 cap) (.slice A2 nn c2)) (fun _ s _ => (t.size - intOf s).toNat)
  case atStart => exact ⟨0, m.length, c1, A1, by omega, rfl, rfl, by omega, by rw [List.take_zero, List.append_nil]; exact ho1, hg1⟩
  case round =>
    obtain ⟨q, nn, c2, A2, hq, rfl, rfl, hnn, hob2, hg2⟩ := hrel
    have z2 := hg2.g.size
    have HG2 := Lib.hid hg2
    have HOB2 := Lib.hid hob2
    have HNN := Lib.hid hnn
    clear ho1 hg1 hg2 hob2 hnn
    by_cases hlt : q < t.size
    · go_wp2_with (at_builtin; go_loud (refine wpList_app _ rfl (.tmp 17) (.tmp 21) rfl K (.slice A2 nn c2) (m ++ t.data.toList.take q) rfl (HOB2.out.alloc _) (some ⟨wr.heap.size, 0, none⟩) 1 1 [t[q]] rfl rfl _ (lit_bsH wr _ wr.heap.size rfl _ 1 _ (by rfl) rfl (by decide)) (nn + 1) (by rw [List.length_append, List.length_take, HTL.out, HNN.out, Nat.min_eq_left hq]; rfl) (by rw [List.length_append, List.length_take, HTL.out, Nat.min_eq_left hq]; simp; omega) (by simp; omega) ?_; intro A7 c7 w7 hown7 hgrow7 hat7))
      go_roundw
      case rel => exact ⟨q + 1, nn + 1, c7, A7, by omega, rfl, rfl, by rw [HNN.out]; omega, by rw [takeB_succ t q hlt, ← List.append_assoc]; exact hown7, HG2.out.step _ hgrow7 hat7⟩
      case measure => simp [intOf]; omega
    · have hqj : q = t.size := by omega
      subst hqj
      go_wp2
      go_ret
      have e0 : t.data.toList.take t.size = t.data.toList := by rw [← HTL.out, List.take_length]
      have ho9 := HOB2.out
      rw [e0] at ho9
      have e : nn = (m ++ t.data.toList).length := ho9.bs.2
      clear HNN
      subst e
      exact ⟨A2, c2, rfl, ho9, HG2.out⟩

end Go.Proofs.Ytpnhdocimjkakaa
