/- stamp.Text. -/
import Derived.Test.YtcmpenmaphmifaaGreatDoorPk6
import Derived.Test.YtcmpenmaphmifaaGreatDoorPk9
import Derived.Test.YtcmpenmaphmifaaGreatDoorPk10
import Derived.RegionTactic
import Derived.Test.YtcmpenmaphmifaaGreatDoorPk0
import Derived.Test.YtcmpenmaphmifaaGreatDoorPk8
import Derived.Test.YtcmpenmaphmifaaGreatDoorPk1
import Derived.Shelf.Strings.OnBuilder
import Derived.Test.YtcmpenmaphmifaaGreatDoorProg
import Derived.Test.YtcmpenmaphmifaaGreatDoorPk5
import Derived.LoopTactic
import Derived.Lib.AppendIntMem
namespace Go.Proofs.YtcmpenmaphmifaaGreatDoor
open Go.RowKit

/-- The library's variable in memory. -/
def Mx (w : World) : Prop := ∃ m, w.cell? ⟨2, 0, none⟩ = some (.int .i64 m)
theorem Mx.below {w w' : World} (h : Mx w) (hb : Below w.heap.size w w') : Mx w' := by
  obtain ⟨m, h⟩ := h
  exact ⟨m, kept hb h⟩
theorem contains_any (s p : ByteArray) (w : World) (hs : s.size ≤ 1048576) (hm : Mx w) : Calls Tryz.prog 143 #[.string s, .string p] w fun e w' => e = .returned (.bool (Lib.contains s.data.toList p.data.toList)) ∧ w = w' := by
  obtain ⟨m, hm⟩ := hm
  exact (Tryz.strings_Contains s p m w (by omega) hm).mono fun _ _ h => ⟨h.1, h.2.symm⟩

set_option maxHeartbeats 1600000 in
theorem holds_any (xn xv v : ByteArray) (o : Int) (w : World) (hm : Mx w) (hv : v.size ≤ 1048576) :
    Calls Tryz.prog 117 #[.agg #[.string xn, .int .i64 o, .string xv], .string v] w fun e w' => e = .returned (.bool (holdB o xv v)) ∧ Below w.heap.size w w' := by
  have B0 : Below w.heap.size w (w.alloc (.cells #[.string xn, .int .i64 o, .string xv] 139)) := (Below.refl _ _).alloc (Nat.le_refl _) _
  have HM := Lib.hid (hm.below B0)
  clear hm
  by_cases h1 : o = 1
  · have HF : Hid (holdB o xv v = (v.toList == xv.toList)) := Lib.hid (by simp [holdB, h1])
    subst h1
    go_enter Tryz.func117, Tryz.ntmps117
    go_wp2
    go_ret
    exact ⟨ret_bool HF.out.symm, B0⟩
  by_cases h2 : o = 2
  · have HF : Hid (holdB o xv v = !(v.toList == xv.toList)) := Lib.hid (by simp [holdB, h2])
    subst h2
    clear h1
    go_enter Tryz.func117, Tryz.ntmps117
    go_wp2
    go_ret
    exact ⟨ret_bool (by rw [HF.out]), B0⟩
  by_cases h3 : o = 3
  · have HF : Hid (holdB o xv v = Lib.hasPrefix v.data.toList xv.data.toList) := Lib.hid (by simp [holdB, h3])
    subst h3
    clear h1 h2
    go_enter Tryz.func117, Tryz.ntmps117
    go_wp2_with (go_at_call 62; refine (hasPrefix_any v xv _).mono ?_; rintro e w' ⟨rfl, rfl⟩)
    go_ret
    exact ⟨ret_bool HF.out.symm, B0⟩
  by_cases h4 : o = 4
  · have HF : Hid (holdB o xv v = Lib.contains v.data.toList xv.data.toList) := Lib.hid (by simp [holdB, h4])
    subst h4
    clear h1 h2 h3
    go_enter Tryz.func117, Tryz.ntmps117
    go_wp2_with (go_at_call 143; refine (contains_any v xv _ hv HM.out).mono ?_; rintro e w' ⟨rfl, rfl⟩)
    go_ret
    exact ⟨ret_bool HF.out.symm, B0⟩
  · have HF : Hid (holdB o xv v = false) := Lib.hid (by simp [holdB, h1, h2, h3, h4])
    have e1 : (o == 1) = false := beq_eq_false_iff_ne.2 h1
    have e2 : (o == 2) = false := beq_eq_false_iff_ne.2 h2
    have e3 : (o == 3) = false := beq_eq_false_iff_ne.2 h3
    have e4 : (o == 4) = false := beq_eq_false_iff_ne.2 h4
    clear h1 h2 h3 h4
    go_enter Tryz.func117, Tryz.ntmps117
    go_wp2
    go_ret
    exact ⟨ret_bool HF.out.symm, B0⟩

theorem getL_sm {s : List Pp} (hS : Sm s) (n : ByteArray) : (getL s n).size ≤ 1048576 := by
  induction s with
  | nil => exact Nat.zero_le _
  | cons x l ih =>
    rw [getL]
    split
    · exact (hS x (by simp)).2
    · exact ih fun y hy => hS y (by simp [hy])

set_option maxHeartbeats 3200000 in
theorem allR_any (K : Nat) (A B : Option Addr) (n cap m capb : Nat) (l : List Rp) (s : List Pp) (w : World) (hln : l.length = n) (hlm : s.length = m) (hp : Rr w K A cap l) (hq : Lr w K B capb s) (hK : K ≤ w.heap.size) (hS : Sm s) (hm : Mx w) :
    Calls Tryz.prog 85 #[.slice A n cap, .slice B m capb] w fun e w' => e = .returned (.bool (allB s l)) ∧ Below w.heap.size w w' := by
  subst hln hlm
  have hle := hp.le
  have hmax := hp.max
  unfold maxLen at hmax
  have HM := Lib.hid hm
  clear hm
  go_enter Tryz.func85, Tryz.ntmps85
  go_wp2
  go_loopw [9] (fun i wr => ∃ k : Nat, k ≤ l.length ∧ i = .int .i64 k ∧ Hid (allTo s l k = true) ∧ Below w.heap.size w wr) (fun i _ => l.length - (intOf i).toNat)
  case atStart => exact ⟨0, Nat.zero_le _, rfl, Lib.hid (allTo_zero s l), Below.refl _ _⟩
  case round =>
    obtain ⟨k, hk, rfl, HT, hbl⟩ := hrel
    have z := hbl.size
    by_cases hlt : k < l.length
    · obtain ⟨ad, rfl, hadK, h1, h2, h3⟩ := rr_at (hp.below (hbl.mono hK)) hlt
      have hnext := allTo_succ s hlt
      have hno : oneB s (l.getD k nilR) = false → allB s l = false := allB_no hlt
      have hone : oneB s (l.getD k nilR) = holdB (l.getD k nilR).2.1 (l.getD k nilR).2.2 (getL s (l.getD k nilR).1) := rfl
      generalize l.getD k nilR = x at *
      obtain ⟨xn, xo, xv⟩ := x
      simp only at h1 h2 h3 hone
      have B1 := hbl.alloc z (.cells #[.string xn, .int .i64 xo, .string xv] 139)
      have B1d := B1.drew
      have z1 : w.heap.size ≤ (wr.alloc (.cells #[.string xn, .int .i64 xo, .string xv] 139)).heap.size := by simp; omega
      have HG := Lib.hid (fun W => getv_any K B s.length capb s xn W rfl)
      have hgs := getL_sm hS xn
      have HC := Lib.hid (fun W (h : Mx W) => holds_any xn xv (getL s xn) xo W h hgs)
      have HQ := Lib.hid hq
      generalize getL s xn = gv at *
      by_cases hr : oneB s (xn, xo, xv) = true
      · have HN : Hid (allTo s l (k + 1) = true) := Lib.hid (by rw [hnext, HT.out, hr]; rfl)
        rw [← hone, hr] at HC
        clear hnext hno hr hone
        go_wp2_with fail
        go_region_with (first
          | (go_at_call 118; refine (HG.out _ (HQ.out.below (B1d.mono hK)) (by simp; omega)).mono ?_; rintro e w1 ⟨rfl, hb1⟩; have m0 : w1.cell? ⟨wr.heap.size, 0, none⟩ = some (.string xn) := kept hb1 (by simp); have m1 : w1.cell? ⟨wr.heap.size, 1, none⟩ = some (.int .i64 xo) := kept hb1 (by simp); have m2 : w1.cell? ⟨wr.heap.size, 2, none⟩ = some (.string xv) := kept hb1 (by simp); have B2 := B1d.trans (hb1.mono z1); clear hb1)
          | (go_at_call 117; refine (HC.out _ (HM.out.below B2)).mono ?_; rintro e w2 ⟨rfl, hb2⟩; have B3 := B2.trans (hb2.mono B2.size)))
        all_goals go_wp2_with fail
        all_goals go_roundw
        all_goals first
          | exact ⟨k + 1, by omega, by go_num, HN, B3⟩
          | (simp [intOf]; omega)
      · have hr : oneB s (xn, xo, xv) = false := by simpa using hr
        have HF : Hid (allB s l = false) := Lib.hid (hno hr)
        rw [← hone, hr] at HC
        clear hnext hno hr hone
        go_wp2_with fail
        go_region_with (first
          | (go_at_call 118; refine (HG.out _ (HQ.out.below (B1d.mono hK)) (by simp; omega)).mono ?_; rintro e w1 ⟨rfl, hb1⟩; have m0 : w1.cell? ⟨wr.heap.size, 0, none⟩ = some (.string xn) := kept hb1 (by simp); have m1 : w1.cell? ⟨wr.heap.size, 1, none⟩ = some (.int .i64 xo) := kept hb1 (by simp); have m2 : w1.cell? ⟨wr.heap.size, 2, none⟩ = some (.string xv) := kept hb1 (by simp); have B2 := B1d.trans (hb1.mono z1); clear hb1)
          | (go_at_call 117; refine (HC.out _ (HM.out.below B2)).mono ?_; rintro e w2 ⟨rfl, hb2⟩; have B3 := B2.trans (hb2.mono B2.size)))
        all_goals go_wp2_with fail
        all_goals go_ret
        all_goals exact ⟨ret_bool HF.out.symm, B3⟩
    · have hks : k = l.length := by omega
      have HF : Hid (allB s l = true) := Lib.hid (by rw [← allTo_all, ← hks]; exact HT.out)
      clear hks
      go_wp2_with fail
      go_ret
      exact ⟨ret_bool HF.out.symm, hbl⟩
end Go.Proofs.YtcmpenmaphmifaaGreatDoor
namespace Go.Proofs.YtcmpenmaphmifaaGreatDoor
open Go.RowKit

/-- A value and how many bytes it has; new memory alone. -/
def UnqPost (w : World) (r : List UInt8 × Nat) (e : Ending) (w' : World) : Prop := e = .returned (.tuple #[.string ⟨r.1.toArray⟩, .int .i64 (r.2 : Int)]) ∧ Below w.heap.size w w'
theorem ret_unq {a b : ByteArray} {n m : Int} (h : a = b) (h2 : n = m) : Ending.returned (.tuple #[.string a, .int .i64 n]) = .returned (.tuple #[.string b, .int .i64 m]) := by rw [h, h2]

set_option maxHeartbeats 3200000 in
theorem unquote_any (t : ByteArray) (w : World) (hs : t.size ≤ 1000000000000) : Calls Tryz.prog 94 #[.string t] w (UnqPost w (unqB t)) := by
  by_cases h0 : t.size = 0
  · rw [unqB_nil h0]
    have e1 : t.toList = [] := by rw [Lib.toList_data]; exact List.eq_nil_of_length_eq_zero (by simpa using h0)
    have e2 : (t.toList == []) = true := by rw [e1]; rfl
    have H0 := Lib.hid h0
    clear h0
    go_enter Tryz.func94, Tryz.ntmps94
    go_wp2
    go_ret2
    exact ⟨rfl, Below.refl _ _⟩
  have hpos : 0 < t.size := by omega
  have e1 : ¬ t.toList = [] := by
    rw [Lib.toList_data]
    intro e
    have := congrArg List.length e
    simp at this
    exact h0 (by simpa using this)
  have e2 : (t.toList == []) = false := by simpa using e1
  by_cases hc : ((t[0]).toNat : Int) = 34
  · have hstart := unqB_yes hpos hc
    have HS := Lib.hid hstart
    have HC := Lib.hid hc
    have hc2 : (((t[0]).toNat : Int) == 34) = true := by rw [hc]; rfl
    have hc3 : (((t[0]).toNat : Int) != 34) = false := by rw [hc]; rfl
    generalize unqB t = R at *
    clear hstart hc e1 h0
    go_enter Tryz.func94, Tryz.ntmps94
    go_wp2_with fail
    have b0 := Bd.new w
    have B0 : Below w.heap.size w (w.alloc (.cells #[.pointer none, .slice none 0 0] 102)) := (Below.refl _ _).alloc (Nat.le_refl _) _
    clear hc2 hc3 e2
    go_loopw [5, 18] (fun gv i wr => ∃ (k : Nat) (g : Bool) (acc : List UInt8), k + 1 ≤ t.size ∧ i = .int .i64 k ∧ gv = .bool g ∧ acc.length ≤ k ∧ Bd wr w.heap.size w.heap.size acc ∧ Hid (R = unqGo (t.data.toList.drop (k + 1)) g acc (k + 1)) ∧ Below w.heap.size w wr) (fun _ i _ => t.size - (intOf i).toNat)
    case atStart => exact ⟨0, false, [], by omega, rfl, rfl, by simp, b0, HS, B0⟩
    case round =>
      obtain ⟨k, g, acc, hk, rfl, rfl, hal, hbd, HT, hbl⟩ := hrel
      have z := hbl.size
      clear b0 B0
      by_cases hlt : k + 1 < t.size
      · have i0 : (k : Int) < (t.size : Int) - 1 := by omega
        cases g with
        | true =>
          by_cases hg : gN ((t[k + 1]).toNat : Int) = true
          · have HN : Hid (R = unqGo (t.data.toList.drop (k + 1 + 1)) false (acc ++ [t[k + 1]]) (k + 1 + 1)) := Lib.hid (by rw [HT.out, go_guard_yes hlt _ _ hg])
            go_wp2_with (go_at_call 107; refine (isGuarded_any _ _).mono ?_; rintro e w' ⟨rfl, rfl⟩)
            refine (wb_any w.heap.size w.heap.size _ t[k + 1] _ _ rfl hbd (by omega) z).mono ?_
            rintro e w3 ⟨rfl, b3, hB3⟩
            have B3 := hbl.trans hB3
            clear hbd hbl hB3
            go_wp2_with fail
            go_roundw
            case rel => exact ⟨k + 1, false, _, by omega, by go_num, rfl, by simp; omega, b3, HN, B3⟩
            case measure => simp [intOf]; omega
          · have hg : gN ((t[k + 1]).toNat : Int) = false := by simpa using hg
            have HF : Hid (R = ([], 0)) := Lib.hid (by rw [HT.out, go_guard_no hlt _ _ hg])
            go_wp2_with (go_at_call 107; refine (isGuarded_any _ _).mono ?_; rintro e w' ⟨rfl, rfl⟩)
            go_ret2
            exact ⟨by rw [HF.out]; rfl, hbl⟩
        | false =>
          by_cases h34 : ((t[k + 1]).toNat : Int) = 34
          · have HF : Hid (R = (acc, k + 1 + 1)) := Lib.hid (by rw [HT.out, go_quote hlt _ _ h34])
            have c1 : (((t[k + 1]).toNat : Int) == 34) = true := by rw [h34]; rfl
            have H34 := Lib.hid h34
            clear h34
            go_wp2_with fail
            refine (bstr_any w.heap.size w.heap.size _ _ hbd z).mono ?_
            rintro e w3 ⟨rfl, hB3⟩
            have B3 := hbl.trans hB3
            go_wp2_with fail
            go_ret2
            exact ⟨by rw [HF.out]; exact ret_unq rfl (by omega), B3⟩
          · have c1 : (((t[k + 1]).toNat : Int) == 34) = false := by simpa using h34
            by_cases h92 : ((t[k + 1]).toNat : Int) = 92
            · have HN : Hid (R = unqGo (t.data.toList.drop (k + 1 + 1)) true acc (k + 1 + 1)) := Lib.hid (by rw [HT.out, go_slash hlt _ _ h92])
              have c2 : (((t[k + 1]).toNat : Int) == 92) = true := by rw [h92]; rfl
              have H92 := Lib.hid h92
              clear h92 h34
              go_wp2_with fail
              go_roundw
              case rel => exact ⟨k + 1, true, _, by omega, by go_num, rfl, by omega, hbd, HN, hbl⟩
              case measure => simp [intOf]; omega
            · have c2 : (((t[k + 1]).toNat : Int) == 92) = false := by simpa using h92
              have HN : Hid (R = unqGo (t.data.toList.drop (k + 1 + 1)) false (acc ++ [t[k + 1]]) (k + 1 + 1)) := Lib.hid (by rw [HT.out, go_plain hlt _ _ h34 h92])
              clear h34 h92
              go_wp2_with fail
              refine (wb_any w.heap.size w.heap.size _ t[k + 1] _ _ rfl hbd (by omega) z).mono ?_
              rintro e w3 ⟨rfl, b3, hB3⟩
              have B3 := hbl.trans hB3
              clear hbd hbl hB3
              go_wp2_with fail
              go_roundw
              case rel => exact ⟨k + 1, false, _, by omega, by go_num, rfl, by simp; omega, b3, HN, B3⟩
              case measure => simp [intOf]; omega
      · have HF : Hid (R = ([], 0)) := Lib.hid (by rw [HT.out, go_end (by omega)])
        have i0 : ¬ (k : Int) < (t.size : Int) - 1 := by omega
        go_wp2_with fail
        go_ret2
        exact ⟨by rw [HF.out]; rfl, hbl⟩
  · have HF : Hid (unqB t = ([], 0)) := Lib.hid (unqB_no hpos hc)
    have hc2 : (((t[0]).toNat : Int) == 34) = false := by simpa using hc
    have hc3 : (((t[0]).toNat : Int) != 34) = true := by simpa using hc
    clear hc e1 h0
    go_enter Tryz.func94, Tryz.ntmps94
    go_wp2_with fail
    go_ret2
    exact ⟨by rw [HF.out]; rfl, Below.refl _ _⟩
end Go.Proofs.YtcmpenmaphmifaaGreatDoor
namespace Go.Proofs.YtcmpenmaphmifaaGreatDoor
open Go.RowKit

/-- The table of signs in memory. -/
def Sg (w : World) : Prop := w.cell? ⟨1, 1, none⟩ = some (.string ⟨#[61]⟩) ∧ w.cell? ⟨1, 2, none⟩ = some (.string ⟨#[33, 61]⟩) ∧ w.cell? ⟨1, 3, none⟩ = some (.string ⟨#[94, 61]⟩) ∧ w.cell? ⟨1, 4, none⟩ = some (.string ⟨#[42, 61]⟩)
theorem Sg.below {w w' : World} (h : Sg w) (hb : Below w.heap.size w w') : Sg w' := ⟨kept hb h.1, kept hb h.2.1, kept hb h.2.2.1, kept hb h.2.2.2⟩
theorem signOf_any (o : Int) (w : World) (hg : Sg w) : Calls Tryz.prog 76 #[.int .i64 o] w fun e w' => e = .returned (.string ⟨(sgB o).toArray⟩) ∧ w = w' := by
  obtain ⟨g1, g2, g3, g4⟩ := hg
  by_cases ho : opB o = true
  · have h4 : o = 1 ∨ o = 2 ∨ o = 3 ∨ o = 4 := by simp [opB] at ho; omega
    rcases h4 with rfl | rfl | rfl | rfl
    all_goals
      clear ho
      go_enter Tryz.func76, Tryz.ntmps76
      go_wp2_with (go_at_call 98; refine (isOp_any _ _).mono ?_; rintro e w' ⟨rfl, rfl⟩)
      go_ret
      exact ⟨rfl, rfl⟩
  · have ho : opB o = false := by simpa using ho
    have HF : Hid (sgB o = []) := Lib.hid (by
      simp [opB] at ho
      unfold sgB
      rw [if_neg (by omega), if_neg (by omega), if_neg (by omega), if_neg (by omega)])
    go_enter Tryz.func76, Tryz.ntmps76
    go_wp2_with (go_at_call 98; refine (isOp_any _ _).mono ?_; rintro e w' ⟨rfl, rfl⟩)
    go_ret
    rw [HF.out]
    exact ⟨rfl, rfl⟩

def opFrom (r : List UInt8) (k : Nat) : Int :=
  if k ≤ 1 ∧ Lib.hasPrefix r [61] = true then 1 else if k ≤ 2 ∧ Lib.hasPrefix r [33, 61] = true then 2 else if k ≤ 3 ∧ Lib.hasPrefix r [94, 61] = true then 3 else if k ≤ 4 ∧ Lib.hasPrefix r [42, 61] = true then 4 else 0
theorem opFrom_one (r : List UInt8) : opR r = opFrom r 1 := by simp [opR, opFrom]
theorem opFrom_five (r : List UInt8) : opFrom r 5 = 0 := by simp [opFrom]
set_option maxHeartbeats 1600000 in
theorem opOf_any (t : ByteArray) (w : World) (hg : Sg w) : Calls Tryz.prog 93 #[.string t] w fun e w' => e = .returned (.int .i64 (opR t.data.toList)) ∧ w = w' := by
  obtain ⟨g1, g2, g3, g4⟩ := hg
  have HO := Lib.hid (opFrom_one t.data.toList)
  go_enter Tryz.func93, Tryz.ntmps93
  go_wp2
  go_loop [3] (fun i => ∃ k : Nat, 1 ≤ k ∧ k ≤ 5 ∧ i = .int .i64 k ∧ Hid (opR t.data.toList = opFrom t.data.toList k)) (fun i => 5 - (intOf i).toNat)
  case atStart => exact ⟨1, by decide, by decide, rfl, HO⟩
  case round =>
    obtain ⟨k, h1k, hk, rfl, HT⟩ := hrel
    have h5 : k = 1 ∨ k = 2 ∨ k = 3 ∨ k = 4 ∨ k = 5 := by omega
    clear h1k hk HO
    rcases h5 with rfl | rfl | rfl | rfl | rfl
    · have HP := Lib.hid (fun W => hasPrefix_any t ⟨#[61]⟩ W)
      have e : (⟨#[61]⟩ : ByteArray).data.toList = [61] := rfl
      rw [e] at HP
      clear e
      by_cases hb : Lib.hasPrefix t.data.toList [61] = true
      · have HF : Hid (opR t.data.toList = 1) := Lib.hid (by rw [HT.out]; simp [opFrom, hb])
        rw [hb] at HP
        clear hb
        go_wp2_with (go_at_call 62; refine (HP.out _).mono ?_; rintro e w' ⟨rfl, rfl⟩)
        go_ret
        exact ⟨ret_int HF.out.symm, rfl⟩
      · have hb : Lib.hasPrefix t.data.toList [61] = false := by simpa using hb
        have HN : Hid (opR t.data.toList = opFrom t.data.toList 2) := Lib.hid (by rw [HT.out]; simp [opFrom, hb])
        rw [hb] at HP
        clear hb
        go_wp2_with (go_at_call 62; refine (HP.out _).mono ?_; rintro e w' ⟨rfl, rfl⟩)
        go_round
        case rel => exact ⟨2, by decide, by decide, rfl, HN⟩
        case measure => decide
    · have HP := Lib.hid (fun W => hasPrefix_any t ⟨#[33, 61]⟩ W)
      have e : (⟨#[33, 61]⟩ : ByteArray).data.toList = [33, 61] := rfl
      rw [e] at HP
      clear e
      by_cases hb : Lib.hasPrefix t.data.toList [33, 61] = true
      · have HF : Hid (opR t.data.toList = 2) := Lib.hid (by rw [HT.out]; simp [opFrom, hb])
        rw [hb] at HP
        clear hb
        go_wp2_with (go_at_call 62; refine (HP.out _).mono ?_; rintro e w' ⟨rfl, rfl⟩)
        go_ret
        exact ⟨ret_int HF.out.symm, rfl⟩
      · have hb : Lib.hasPrefix t.data.toList [33, 61] = false := by simpa using hb
        have HN : Hid (opR t.data.toList = opFrom t.data.toList 3) := Lib.hid (by rw [HT.out]; simp [opFrom, hb])
        rw [hb] at HP
        clear hb
        go_wp2_with (go_at_call 62; refine (HP.out _).mono ?_; rintro e w' ⟨rfl, rfl⟩)
        go_round
        case rel => exact ⟨3, by decide, by decide, rfl, HN⟩
        case measure => decide
    · have HP := Lib.hid (fun W => hasPrefix_any t ⟨#[94, 61]⟩ W)
      have e : (⟨#[94, 61]⟩ : ByteArray).data.toList = [94, 61] := rfl
      rw [e] at HP
      clear e
      by_cases hb : Lib.hasPrefix t.data.toList [94, 61] = true
      · have HF : Hid (opR t.data.toList = 3) := Lib.hid (by rw [HT.out]; simp [opFrom, hb])
        rw [hb] at HP
        clear hb
        go_wp2_with (go_at_call 62; refine (HP.out _).mono ?_; rintro e w' ⟨rfl, rfl⟩)
        go_ret
        exact ⟨ret_int HF.out.symm, rfl⟩
      · have hb : Lib.hasPrefix t.data.toList [94, 61] = false := by simpa using hb
        have HN : Hid (opR t.data.toList = opFrom t.data.toList 4) := Lib.hid (by rw [HT.out]; simp [opFrom, hb])
        rw [hb] at HP
        clear hb
        go_wp2_with (go_at_call 62; refine (HP.out _).mono ?_; rintro e w' ⟨rfl, rfl⟩)
        go_round
        case rel => exact ⟨4, by decide, by decide, rfl, HN⟩
        case measure => decide
    · have HP := Lib.hid (fun W => hasPrefix_any t ⟨#[42, 61]⟩ W)
      have e : (⟨#[42, 61]⟩ : ByteArray).data.toList = [42, 61] := rfl
      rw [e] at HP
      clear e
      by_cases hb : Lib.hasPrefix t.data.toList [42, 61] = true
      · have HF : Hid (opR t.data.toList = 4) := Lib.hid (by rw [HT.out]; simp [opFrom, hb])
        rw [hb] at HP
        clear hb
        go_wp2_with (go_at_call 62; refine (HP.out _).mono ?_; rintro e w' ⟨rfl, rfl⟩)
        go_ret
        exact ⟨ret_int HF.out.symm, rfl⟩
      · have hb : Lib.hasPrefix t.data.toList [42, 61] = false := by simpa using hb
        have HN : Hid (opR t.data.toList = opFrom t.data.toList 5) := Lib.hid (by rw [HT.out]; simp [opFrom, hb])
        rw [hb] at HP
        clear hb
        go_wp2_with (go_at_call 62; refine (HP.out _).mono ?_; rintro e w' ⟨rfl, rfl⟩)
        go_round
        case rel => exact ⟨5, by decide, by decide, rfl, HN⟩
        case measure => decide
    · have HF : Hid (opR t.data.toList = 0) := Lib.hid (by rw [HT.out, opFrom_five])
      go_wp2_with fail
      go_ret
      exact ⟨ret_int HF.out.symm, rfl⟩
end Go.Proofs.YtcmpenmaphmifaaGreatDoor
namespace Go.Proofs.YtcmpenmaphmifaaGreatDoor
open Go.Shelf Go.RowKit
def sh_lays156_ren : Go.Shelf.Ren := ⟨fun | 156 => 78 | 165 => 108 | 166 => 40 | 169 => 46 | 240 => 75 | 241 => 136 | 276 => 106 | 277 => 158 | n => n, fun | 31 => 157 | 9 => 9 | 3 => 3 | 4 => 4 | 0 => 0 | 20 => 20 | 72 => 102 | 76 => 105 | 70 => 99 | 37 => 100 | 75 => 104 | 127 => 160 | 164 => 188 | 5 => 5 | 80 => 113 | n => n, fun | n => n⟩
theorem sh_lays156 : Go.Proofs.Lays.n156 Tryz.prog sh_lays156_ren := {
  mixed := by kernel_rfl
  f156 := Tryz.func78.trans (congrArg some (by kernel_rfl))
  f165 := Tryz.func108.trans (congrArg some (by kernel_rfl))
  f166 := Tryz.func40.trans (congrArg some (by kernel_rfl))
  f169 := Tryz.func46.trans (congrArg some (by kernel_rfl))
  f240 := Tryz.func75.trans (congrArg some (by kernel_rfl))
  f241 := Tryz.func136.trans (congrArg some (by kernel_rfl))
  f276 := Tryz.func106.trans (congrArg some (by kernel_rfl))
  f277 := Tryz.func158.trans (congrArg some (by kernel_rfl))
  t0 := Tryz.underlying0
  a0 := Tryz.isAgg0
  z0 := Tryz.sizeOf0
  v0 := Tryz.zeroValue0
  t3 := Tryz.underlying3
  a3 := Tryz.isAgg3
  z3 := Tryz.sizeOf3
  v3 := Tryz.zeroValue3
  t4 := Tryz.underlying4
  a4 := Tryz.isAgg4
  z4 := Tryz.sizeOf4
  v4 := Tryz.zeroValue4
  t9 := Tryz.underlying9
  a9 := Tryz.isAgg9
  z9 := Tryz.sizeOf9
  v9 := Tryz.zeroValue9
  t20 := Tryz.underlying20
  a20 := Tryz.isAgg20
  z20 := Tryz.sizeOf20
  v20 := Tryz.zeroValue20
  t31 := Tryz.underlying157
  a31 := Tryz.isAgg157
  z31 := Tryz.sizeOf157
  v31 := Tryz.zeroValue157
  t37 := Tryz.underlying100
  a37 := Tryz.isAgg100
  z37 := Tryz.sizeOf100
  v37 := Tryz.zeroValue100
  t70 := Tryz.underlying99
  a70 := Tryz.isAgg99
  z70 := Tryz.sizeOf99
  v70 := Tryz.zeroValue99
  t72 := Tryz.underlying102
  a72 := Tryz.isAgg102
  z72 := Tryz.sizeOf102
  v72 := Tryz.zeroValue102
  t75 := Tryz.underlying104
  a75 := Tryz.isAgg104
  z75 := Tryz.sizeOf104
  v75 := Tryz.zeroValue104
  t76 := Tryz.underlying105
  a76 := Tryz.isAgg105
  z76 := Tryz.sizeOf105
  v76 := Tryz.zeroValue105
  t127 := Tryz.underlying160
  a127 := Tryz.isAgg160
  z127 := Tryz.sizeOf160
  v127 := Tryz.zeroValue160
  t164 := Tryz.underlying188
  a164 := Tryz.isAgg188
  z164 := Tryz.sizeOf188
  v164 := Tryz.zeroValue188 }
theorem shjX : Builder.Extra Tryz.prog sh_lays156_ren := {
  sizeBuilder := by kernel_rfl
  liesBuilder := by kernel_rfl
  t5 := Tryz.underlying5
  a5 := Tryz.isAgg5
  z5 := Tryz.sizeOf5
  v5 := Tryz.zeroValue5
  infoByte := by kernel_rfl
  cellsByte := by kernel_rfl
  sizeByte := by kernel_rfl
  neB5 := by decide }
theorem join_none (a : Option Addr) (c : Nat) (sep : ByteArray) (w : World) :
    Calls Tryz.prog 78 #[.slice a 0 c, .string sep] w fun e w' => e = .returned (.string ⟨#[]⟩) ∧ w' = w := Any.strings_Join_none sh_lays156 shjX a c sep w
theorem join_any (bk o c : Nat) (xs : List ByteArray) (sep : ByteArray) (w : World) (hcells : ∀ (j : Nat) x, xs[j]? = some x → w.cell? ⟨bk, o + j, none⟩ = some (.string x)) (hbk : bk < w.heap.size) (hN : xs.length ≤ 140737488355328) (hcap : xs.length ≤ c) (hlen : (Lib.join (xs.map (·.data.toList)) sep.data.toList).length ≤ 140737488355328) :
    Calls Tryz.prog 78 #[.slice (some ⟨bk, o, none⟩) xs.length c, .string sep] w fun e w' => e = .returned (.string ⟨(Lib.join (xs.map (·.data.toList)) sep.data.toList).toArray⟩) ∧ Below w.heap.size w w' := Any.strings_Join sh_lays156 shjX bk o c xs sep w hcells hbk hN hcap hlen
end Go.Proofs.YtcmpenmaphmifaaGreatDoor
namespace Go.Proofs.YtcmpenmaphmifaaGreatDoor
open Go.RowKit

abbrev emptyS : ByteArray := ⟨#[]⟩
theorem str_add (a b : ByteArray) (h : a.size + b.size ≤ 9223372036854775807) : Op.stringOp .add a b = pure (.string (a ++ b)) := by
  have : ¬ ((a.size + b.size : Nat) : Int) > IntKind.i64.max := by
    have e : IntKind.i64.max = 9223372036854775807 := rfl
    rw [e]; omega
  unfold Op.stringOp
  simp only [if_neg this]
theorem info_str : (Tryz.prog.info? 9).map (fun i => (i.zero, i.size, i.bytes)) = some (some (.string ⟨#[]⟩), 1, 16) := by kernel_rfl
theorem flatS (l : List ByteArray) : l.flatMap encS = l.map Value.string := by
  induction l with
  | nil => rfl
  | cons x l ih => rw [List.flatMap_cons, ih]; rfl
/-- make([]string, n). -/
theorem made_strs (w : World) (n : Nat) (h : n ≤ 8796093022208) : (Instr.makeSlice 157 (.int .i64 (n : Int)) (.int .i64 (n : Int))).run Tryz.prog w = .ok (.slice (some ⟨w.heap.size, 0, none⟩) n n) (w.alloc (.cells (List.replicate n (Value.string ⟨#[]⟩)).toArray 9)) := by
  obtain ⟨i0, hi, hz0, hz1, hz2⟩ := info_parts info_str
  have hr := run_make (P := Tryz.prog) w 157 9 i0 (.string ⟨#[]⟩) Tryz.underlying157 hi hz0 .i64 .i64 (n : Int) (n : Int) (by omega) (by omega) (by rw [hz2]; omega) (by omega)
  rw [hr, Int.toNat_natCast, hz1, Nat.mul_one]
  have e : madeCells (Value.string ⟨#[]⟩).cells n = (List.replicate n (Value.string ⟨#[]⟩)).toArray := by
    apply Array.toList_inj.1
    exact toList_madeCells_one (.string ⟨#[]⟩) n
  rw [e]

theorem so_stored {w : World} {K g n cap : Nat} {T : TypeId} {l : List ByteArray} (h : So encS 1 w K T (.slice (some ⟨g, 0, none⟩) n cap) l) (hn : n = l.length) (j : Nat) (c : ByteArray) : So encS 1 (w.setCell ⟨g, j, none⟩ (.string c)) K T (.slice (some ⟨g, 0, none⟩) n cap) (l.set j c) := by
  subst hn
  have := World.ownsRow.stored h j (.string c)
  unfold So
  rw [List.length_set, flatS, List.map_set, ← flatS]
  exact this.1
theorem so_slot {w : World} {K g n cap k : Nat} {T : TypeId} {l : List ByteArray} (h : So encS 1 w K T (.slice (some ⟨g, 0, none⟩) n cap) l) (hn : n = l.length) (hk : k < l.length) : w.cell? ⟨g, k, none⟩ = some (.string l[k]) ∧ w.frozen? ⟨g, k, none⟩ = false := by
  subst hn
  refine ⟨?_, h.frozenAt k⟩
  rw [h.cellAt k (by omega), flatS]
  simp [hk]

theorem setR_next (l : List Rp) (k : Nat) (hk : k < l.length) (y : ByteArray) (hy : y = partRS (l.getD k nilR)) : ((l.take k).map partRS ++ List.replicate (l.length - k) emptyS).set k y = (l.take (k + 1)).map partRS ++ List.replicate (l.length - (k + 1)) emptyS := by
  have h1 : ((l.take k).map partRS).length = k := by simp; omega
  rw [List.set_append_right _ _ (by omega), h1, Nat.sub_self]
  have h2 : l.length - k = (l.length - (k + 1)) + 1 := by omega
  rw [h2, List.replicate_succ, List.set_cons_zero, List.take_succ_eq_append_getElem hk, List.map_append, List.append_assoc, hy, getR_eq hk]
  rfl

set_option maxHeartbeats 3200000 in
theorem textRl_any (K : Nat) (A : Option Addr) (n cap : Nat) (l : List Rp) (w : World) (hln : l.length = n) (hp : Rr w K A cap l) (hK : K ≤ w.heap.size) (hS : SmR l) (hl : l.length ≤ 1048576) (hg : Sg w) :
    Calls Tryz.prog 42 #[.slice A n cap] w (NewStr w ⟨(textR l).toArray⟩) := by
  subst hln
  have hle := hp.le
  have hmax := hp.max
  unfold maxLen at hmax
  have HG := Lib.hid hg
  clear hg
  have hmk := fun w => made_strs w l.length (by omega)
  go_enter Tryz.func42, Tryz.ntmps42
  go_wp2_with fail
  have hs0 : So encS 1 (w.alloc (.cells (List.replicate l.length (Value.string ⟨#[]⟩)).toArray 9)) w.heap.size 9 (.slice (some ⟨w.heap.size, 0, none⟩) l.length l.length) (List.replicate l.length emptyS) :=
    lit_so w w.heap.size _ w.heap.size rfl (Nat.le_refl _) _ l.length _ encS_len (by rw [flatS]; simp) (by simp) (by unfold maxLen; omega)
  have B0 : Below w.heap.size w (w.alloc (.cells (List.replicate l.length (Value.string ⟨#[]⟩)).toArray 9)) := (Below.refl _ _).alloc (Nat.le_refl _) _
  clear hmk
  go_loopw [11] (fun i wr => ∃ k : Nat, k ≤ l.length ∧ i = .int .i64 k ∧ So encS 1 wr w.heap.size 9 (.slice (some ⟨w.heap.size, 0, none⟩) l.length l.length) ((l.take k).map partRS ++ List.replicate (l.length - k) emptyS) ∧ Below w.heap.size w wr) (fun i _ => l.length - (intOf i).toNat)
  case atStart => exact ⟨0, Nat.zero_le _, rfl, by simpa using hs0, B0⟩
  case round =>
    obtain ⟨k, hk, rfl, hso, hbl⟩ := hrel
    have z := hbl.size
    clear hs0 B0
    by_cases hlt : k < l.length
    · obtain ⟨ad, rfl, hadK, h1, h2, h3⟩ := rr_at (hp.below (hbl.mono hK)) hlt
      have hs := hS.at_ k
      have hnext := setR_next l k hlt _ rfl
      have hll : ((l.take k).map partRS ++ List.replicate (l.length - k) emptyS).length = l.length := by simp; omega
      have hpart : partRS (l.getD k nilR) = (l.getD k nilR).1 ++ ⟨(sgB (l.getD k nilR).2.1).toArray⟩ ++ ⟨(quoteB (l.getD k nilR).2.2).toArray⟩ := rfl
      have hsl := sgB_len (l.getD k nilR).2.1
      have hql := quoteB_len (l.getD k nilR).2.2
      rw [hpart] at hnext
      generalize l.getD k nilR = x at *
      obtain ⟨xn, xo, xv⟩ := x
      simp only at h1 h2 h3 hs hql hsl hpart hnext
      have HQ := Lib.hid (fun W => quote_any xv W (by omega))
      generalize hqe : quoteB xv = q at *
      have HSO := Lib.hid (signOf_any xo)
      have e0 : (⟨(sgB xo).toArray⟩ : ByteArray).size = (sgB xo).length := by simp [ByteArray.size]
      generalize (⟨(sgB xo).toArray⟩ : ByteArray) = sg at *
      have a1 := str_add xn sg (by omega)
      have a2 := str_add (xn ++ sg) ⟨q.toArray⟩ (by have e1 : (xn ++ sg : ByteArray).size = xn.size + sg.size := ByteArray.size_append
                                                    have e2 : (⟨q.toArray⟩ : ByteArray).size = q.length := by simp [ByteArray.size]
                                                    omega)
      generalize xn ++ sg = y1 at *
      generalize y1 ++ ⟨q.toArray⟩ = y2 at *
      obtain ⟨hc0, hf0⟩ := so_slot (k := k) hso hll.symm (by omega)
      generalize ((l.take k).map partRS ++ List.replicate (l.length - k) emptyS)[k] = old at hc0
      have hold : ∀ o, (wr.alloc o).cell? ⟨w.heap.size, k, none⟩ = some (.string old) := fun o => keptA hc0
      have hfro : ∀ o, (wr.alloc o).frozen? ⟨w.heap.size, k, none⟩ = false := fun o => (((Below.refl wr.heap.size wr).alloc (Nat.le_refl _) o).frozen (p := ⟨w.heap.size, k, none⟩) (World.block_lt_of_cell? wr _ hc0)).trans hf0
      have HN := Lib.hid hnext
      have HL := Lib.hid hll
      have G1 := Lib.hid ((HG.out.below hbl).below ((Below.refl wr.heap.size wr).alloc (Nat.le_refl _) (.cells #[.string xn, .int .i64 xo, .string xv] 139)))
      clear hnext hll hqe e0
      have hgk : w.heap.size < wr.heap.size := World.block_lt_of_cell? wr _ hc0
      have HSB := Lib.hid hso
      have HBL := Lib.hid hbl
      have zz : w.heap.size ≤ (wr.alloc (.cells #[.string xn, .int .i64 xo, .string xv] 139)).heap.size := by simp; omega
      clear hso hbl
      go_wp2_with fail
      go_region_with (first
          | (go_at_call 76; refine (HSO.out _ (by first | exact G1.out | exact GW.out)).mono ?_; rintro e w' ⟨rfl, rfl⟩)
          | (go_at_call 77; refine (HQ.out _).mono ?_; rintro e w1 ⟨rfl, hb1⟩; have m0 : w1.cell? ⟨wr.heap.size, 0, none⟩ = some (.string xn) := kept hb1 (by simp); have m1 : w1.cell? ⟨wr.heap.size, 1, none⟩ = some (.int .i64 xo) := kept hb1 (by simp); have mx : w1.cell? ⟨wr.heap.size, 2, none⟩ = some (.string xv) := kept hb1 (by simp); have m2 : w1.cell? ⟨w.heap.size, k, none⟩ = some (.string old) := kept hb1 (by simp [hold]); have m3 : w1.frozen? ⟨w.heap.size, k, none⟩ = false := (hb1.frozen (p := ⟨w.heap.size, k, none⟩) (by simp; omega)).trans (by simp [hfro]); have HB1 := Lib.hid hb1; have GW := Lib.hid (Sg.below (by exact G1.out) hb1); clear hb1))
      all_goals
        go_wp2_with fail
        have hso1 : So encS 1 w1 w.heap.size 9 (.slice (some ⟨w.heap.size, 0, none⟩) l.length l.length) ((l.take k).map partRS ++ List.replicate (l.length - k) emptyS) := by
          first
            | exact (HSB.out.alloc _).below HB1.out
            | exact ((HSB.out.alloc _).drew).below HB1.out
        have hso2 := so_stored hso1 HL.out.symm k y2
        rw [HN.out] at hso2
        have B1 : Below w.heap.size w w1 := by
          first
            | exact (HBL.out.alloc z _).trans (HB1.out.mono zz)
            | exact ((HBL.out.alloc z _).drew).trans (HB1.out.mono zz)
        go_roundw
        case rel => exact ⟨k + 1, by omega, by go_num, hso2, B1.setCell (Nat.le_refl _) _⟩
        case measure => simp [intOf]; omega
    · have hks : k = l.length := by omega
      have hso2 : So encS 1 wr w.heap.size 9 (.slice (some ⟨w.heap.size, 0, none⟩) l.length l.length) (l.map partRS) := by
        have h := hso
        rw [hks, Nat.sub_self, List.take_length] at h
        simpa using h
      have hjl := partsR_len (fun x hx => hS x hx)
      have hjoin : Calls Tryz.prog 78 #[.slice (some ⟨w.heap.size, 0, none⟩) l.length l.length, .string ⟨#[44]⟩] wr (NewStr wr ⟨(Lib.join (l.map partRL) [44]).toArray⟩) := by
        cases hl0 : l with
        | nil =>
          refine (join_none (some ⟨w.heap.size, 0, none⟩) 0 ⟨#[44]⟩ wr).mono ?_
          rintro e w' ⟨rfl, rfl⟩
          exact ⟨rfl, Below.refl _ _⟩
        | cons x r =>
          rw [← hl0]
          have hbk : w.heap.size < wr.heap.size := World.block_lt_of_cell? wr ⟨w.heap.size, 0, none⟩ (so_slot (k := 0) hso2 (by simp) (by rw [hl0]; simp)).1
          have hj := join_any w.heap.size 0 l.length (l.map partRS) ⟨#[44]⟩ wr (fun j y hy => by
            obtain ⟨hj1, hj2⟩ := List.getElem?_eq_some_iff.1 hy
            rw [Nat.zero_add, (so_slot hso2 (by simp) hj1).1, hj2]) hbk (by simp; omega) (by simp) (by rw [partsR_list]; exact Nat.le_trans hjl (by omega))
          rw [partsR_list, List.length_map] at hj
          exact hj
      have HJ := Lib.hid hjoin
      have e1 : (⟨(Lib.join (l.map partRL) [44]).toArray⟩ : ByteArray).size = (Lib.join (l.map partRL) [44]).length := by simp [ByteArray.size]
      have e2 : ((⟨#[123]⟩ ++ ⟨(Lib.join (l.map partRL) [44]).toArray⟩ : ByteArray) ++ ⟨#[125]⟩) = ⟨(textR l).toArray⟩ := by
        apply ByteArray.ext
        apply Array.toList_inj.1
        simp [textR]
      have a1 := str_add ⟨#[123]⟩ ⟨(Lib.join (l.map partRL) [44]).toArray⟩ (by have : (⟨#[123]⟩ : ByteArray).size = 1 := rfl; omega)
      have a2 := str_add (⟨#[123]⟩ ++ ⟨(Lib.join (l.map partRL) [44]).toArray⟩) ⟨#[125]⟩ (by rw [ByteArray.size_append, e1]; have h1 : (⟨#[123]⟩ : ByteArray).size = 1 := rfl; have h2 : (⟨#[125]⟩ : ByteArray).size = 1 := rfl; omega)
      rw [e2] at a2
      have HE := Lib.hid e2
      clear hks hso hso2 hjoin e1 e2 hjl
      generalize (⟨(Lib.join (l.map partRL) [44]).toArray⟩ : ByteArray) = J at *
      generalize (⟨#[123]⟩ ++ J : ByteArray) = J1 at *
      generalize (⟨(textR l).toArray⟩ : ByteArray) = J2 at *
      go_wp2_with (go_at_call 78; refine HJ.out.mono ?_; rintro e w1 ⟨rfl, hb1⟩)
      go_ret
      exact ⟨rfl, hbl.trans (hb1.mono z)⟩
end Go.Proofs.YtcmpenmaphmifaaGreatDoor
namespace Go.Proofs.YtcmpenmaphmifaaGreatDoor
open Go.RowKit

set_option maxRecDepth 100000 in
set_option maxHeartbeats 1600000 in
theorem decimal_any (n0 : Nat) (w : World) (h0 : n0 < 18446744073709551616) : Calls Tryz.prog 81 #[.int .u64 n0] w (Str1 w (dec n0)) := by
  have H0 := Lib.hid h0
  clear h0
  go_enter Tryz.func81, Tryz.ntmps81
  go_wp2_with fail
  go_loopw [0, 3] (fun v s wr => ∃ (n : Nat) (l : List UInt8), n ≤ n0 ∧ v = .int .u64 n ∧ s = .string (strB l) ∧ Hid (dec n ++ l = dec n0) ∧ Below w.heap.size w wr) (fun v _ _ => (intOf v).toNat)
  case atStart => exact ⟨n0, [], Nat.le_refl _, rfl, rfl, Lib.hid (List.append_nil _), Below.refl _ _⟩
  case round =>
    obtain ⟨n, l, hn, rfl, rfl, HL, hbl⟩ := hrel
    have z := hbl.size
    have hl0 := dec_len H0.out
    have hlen : (dec n).length + l.length = (dec n0).length := by rw [← HL.out, List.length_append]
    have hp := dec_pos n
    have hl : (strB l).size ≤ 20 := by rw [strB_size]; omega
    have HN : Hid (n ≤ n0) := Lib.hid hn
    have HM : Hid (n < 18446744073709551616) := Lib.hid (Nat.lt_of_le_of_lt hn H0.out)
    clear hl0 hlen hp hn
    obtain ⟨S, hS⟩ : ∃ S, S = strB l := ⟨_, rfl⟩
    rw [← hS] at hl ⊢
    have HS := Lib.hid hS
    clear hS
    by_cases h9 : n < 10
    · obtain ⟨D, hD⟩ : ∃ D, D = strB [UInt8.ofNat (48 + n)] := ⟨_, rfl⟩
      have hcv := conv1 wr (IntKind.u64.wrap (48 + (n : Int)) % 256) (UInt8.ofNat (48 + n)) (by rw [digit_toNat h9, w64 (x := 48 + (n : Int)) (by omega) (by omega)]; omega)
      rw [← hD] at hcv
      have hd : D.size = 1 := by rw [hD, strB_size]; rfl
      have HD : Hid (D ++ S = strB (dec n0)) := Lib.hid (by rw [hD, HS.out, strB_app, ← HL.out, dec_small h9])
      have e9 : decide (9 < (n : Int)) = false := decide_eq_false (by omega)
      clear h9 hD
      go_wp2_with fail
      go_ret
      exact ⟨by first | rfl | (rw [HD.out]; rfl), hbl.alloc z _⟩
    · obtain ⟨D, hD⟩ : ∃ D, D = strB [UInt8.ofNat (48 + n % 10)] := ⟨_, rfl⟩
      have hcv := conv1 wr (48 + (n : Int) % 10) (UInt8.ofNat (48 + n % 10)) (by rw [digit_toNat (by omega)]; simp)
      rw [← hD] at hcv
      have hd : D.size = 1 := by rw [hD, strB_size]; rfl
      have HD : Hid (D ++ S = strB ([UInt8.ofNat (48 + n % 10)] ++ l)) := Lib.hid (by rw [hD, HS.out, strB_app])
      have HX : Hid (dec (n / 10) ++ ([UInt8.ofNat (48 + n % 10)] ++ l) = dec n0) := Lib.hid (by rw [← HL.out, dec_big h9]; simp)
      have e9 : decide (9 < (n : Int)) = true := decide_eq_true (by omega)
      have H9 := Lib.hid h9
      clear h9 hD
      go_wp2_with fail
      go_roundw
      case rel => exact ⟨n / 10, [UInt8.ofNat (48 + n % 10)] ++ l, (by have := HN.out; omega), (by have := HM.out; rw [w64 (by omega) (by omega)]; rfl), by rw [HD.out], HX, hbl.alloc z _⟩
      case measure => have := H9.out; have := HM.out; rw [w64 (by omega) (by omega)]; simp [intOf]; omega
end Go.Proofs.YtcmpenmaphmifaaGreatDoor
namespace Go.Proofs.YtcmpenmaphmifaaGreatDoor
open Go.RowKit

set_option maxRecDepth 100000 in
set_option maxHeartbeats 1600000 in
theorem whole_any (x : Int) (w : World) (h0 : -9223372036854775808 ≤ x) (h1 : x ≤ 9223372036854775807) : Calls Tryz.prog 48 #[.int .i64 x] w (Str1 w (Lib.itoa x)) := by
  have hlen := itoa_len h0 h1
  by_cases hx : x < 0
  · obtain ⟨U, hU, m, hm, hv⟩ : ∃ U : Int, IntKind.u64.wrap x = U ∧ ∃ m : Nat, m = x.natAbs ∧ IntKind.u64.wrap (-U) = (m : Int) := ⟨_, rfl, _, rfl, by rw [IntKind.wrap_u64, IntKind.wrap_u64]; omega⟩
    have hb := decimal_any m w (by omega)
    have hl : (strB (dec m)).size ≤ 20 := by rw [strB_size]; exact dec_len (by omega)
    obtain ⟨S, hS⟩ : ∃ S, S = strB (dec m) := ⟨_, rfl⟩
    have HF : Hid ((⟨#[45]⟩ : ByteArray) ++ S = strB (Lib.itoa x)) := Lib.hid (by rw [hS, itoa_neg hx, hm]; exact strB_app [45] _)
    unfold Str1 at hb
    rw [← hS] at hb hl
    have HB := Lib.hid hb
    have ex : decide (x < 0) = true := decide_eq_true hx
    clear hb hlen hx h0 h1 hS hm
    go_enter Tryz.func48, Tryz.ntmps48
    go_wp2_with (refine (HB.out).mono ?_; rintro e w1 ⟨rfl, hb1⟩; have z1 := hb1.size)
    go_ret
    exact ⟨by first | rfl | (rw [HF.out]; rfl), hb1⟩
  · obtain ⟨m, hm, hv⟩ : ∃ m : Nat, m = x.toNat ∧ IntKind.u64.wrap x = (m : Int) := ⟨_, rfl, by rw [IntKind.wrap_u64]; omega⟩
    have HB := Lib.hid (decimal_any m w (by omega))
    have HF : Hid (dec m = Lib.itoa x) := Lib.hid (by rw [hm]; exact (itoa_pos hx).symm)
    have ex : decide (x < 0) = false := decide_eq_false hx
    clear hlen hx h0 h1 hm
    go_enter Tryz.func48, Tryz.ntmps48
    go_wp2_with (refine (HB.out).mono ?_; rintro e w1 ⟨rfl, hb1⟩; have z1 := hb1.size)
    go_ret
    exact ⟨by first | rfl | (rw [HF.out]; rfl), hb1⟩
end Go.Proofs.YtcmpenmaphmifaaGreatDoor
namespace Go.Proofs.YtcmpenmaphmifaaGreatDoor
open Go.RowKit

/-- The table of powers of ten lies in its variable. -/
abbrev Pow (w : World) : Prop := Lib.TabIs Tryz.prog w "internal/strconv.uint64pow10" .u64 Lib.pow10Tab
theorem gPow : Tryz.prog.globalNamed "internal/strconv.uint64pow10" = some 3 := by kernel_rfl
theorem Pow.block {w w' : World} (h : Pow w) (hb : w'.heap[3]? = w.heap[3]?) : Pow w' := by
  unfold Pow Lib.TabIs World.var? at *
  rw [gPow] at *
  simp only [Option.bind_some] at *
  rw [hb]
  exact h
theorem Pow.lt {w : World} (h : Pow w) : 3 < w.heap.size := by
  have := World.var?_cell gPow h 0
  exact World.block_lt_of_cell? w ⟨3, 0, none⟩ (u := .int .u64 1) (this.trans (by first | rfl | kernel_rfl | simp [Lib.pow10Tab]))
theorem Pow.below {w w' : World} (h : Pow w) (hb : Below w.heap.size w w') : Pow w' := h.block (hb.block _ h.lt)

/-- Three strings in a block. -/
structure B3 (w : World) (b : Nat) (u : Nat → ByteArray) : Prop where
  at_ : ∀ i, i < 3 → w.cell? ⟨b, i, none⟩ = some (.string (u i))
  fr : ∀ o, w.frozen? ⟨b, o, none⟩ = false
  lt : b < w.heap.size
theorem B3.below {w w' : World} {b : Nat} {u : Nat → ByteArray} (h : B3 w b u) (hb : Below w.heap.size w w') : B3 w' b u :=
  ⟨fun i hi => kept hb (h.at_ i hi), fun o => (hb.frozen (p := ⟨b, o, none⟩) h.lt).trans (h.fr o), Nat.lt_of_lt_of_le h.lt hb.size⟩
theorem B3.set {w : World} {b : Nat} {u : Nat → ByteArray} (h : B3 w b u) {i : Nat} (hi : i < 3) (x : ByteArray) : B3 (w.setCell ⟨b, i, none⟩ (.string x)) b (fun j => if j = i then x else u j) := by
  refine ⟨fun j hj => ?_, fun o => ?_, ?_⟩
  · by_cases e : j = i
    · subst e
      show _ = some (Value.string (if j = j then x else u j))
      rw [if_pos rfl]
      exact World.cell?_setCell_same' _ _ _ (by rw [h.at_ j hi]; rfl)
    · simp only [if_neg e]
      rw [World.cell?_setCell_other _ _ _ _ (by simp)]
      exact h.at_ j hj
  · rw [World.frozen?_setCell]; exact h.fr o
  · have := h.lt; simpa [World.setCell] using this
theorem B3.mk3 {w : World} {b : Nat} {u : Nat → ByteArray} (h0 : w.cell? ⟨b, 0, none⟩ = some (.string (u 0))) (h1 : w.cell? ⟨b, 1, none⟩ = some (.string (u 1))) (h2 : w.cell? ⟨b, 2, none⟩ = some (.string (u 2)))
    (hf : ∀ o, w.frozen? ⟨b, o, none⟩ = false) : B3 w b u :=
  ⟨fun i hi => by
    rcases (show i = 0 ∨ i = 1 ∨ i = 2 by omega) with rfl | rfl | rfl
    · exact h0
    · exact h1
    · exact h2, hf, World.block_lt_of_cell? w ⟨b, 0, none⟩ h0⟩

theorem format_any (n : Int) (w : World) (h0 : -9223372036854775808 ≤ n) (h1 : n ≤ 9223372036854775807) (hw : Pow w) :
    Calls Tryz.prog 45 #[.int .i64 n, .int .i64 10] w (Str1 w (Lib.itoa n)) :=
  (Tryz.strconv_FormatInt_10 n h0 h1 w hw).mono fun e w' h => by
    obtain ⟨rfl, k, os, rfl⟩ := h
    exact ⟨rfl, Lib.below_grow _ w (Nat.le_refl _) k os⟩
end Go.Proofs.YtcmpenmaphmifaaGreatDoor
