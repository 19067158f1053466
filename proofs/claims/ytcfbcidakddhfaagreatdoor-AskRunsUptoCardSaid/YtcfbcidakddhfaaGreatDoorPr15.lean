/- Rules as a text, as plain functions. -/
import Derived.Test.YtcfbcidakddhfaaGreatDoorPr12
import Derived.Test.YtcfbcidakddhfaaGreatDoorPr0
import Derived.Test.YtcfbcidakddhfaaGreatDoorPr1
import Derived.Laws.RangeString
import Derived.Laws.Runes
import Derived.Deep.LoopGhost
import Derived.Deep.QuietTactic
import Derived.BigQuiet
import Derived.LoopTactic
import Derived.Test.YtcfbcidakddhfaaGreatDoorPr13
import Derived.Test.YtcfbcidakddhfaaGreatDoorPr10
import Derived.RegionTactic
import Derived.Lib.AppendIntMem
import Derived.Test.YtcfbcidakddhfaaGreatDoorPr9
namespace Go.Proofs.YtcfbcidakddhfaaGreatDoor
open Go.RowKit

theorem indexByte_hi (l : List UInt8) (c : UInt8) (h : ∀ b ∈ l, b ≠ c) : Lib.indexByte l c = -1 := by
  induction l with
  | nil => rfl
  | cons b l ih =>
    have h1 := h b (by simp)
    have h2 := ih fun x hx => h x (by simp [hx])
    unfold Lib.indexByte
    rw [h2]
    have : (b == c) = false := by simpa using h1
    simp [this]
def sgS : ByteArray := ⟨#[61, 33, 94, 42]⟩
theorem below_iter {B : Nat} {a w : World} (h : Below B a w) (hB : B ≤ w.heap.size) (s : ByteArray) (p : Nat) : Below B a (w.iter s p) := h.alloc hB _
set_option maxRecDepth 100000 in
set_option maxHeartbeats 3200000 in
theorem indexRune_err (w : World) : Calls Tryz.prog 96 #[.string sgS, .int .i32 65533] w fun e w' => e = .returned (.int .i64 (-1)) ∧ Below w.heap.size w w' := by
  go_enter Tryz.func96, Tryz.ntmps96
  go_wp2_with fail
  go_loopg [5, 6] 4 (fun g _ _ wx => ∃ i : Nat, i + g = 4 ∧ wx = w.iter sgS i)
  case atStart => exact ⟨0, by omega, rfl⟩
  case round =>
    obtain ⟨i, hig, rfl⟩ := hrel
    cases gk with
    | zero =>
      obtain rfl : i = 4 := by omega
      have hnx := fun ty => run_next_end (P := Tryz.prog) w sgS 4 ty (by decide)
      go_wp2_with fail
      go_ret
      exact ⟨rfl, below_iter (Below.refl _ _) (Nat.le_refl _) _ _⟩
    | succ g =>
      have hi : i = 0 ∨ i = 1 ∨ i = 2 ∨ i = 3 := by omega
      have hgg : i + 1 + g = 4 := by omega
      clear hig
      obtain ⟨x, hx, hx2⟩ : ∃ x : Nat, (∀ ty, (Instr.next (.pointer (some ⟨w.heap.size, 0, none⟩)) true ty).run Tryz.prog (w.iter sgS i) = .ok (.tuple #[.bool true, .int .i64 i, .int .i32 x]) (w.iter sgS (i + 1))) ∧ x < 128 := by
        rcases hi with rfl | rfl | rfl | rfl
        · exact ⟨61, fun ty => run_next_ascii (P := Tryz.prog) w sgS 0 ty (by decide) (by decide), by decide⟩
        · exact ⟨33, fun ty => run_next_ascii (P := Tryz.prog) w sgS 1 ty (by decide) (by decide), by decide⟩
        · exact ⟨94, fun ty => run_next_ascii (P := Tryz.prog) w sgS 2 ty (by decide) (by decide), by decide⟩
        · exact ⟨42, fun ty => run_next_ascii (P := Tryz.prog) w sgS 3 ty (by decide) (by decide), by decide⟩
      have hx3 : ((x : Int) == 65533) = false := beq_eq_false_iff_ne.2 (by omega)
      go_wp2_with fail
      go_roundg g
      case measure => omega
      case rel => exact ⟨i + 1, hgg, rfl⟩

set_option maxRecDepth 100000 in
set_option maxHeartbeats 3200000 in
theorem indexRune_hi (r : Int) (w : World) (h128 : 128 ≤ r) (hr : r ≤ 1114111) (hv : Utf8.valid r = true) (hne : r ≠ 65533) : Calls Tryz.prog 96 #[.string ⟨#[61, 33, 94, 42]⟩, .int .i32 r] w fun e w' => e = .returned (.int .i64 (-1)) ∧ Below w.heap.size w w' := by
  obtain ⟨e2, e4, elast⟩ := encode_facts r hv h128
  have hvr : Lib.validRune r = true := by
    unfold Utf8.valid at hv
    unfold Lib.validRune
    simp at hv ⊢
    omega
  have hn1 : (r == 65533) = false := beq_eq_false_iff_ne.2 hne
  have hlast : ∃ c : UInt8, (∀ h : (Utf8.encode r).size - 1 < (Utf8.encode r).size, (Utf8.encode r)[(Utf8.encode r).size - 1]'h = c) ∧ 128 ≤ c.toNat := ⟨(Utf8.encode r)[(Utf8.encode r).size - 1]'(by omega), fun _ => rfl, elast (by omega)⟩
  obtain ⟨c, hc, hc128⟩ := hlast
  have hib : ∀ k : Nat, Lib.indexByte (([61, 33, 94, 42] : List UInt8).drop k) c = -1 := fun k => indexByte_hi _ c fun b hb => by
    have hm := List.mem_of_mem_drop hb
    simp at hm
    rintro rfl
    rcases hm with rfl | rfl | rfl | rfl <;> exact absurd hc128 (by decide)
  clear hv hne elast
  have HVR := Lib.hid hvr
  have HC := Lib.hid hc
  have HIB := Lib.hid hib
  clear hvr hc hib
  go_enter Tryz.func96, Tryz.ntmps96
  go_wp2_with (go_at_call 115; refine (Tryz.utf8_ValidRune r _).mono ?_; rintro e w' ⟨rfl, rfl⟩; rw [HVR.out])
  go_step3
  have j0 : (0 : Int) ≤ ((Utf8.encode r).size : Int) - 1 := by omega
  go_wp2_with fail
  generalize Utf8.encode r = E at *
  have hsz : E.size = 2 ∨ E.size = 3 ∨ E.size = 4 := by omega
  rcases hsz with hsz | hsz | hsz
  · have hcE : ∃ h, E[1]'h = c := ⟨by omega, by have := HC.out (by omega); simpa only [hsz] using this⟩
    obtain ⟨hb, hcE⟩ := hcE
    have hc9 : (⟨#[61, 33, 94, 42]⟩ : ByteArray)[1]'(by decide) = 33 := rfl
    have hne : ((((⟨#[61, 33, 94, 42]⟩ : ByteArray)[1]'(by decide)).toNat : Int) != (c.toNat : Int)) = true := by
      rw [hc9, bne_iff_ne]
      have : (33 : UInt8).toNat = 33 := rfl
      omega
    have HIX : Hid (∀ W, Calls Tryz.prog 114 #[.string ((⟨#[61, 33, 94, 42]⟩ : ByteArray).extract 2 4), .int .u8 (c.toNat : Int)] W fun e w' => e = .returned (.int .i64 (-1)) ∧ w' = W) := Lib.hid (fun W => by
      have h := Tryz.strings_IndexByte ((⟨#[61, 33, 94, 42]⟩ : ByteArray).extract 2 4) (c.toNat : Int) W
      have e1 : ((⟨#[61, 33, 94, 42]⟩ : ByteArray).extract 2 4).data.toList = ([61, 33, 94, 42] : List UInt8).drop 2 := rfl
      have e2 : ((c.toNat : Int)).toNat.toUInt8 = c := by simp
      rw [e1, e2, HIB.out 2] at h
      exact h)
    clear hc9
    have HZ := Lib.hid hsz
    clear HC HIB e2 e4 j0
    rw [hsz]
    clear hsz
    go_loop [9] (fun i => i = .int .i64 1) (fun _ => 0)
    case atStart => rfl
    case round =>
      obtain rfl := hrel
      go_wp2_with fail
      go_step3
      go_wp2_with fail
      go_quiet (fail)
      generalize hW : World.drewN w' _ = W2
      have BW : Below w'.heap.size w' W2 := hW ▸ ⟨rfl, rfl, rfl, Nat.le_refl _, fun _ _ => rfl⟩
      clear hW
      go_wp2_with fail
      go_quiet ((go_at_call 114; exact Calls.quiet_of_same (HIX.out _)))
      all_goals go_wp2_with fail
      all_goals (try rw [Exit.noGoto_ret])
      all_goals go_wp2_with fail
      all_goals (try rw [Exit.noGoto_ret])
      all_goals (try go_wp2_with fail)
      all_goals go_ret
      all_goals exact ⟨rfl, BW.trans ⟨rfl, rfl, rfl, Nat.le_refl _, fun _ _ => rfl⟩⟩
  · have hcE : ∃ h, E[2]'h = c := ⟨by omega, by have := HC.out (by omega); simpa only [hsz] using this⟩
    obtain ⟨hb, hcE⟩ := hcE
    have hc9 : (⟨#[61, 33, 94, 42]⟩ : ByteArray)[2]'(by decide) = 94 := rfl
    have hne : ((((⟨#[61, 33, 94, 42]⟩ : ByteArray)[2]'(by decide)).toNat : Int) != (c.toNat : Int)) = true := by
      rw [hc9, bne_iff_ne]
      have : (94 : UInt8).toNat = 94 := rfl
      omega
    have HIX : Hid (∀ W, Calls Tryz.prog 114 #[.string ((⟨#[61, 33, 94, 42]⟩ : ByteArray).extract 3 4), .int .u8 (c.toNat : Int)] W fun e w' => e = .returned (.int .i64 (-1)) ∧ w' = W) := Lib.hid (fun W => by
      have h := Tryz.strings_IndexByte ((⟨#[61, 33, 94, 42]⟩ : ByteArray).extract 3 4) (c.toNat : Int) W
      have e1 : ((⟨#[61, 33, 94, 42]⟩ : ByteArray).extract 3 4).data.toList = ([61, 33, 94, 42] : List UInt8).drop 3 := rfl
      have e2 : ((c.toNat : Int)).toNat.toUInt8 = c := by simp
      rw [e1, e2, HIB.out 3] at h
      exact h)
    clear hc9
    have HZ := Lib.hid hsz
    clear HC HIB e2 e4 j0
    rw [hsz]
    clear hsz
    go_loop [9] (fun i => i = .int .i64 2) (fun _ => 0)
    case atStart => rfl
    case round =>
      obtain rfl := hrel
      go_wp2_with fail
      go_step3
      go_wp2_with fail
      go_quiet (fail)
      generalize hW : World.drewN w' _ = W2
      have BW : Below w'.heap.size w' W2 := hW ▸ ⟨rfl, rfl, rfl, Nat.le_refl _, fun _ _ => rfl⟩
      clear hW
      go_wp2_with fail
      go_quiet ((go_at_call 114; exact Calls.quiet_of_same (HIX.out _)))
      all_goals go_wp2_with fail
      all_goals (try rw [Exit.noGoto_ret])
      all_goals go_wp2_with fail
      all_goals (try rw [Exit.noGoto_ret])
      all_goals (try go_wp2_with fail)
      all_goals go_ret
      all_goals exact ⟨rfl, BW.trans ⟨rfl, rfl, rfl, Nat.le_refl _, fun _ _ => rfl⟩⟩
  · have hcE : ∃ h, E[3]'h = c := ⟨by omega, by have := HC.out (by omega); simpa only [hsz] using this⟩
    obtain ⟨hb, hcE⟩ := hcE
    have hc9 : (⟨#[61, 33, 94, 42]⟩ : ByteArray)[3]'(by decide) = 42 := rfl
    have hne : ((((⟨#[61, 33, 94, 42]⟩ : ByteArray)[3]'(by decide)).toNat : Int) != (c.toNat : Int)) = true := by
      rw [hc9, bne_iff_ne]
      have : (42 : UInt8).toNat = 42 := rfl
      omega
    have HIX : Hid (∀ W, Calls Tryz.prog 114 #[.string ((⟨#[61, 33, 94, 42]⟩ : ByteArray).extract 4 4), .int .u8 (c.toNat : Int)] W fun e w' => e = .returned (.int .i64 (-1)) ∧ w' = W) := Lib.hid (fun W => by
      have h := Tryz.strings_IndexByte ((⟨#[61, 33, 94, 42]⟩ : ByteArray).extract 4 4) (c.toNat : Int) W
      have e1 : ((⟨#[61, 33, 94, 42]⟩ : ByteArray).extract 4 4).data.toList = ([61, 33, 94, 42] : List UInt8).drop 4 := rfl
      have e2 : ((c.toNat : Int)).toNat.toUInt8 = c := by simp
      rw [e1, e2, HIB.out 4] at h
      exact h)
    clear hc9
    have HZ := Lib.hid hsz
    clear HC HIB e2 e4 j0
    rw [hsz]
    clear hsz
    go_loop [9] (fun i => i = .int .i64 3) (fun _ => 0)
    case atStart => rfl
    case round =>
      obtain rfl := hrel
      go_wp2_with fail
      go_step3
      go_wp2_with fail
      go_quiet (fail)
      generalize hW : World.drewN w' _ = W2
      have BW : Below w'.heap.size w' W2 := hW ▸ ⟨rfl, rfl, rfl, Nat.le_refl _, fun _ _ => rfl⟩
      clear hW
      go_wp2_with fail
      go_quiet ((go_at_call 114; exact Calls.quiet_of_same (HIX.out _)))
      all_goals go_wp2_with fail
      all_goals (try rw [Exit.noGoto_ret])
      all_goals go_wp2_with fail
      all_goals (try rw [Exit.noGoto_ret])
      all_goals (try go_wp2_with fail)
      all_goals go_ret
      all_goals exact ⟨rfl, BW.trans ⟨rfl, rfl, rfl, Nat.le_refl _, fun _ _ => rfl⟩⟩
end Go.Proofs.YtcfbcidakddhfaaGreatDoor
namespace Go.Proofs.YtcfbcidakddhfaaGreatDoor
open Go.RowKit

/-- The library's variable in memory. -/
def Mx (w : World) : Prop := ∃ m, w.cell? ⟨1, 0, none⟩ = some (.int .i64 m)
theorem Mx.below {w w' : World} (h : Mx w) (hb : Below w.heap.size w w') : Mx w' := by
  obtain ⟨m, h⟩ := h
  exact ⟨m, kept hb h⟩
theorem contains_any (s p : ByteArray) (w : World) (hs : s.size ≤ 1048576) (hm : Mx w) : Calls Tryz.prog 75 #[.string s, .string p] w fun e w' => e = .returned (.bool (Lib.contains s.data.toList p.data.toList)) ∧ w = w' := by
  obtain ⟨m, hm⟩ := hm
  exact (Tryz.strings_Contains s p m w (by omega) hm).mono fun _ _ h => ⟨h.1, h.2.symm⟩

set_option maxHeartbeats 1600000 in
theorem holds_any (xn xv v : ByteArray) (o : Int) (w : World) (hm : Mx w) (hv : v.size ≤ 1048576) :
    Calls Tryz.prog 54 #[.agg #[.string xn, .int .i64 o, .string xv], .string v] w fun e w' => e = .returned (.bool (holdB o xv v)) ∧ Below w.heap.size w w' := by
  have B0 : Below w.heap.size w (w.alloc (.cells #[.string xn, .int .i64 o, .string xv] 108)) := (Below.refl _ _).alloc (Nat.le_refl _) _
  have HM := Lib.hid (hm.below B0)
  clear hm
  by_cases h1 : o = 1
  · have HF : Hid (holdB o xv v = (v.toList == xv.toList)) := Lib.hid (by simp [holdB, h1])
    subst h1
    go_enter Tryz.func54, Tryz.ntmps54
    go_wp2
    go_ret
    exact ⟨ret_bool HF.out.symm, B0⟩
  by_cases h2 : o = 2
  · have HF : Hid (holdB o xv v = !(v.toList == xv.toList)) := Lib.hid (by simp [holdB, h2])
    subst h2
    clear h1
    go_enter Tryz.func54, Tryz.ntmps54
    go_wp2
    go_ret
    exact ⟨ret_bool (by rw [HF.out]), B0⟩
  by_cases h3 : o = 3
  · have HF : Hid (holdB o xv v = Lib.hasPrefix v.data.toList xv.data.toList) := Lib.hid (by simp [holdB, h3])
    subst h3
    clear h1 h2
    go_enter Tryz.func54, Tryz.ntmps54
    go_wp2_with (go_at_call 57; refine (hasPrefix_any v xv _).mono ?_; rintro e w' ⟨rfl, rfl⟩)
    go_ret
    exact ⟨ret_bool HF.out.symm, B0⟩
  by_cases h4 : o = 4
  · have HF : Hid (holdB o xv v = Lib.contains v.data.toList xv.data.toList) := Lib.hid (by simp [holdB, h4])
    subst h4
    clear h1 h2 h3
    go_enter Tryz.func54, Tryz.ntmps54
    go_wp2_with (go_at_call 75; refine (contains_any v xv _ hv HM.out).mono ?_; rintro e w' ⟨rfl, rfl⟩)
    go_ret
    exact ⟨ret_bool HF.out.symm, B0⟩
  · have HF : Hid (holdB o xv v = false) := Lib.hid (by simp [holdB, h1, h2, h3, h4])
    have e1 : (o == 1) = false := beq_eq_false_iff_ne.2 h1
    have e2 : (o == 2) = false := beq_eq_false_iff_ne.2 h2
    have e3 : (o == 3) = false := beq_eq_false_iff_ne.2 h3
    have e4 : (o == 4) = false := beq_eq_false_iff_ne.2 h4
    clear h1 h2 h3 h4
    go_enter Tryz.func54, Tryz.ntmps54
    go_wp2
    go_ret
    exact ⟨ret_bool HF.out.symm, B0⟩

theorem getL_sm {s : List Pp} (hS : Sm s) (n : ByteArray) : (getL s n).size ≤ 1048576 := by
  induction s with
  | nil => exact Nat.zero_le _
  | cons x l ih =>
    rw [getL]
    split
    · exact (hS x (by simp)).2
    · exact ih fun y hy => hS y (by simp [hy])

set_option maxHeartbeats 3200000 in
theorem allR_any (K : Nat) (A B : Option Addr) (n cap m capb : Nat) (l : List Rp) (s : List Pp) (w : World) (hln : l.length = n) (hlm : s.length = m) (hp : Rr w K A cap l) (hq : Lr w K B capb s) (hK : K ≤ w.heap.size) (hS : Sm s) (hm : Mx w) :
    Calls Tryz.prog 37 #[.slice A n cap, .slice B m capb] w fun e w' => e = .returned (.bool (allB s l)) ∧ Below w.heap.size w w' := by
  subst hln hlm
  have hle := hp.le
  have hmax := hp.max
  unfold maxLen at hmax
  have HM := Lib.hid hm
  clear hm
  go_enter Tryz.func37, Tryz.ntmps37
  go_wp2
  go_loopw [9] (fun i wr => ∃ k : Nat, k ≤ l.length ∧ i = .int .i64 k ∧ Hid (allTo s l k = true) ∧ Below w.heap.size w wr) (fun i _ => l.length - (intOf i).toNat)
  case atStart => exact ⟨0, Nat.zero_le _, rfl, Lib.hid (allTo_zero s l), Below.refl _ _⟩
  case round =>
    obtain ⟨k, hk, rfl, HT, hbl⟩ := hrel
    have z := hbl.size
    by_cases hlt : k < l.length
    · obtain ⟨ad, rfl, hadK, h1, h2, h3⟩ := rr_at (hp.below (hbl.mono hK)) hlt
      have hnext := allTo_succ s hlt
      have hno : oneB s (l.getD k nilR) = false → allB s l = false := allB_no hlt
      have hone : oneB s (l.getD k nilR) = holdB (l.getD k nilR).2.1 (l.getD k nilR).2.2 (getL s (l.getD k nilR).1) := rfl
      generalize l.getD k nilR = x at *
      obtain ⟨xn, xo, xv⟩ := x
      simp only at h1 h2 h3 hone
      have B1 := hbl.alloc z (.cells #[.string xn, .int .i64 xo, .string xv] 108)
      have B1d := B1.drew
      have z1 : w.heap.size ≤ (wr.alloc (.cells #[.string xn, .int .i64 xo, .string xv] 108)).heap.size := by simp; omega
      have HG := Lib.hid (fun W => getv_any K B s.length capb s xn W rfl)
      have hgs := getL_sm hS xn
      have HC := Lib.hid (fun W (h : Mx W) => holds_any xn xv (getL s xn) xo W h hgs)
      have HQ := Lib.hid hq
      generalize getL s xn = gv at *
      by_cases hr : oneB s (xn, xo, xv) = true
      · have HN : Hid (allTo s l (k + 1) = true) := Lib.hid (by rw [hnext, HT.out, hr]; rfl)
        rw [← hone, hr] at HC
        clear hnext hno hr hone
        go_wp2_with fail
        go_region_with (first
          | (go_at_call 55; refine (HG.out _ (HQ.out.below (B1d.mono hK)) (by simp; omega)).mono ?_; rintro e w1 ⟨rfl, hb1⟩; have m0 : w1.cell? ⟨wr.heap.size, 0, none⟩ = some (.string xn) := kept hb1 (by simp); have m1 : w1.cell? ⟨wr.heap.size, 1, none⟩ = some (.int .i64 xo) := kept hb1 (by simp); have m2 : w1.cell? ⟨wr.heap.size, 2, none⟩ = some (.string xv) := kept hb1 (by simp); have B2 := B1d.trans (hb1.mono z1); clear hb1)
          | (go_at_call 54; refine (HC.out _ (HM.out.below B2)).mono ?_; rintro e w2 ⟨rfl, hb2⟩; have B3 := B2.trans (hb2.mono B2.size)))
        all_goals go_wp2_with fail
        all_goals go_roundw
        all_goals first
          | exact ⟨k + 1, by omega, by go_num, HN, B3⟩
          | (simp [intOf]; omega)
      · have hr : oneB s (xn, xo, xv) = false := by simpa using hr
        have HF : Hid (allB s l = false) := Lib.hid (hno hr)
        rw [← hone, hr] at HC
        clear hnext hno hr hone
        go_wp2_with fail
        go_region_with (first
          | (go_at_call 55; refine (HG.out _ (HQ.out.below (B1d.mono hK)) (by simp; omega)).mono ?_; rintro e w1 ⟨rfl, hb1⟩; have m0 : w1.cell? ⟨wr.heap.size, 0, none⟩ = some (.string xn) := kept hb1 (by simp); have m1 : w1.cell? ⟨wr.heap.size, 1, none⟩ = some (.int .i64 xo) := kept hb1 (by simp); have m2 : w1.cell? ⟨wr.heap.size, 2, none⟩ = some (.string xv) := kept hb1 (by simp); have B2 := B1d.trans (hb1.mono z1); clear hb1)
          | (go_at_call 54; refine (HC.out _ (HM.out.below B2)).mono ?_; rintro e w2 ⟨rfl, hb2⟩; have B3 := B2.trans (hb2.mono B2.size)))
        all_goals go_wp2_with fail
        all_goals go_ret
        all_goals exact ⟨ret_bool HF.out.symm, B3⟩
    · have hks : k = l.length := by omega
      have HF : Hid (allB s l = true) := Lib.hid (by rw [← allTo_all, ← hks]; exact HT.out)
      clear hks
      go_wp2_with fail
      go_ret
      exact ⟨ret_bool HF.out.symm, hbl⟩
end Go.Proofs.YtcfbcidakddhfaaGreatDoor
namespace Go.Proofs.YtcfbcidakddhfaaGreatDoor
open Go.RowKit

/-- The table of powers of ten lies in its variable. -/
abbrev Pow (w : World) : Prop := Lib.TabIs Tryz.prog w "internal/strconv.uint64pow10" .u64 Lib.pow10Tab
theorem gPow : Tryz.prog.globalNamed "internal/strconv.uint64pow10" = some 5 := by kernel_rfl
theorem Pow.block {w w' : World} (h : Pow w) (hb : w'.heap[5]? = w.heap[5]?) : Pow w' := by
  unfold Pow Lib.TabIs World.var? at *
  rw [gPow] at *
  simp only [Option.bind_some] at *
  rw [hb]
  exact h
theorem Pow.lt {w : World} (h : Pow w) : 5 < w.heap.size := by
  have := World.var?_cell gPow h 0
  exact World.block_lt_of_cell? w ⟨5, 0, none⟩ (u := .int .u64 1) (this.trans (by first | rfl | kernel_rfl | simp [Lib.pow10Tab]))
theorem Pow.below {w w' : World} (h : Pow w) (hb : Below w.heap.size w w') : Pow w' := h.block (hb.block _ h.lt)

/-- Three strings in a block. -/
structure B3 (w : World) (b : Nat) (u : Nat → ByteArray) : Prop where
  at_ : ∀ i, i < 3 → w.cell? ⟨b, i, none⟩ = some (.string (u i))
  fr : ∀ o, w.frozen? ⟨b, o, none⟩ = false
  lt : b < w.heap.size
theorem B3.below {w w' : World} {b : Nat} {u : Nat → ByteArray} (h : B3 w b u) (hb : Below w.heap.size w w') : B3 w' b u :=
  ⟨fun i hi => kept hb (h.at_ i hi), fun o => (hb.frozen (p := ⟨b, o, none⟩) h.lt).trans (h.fr o), Nat.lt_of_lt_of_le h.lt hb.size⟩
theorem B3.set {w : World} {b : Nat} {u : Nat → ByteArray} (h : B3 w b u) {i : Nat} (hi : i < 3) (x : ByteArray) : B3 (w.setCell ⟨b, i, none⟩ (.string x)) b (fun j => if j = i then x else u j) := by
  refine ⟨fun j hj => ?_, fun o => ?_, ?_⟩
  · by_cases e : j = i
    · subst e
      show _ = some (Value.string (if j = j then x else u j))
      rw [if_pos rfl]
      exact World.cell?_setCell_same' _ _ _ (by rw [h.at_ j hi]; rfl)
    · simp only [if_neg e]
      rw [World.cell?_setCell_other _ _ _ _ (by simp)]
      exact h.at_ j hj
  · rw [World.frozen?_setCell]; exact h.fr o
  · have := h.lt; simpa [World.setCell] using this
theorem B3.mk3 {w : World} {b : Nat} {u : Nat → ByteArray} (h0 : w.cell? ⟨b, 0, none⟩ = some (.string (u 0))) (h1 : w.cell? ⟨b, 1, none⟩ = some (.string (u 1))) (h2 : w.cell? ⟨b, 2, none⟩ = some (.string (u 2)))
    (hf : ∀ o, w.frozen? ⟨b, o, none⟩ = false) : B3 w b u :=
  ⟨fun i hi => by
    rcases (show i = 0 ∨ i = 1 ∨ i = 2 by omega) with rfl | rfl | rfl
    · exact h0
    · exact h1
    · exact h2, hf, World.block_lt_of_cell? w ⟨b, 0, none⟩ h0⟩

theorem format_any (n : Int) (w : World) (h0 : -9223372036854775808 ≤ n) (h1 : n ≤ 9223372036854775807) (hw : Pow w) :
    Calls Tryz.prog 84 #[.int .i64 n, .int .i64 10] w (Str1 w (Lib.itoa n)) :=
  (Tryz.strconv_FormatInt_10 n h0 h1 w hw).mono fun e w' h => by
    obtain ⟨rfl, k, os, rfl⟩ := h
    exact ⟨rfl, Lib.below_grow _ w (Nat.le_refl _) k os⟩
end Go.Proofs.YtcfbcidakddhfaaGreatDoor
namespace Go.Proofs.YtcfbcidakddhfaaGreatDoor
open Go.RowKit

/-- A rule's part of the text. -/
def partRL (x : Rp) : List UInt8 := x.1.data.toList ++ sgB x.2.1 ++ quoteB x.2.2
def partRS (x : Rp) : ByteArray := x.1 ++ ⟨(sgB x.2.1).toArray⟩ ++ ⟨(quoteB x.2.2).toArray⟩
theorem partRS_list (x : Rp) : (partRS x).data.toList = partRL x := by simp [partRS, partRL]
def SmR2 (l : List Rp) : Prop := ∀ x ∈ l, x.1.size ≤ 1048576 ∧ x.2.2.size ≤ 1048576
theorem partRL_len {x : Rp} (h : x.1.size ≤ 1048576 ∧ x.2.2.size ≤ 1048576) : (partRL x).length ≤ 4000000 := by
  have h2 := quoteB_len x.2.2
  have h4 := sgB_len x.2.1
  have h3 : x.1.data.toList.length = x.1.size := by simp
  simp only [partRL, List.length_append, h3]
  omega
def textR (l : List Rp) : List UInt8 := 123 :: (Lib.join (l.map partRL) [44] ++ [125])
theorem partsR_len {l : List Rp} (h : SmR2 l) : (Lib.join (l.map partRL) [44]).length ≤ l.length * 4000001 := by
  have := join_len_le [44] 4000000 (l.map partRL) (fun x hx => by
    obtain ⟨p, hp, rfl⟩ := List.mem_map.1 hx
    exact partRL_len (h p hp))
  simpa using this
theorem partsR_list (l : List Rp) : (l.map partRS).map (·.data.toList) = l.map partRL := by
  rw [List.map_map]
  apply List.map_congr_left
  intro x _
  exact partRS_list x
end Go.Proofs.YtcfbcidakddhfaaGreatDoor
