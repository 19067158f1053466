/- The document's Same. -/
import Derived.Test.YtcfbcidakddhfaaGreatDoorPr11
import Derived.Test.YtcfbcidakddhfaaGreatDoorPr1
import Derived.Test.YtcfbcidakddhfaaGreatDoorPr8
import Derived.Deep.RegionHeld3
import Derived.Test.YtcfbcidakddhfaaGreatDoorPr5
import Derived.BigQuiet
import Derived.Deep.QuietTactic
import Derived.Test.YtcfbcidakddhfaaGreatDoorPr4
import Derived.Test.YtcfbcidakddhfaaGreatDoorPr10
namespace Go.Proofs.YtcfbcidakddhfaaGreatDoor
open Go.RowKit

theorem or_any (b : Nat) (u v : Int) (w : World) (h0 : w.cell? ⟨b, 0, none⟩ = some (.int .i64 u)) (h1 : w.cell? ⟨b, 1, none⟩ = some (.int .i64 v)) :
    Calls Tryz.prog 52 #[.slice (some ⟨b, 0, none⟩) 2 2] w fun e w' => e = .returned (.int .i64 (orI u v)) ∧ w = w' := by
  by_cases hu : u = 0
  · have e : orI u v = v := by simp [orI, hu]
    rw [e]
    subst hu
    clear e
    by_cases hv : v = 0
    · subst hv
      go_enter Tryz.func52, Tryz.ntmps52
      go_wp2
      go_rounds 4
      all_goals go_ret
      all_goals exact ⟨rfl, rfl⟩
    · have hv2 : (v == 0) = false := by simpa using hv
      have hv3 : (v != 0) = true := by simpa using hv
      go_enter Tryz.func52, Tryz.ntmps52
      go_wp2
      go_rounds 4
      all_goals go_ret
      all_goals exact ⟨rfl, rfl⟩
  · have e : orI u v = u := by simp [orI, hu]
    rw [e]
    have hv2 : (u == 0) = false := by simpa using hu
    have hv3 : (u != 0) = true := by simpa using hu
    clear e
    go_enter Tryz.func52, Tryz.ntmps52
    go_wp2
    go_rounds 4
    all_goals go_ret
    all_goals exact ⟨rfl, rfl⟩

set_option maxRecDepth 100000 in
set_option maxHeartbeats 1600000 in
theorem cmpC_any (x y : Pp) (w : World) : Calls Tryz.prog 51 #[.agg #[.string x.1, .string x.2], .agg #[.string y.1, .string y.2]] w fun e w' => e = .returned (.int .i64 (cfA x y)) ∧ Below w.heap.size w w' := by
  have h1 := fun W' => scmp_any x.1 y.1 W'
  have h2 := fun W' => scmp_any x.2 y.2 W'
  have e : cfA x y = orI (Lib.compareBytes x.1.data.toList y.1.data.toList) (Lib.compareBytes x.2.data.toList y.2.data.toList) := rfl
  rw [e]
  generalize Lib.compareBytes x.1.data.toList y.1.data.toList = u at *
  generalize Lib.compareBytes x.2.data.toList y.2.data.toList = v at *
  have H1 := Lib.hid h1
  have H2 := Lib.hid h2
  clear h1 h2 e
  obtain ⟨x1, x2⟩ := x
  obtain ⟨y1, y2⟩ := y
  simp only at H1 H2
  go_enter Tryz.func51, Tryz.ntmps51
  go_wp2_with fail
  go_region_held3 (fun w' => w'.cell? ⟨w.heap.size, 0, none⟩ = some (.string x1) ∧ w'.cell? ⟨w.heap.size, 1, none⟩ = some (.string x2) ∧ w'.cell? ⟨w.heap.size + 1, 0, none⟩ = some (.string y1) ∧ w'.cell? ⟨w.heap.size + 1, 1, none⟩ = some (.string y2) ∧ Below w.heap.size w w')
    (((try dsimp only); go_split_ands; (repeat' apply And.intro) <;> first | assumption | (apply kept; assumption; assumption) | (apply via; assumption; assumption; apply Below.size; assumption) | (go_grown; done) | (repeat' first | assumption | (simp; done) | (simp [go_sem]; done) | apply keptD | apply keptA | (apply kept; assumption))))
    (first
      | (go_at_call 53; refine (H1.out _).mono ?_; rintro e w1 ⟨rfl, rfl⟩)
      | (go_at_call 53; refine (H2.out _).mono ?_; rintro e w1 ⟨rfl, rfl⟩)
      | (go_at_call 52; refine (or_any _ u v _ (by simp [go_sem]) (by simp [go_sem])).mono ?_; rintro e w1 ⟨rfl, rfl⟩))
  all_goals go_split_ands
  all_goals go_wp2_with fail
  all_goals go_ret
  all_goals exact ⟨rfl, by assumption⟩

set_option maxRecDepth 100000 in
set_option maxHeartbeats 1600000 in
theorem cmpF_any (K : Nat) (A B : Option Addr) (n m cap cbp : Nat) (a b : List Pp) (w : World) (hn : a.length = n) (hm : b.length = m) (ha : Lr w K A cap a) (hb : Lr w K B cbp b) (hK : K ≤ w.heap.size) :
    Calls Tryz.prog 50 #[.slice A n cap, .slice B m cbp, .func (.func 51) #[] #[]] w fun e w' => e = .returned (.int .i64 (cmpL a b)) ∧ Below w.heap.size w w' := by
  subst hn hm
  have hle := ha.le
  have hmax := ha.max
  have hle2 := hb.le
  have hmax2 := hb.max
  unfold maxLen at hmax hmax2
  go_enter Tryz.func50, Tryz.ntmps50
  go_wp2
  go_loopw [13] (fun i wr => ∃ k : Nat, k ≤ a.length ∧ k ≤ b.length ∧ i = .int .i64 k ∧ Hid (cmpL a b = cmpL (a.drop k) (b.drop k)) ∧ Below w.heap.size w wr) (fun i _ => a.length - (intOf i).toNat)
  case atStart => exact ⟨0, Nat.zero_le _, Nat.zero_le _, rfl, Lib.hid rfl, Below.refl _ _⟩
  case round =>
    obtain ⟨k, hk, hk2, rfl, HT, hbl⟩ := hrel
    have z := hbl.size
    by_cases hlt : k < a.length
    · by_cases hlt2 : k < b.length
      · obtain ⟨ad, rfl, hadK, h1, h2⟩ := lr_at (ha.below (hbl.mono hK)) hlt
        obtain ⟨bd, rfl, hbdK, h3, h4⟩ := lr_at (hb.below (hbl.mono hK)) hlt2
        have hstep := cmpL_stepC hlt hlt2
        have hcl := fun W => cmpC_any (a.getD k nilP) (b.getD k nilP) W
        generalize (a.getD k nilP) = x at *
        generalize (b.getD k nilP) = y at *
        obtain ⟨xn, xv⟩ := x
        obtain ⟨yn, yv⟩ := y
        simp only at h1 h2 h3 h4 hcl
        generalize cfA (xn, xv) (yn, yv) = r at *
        have h3' : ∀ o, (wr.alloc o).cell? (bd.add (k * 2)) = some (.string yn) := fun o => keptA h3
        have h4' : ∀ o, (wr.alloc o).cell? ⟨(bd.add (k * 2)).block, (bd.add (k * 2)).off + 1, none⟩ = some (.string yv) := fun o => keptA h4
        have i1 : (k : Int) < a.length := by omega
        have i2 : (k : Int) < b.length := by omega
        have HCL := Lib.hid hcl
        clear hcl
        by_cases hr : r = 0
        · have HN : Hid (cmpL a b = cmpL (a.drop (k + 1)) (b.drop (k + 1))) := Lib.hid (by rw [HT.out, hstep, if_pos hr])
          subst hr
          clear hstep
          go_wp2_with (go_at_call 51; refine (HCL.out _).mono ?_; rintro e w1 ⟨rfl, hb1⟩)
          have B1 : Below w.heap.size w w1 := via hb1 (by go_grown) (by simp; omega)
          go_roundw
          case rel => exact ⟨k + 1, by omega, by omega, by go_num, HN, B1⟩
          case measure => simp [intOf]; omega
        · have HF : Hid (cmpL a b = r) := Lib.hid (by rw [HT.out, hstep, if_neg hr])
          have r1 : (r == 0) = false := by simpa using hr
          have r2 : (r != 0) = true := by simpa using hr
          clear hstep
          go_wp2_with (go_at_call 51; refine (HCL.out _).mono ?_; rintro e w1 ⟨rfl, hb1⟩)
          have B1 : Below w.heap.size w w1 := via hb1 (by go_grown) (by simp; omega)
          go_ret
          exact ⟨ret_int HF.out.symm, B1⟩
      · obtain ⟨ad, rfl, hadK, h1, h2⟩ := lr_at (ha.below (hbl.mono hK)) hlt
        have HF : Hid (cmpL a b = 1) := Lib.hid (by rw [HT.out]; exact cmpL_right hlt (by omega))
        have i1 : (k : Int) < a.length := by omega
        go_wp2_with fail
        go_ret
        exact ⟨ret_int HF.out.symm, by go_grown⟩
    · have hke : k = a.length := by omega
      by_cases hlt2 : k < b.length
      · have HF : Hid (cmpL a b = -1) := Lib.hid (by rw [HT.out]; exact cmpL_left (by omega) hlt2)
        have hg : a.length < b.length := by omega
        have HE := Lib.hid hke
        clear hke
        go_wp2_with fail
        go_ret
        exact ⟨ret_int HF.out.symm, hbl⟩
      · have HF : Hid (cmpL a b = 0) := Lib.hid (by rw [HT.out]; exact cmpL_both (by omega) (by omega))
        have hg : ¬ a.length < b.length := by omega
        have HE := Lib.hid hke
        clear hke
        go_wp2_with fail
        go_ret
        exact ⟨ret_int HF.out.symm, hbl⟩

set_option maxRecDepth 100000 in
theorem compareL_any (K : Nat) (A B : Option Addr) (n m cap cbp : Nat) (a b : List Pp) (w : World) (hn : a.length = n) (hm : b.length = m) (ha : Lr w K A cap a) (hb : Lr w K B cbp b) (hK : K ≤ w.heap.size) :
    Calls Tryz.prog 36 #[.slice A n cap, .slice B m cbp] w fun e w' => e = .returned (.int .i64 (cmpL a b)) ∧ Below w.heap.size w w' := by
  have HC := Lib.hid (cmpF_any K A B n m cap cbp a b w hn hm ha hb hK)
  clear hn hm ha hb
  generalize cmpL a b = r at *
  go_enter Tryz.func36, Tryz.ntmps36
  go_wp2_with (go_at_call 50; refine HC.out.mono ?_; rintro e w1 ⟨rfl, hb1⟩)
  go_ret
  exact ⟨rfl, hb1⟩
end Go.Proofs.YtcfbcidakddhfaaGreatDoor
namespace Go.Proofs.YtcfbcidakddhfaaGreatDoor
open Go.RowKit

def SmR (l : List Rp) : Prop := ∀ x ∈ l, x.1.size ≤ 1048576 ∧ x.2.2.size ≤ 1048576
theorem SmR.at_ {l : List Rp} (h : SmR l) (k : Nat) : (l.getD k nilR).1.size ≤ 1048576 ∧ (l.getD k nilR).2.2.size ≤ 1048576 := by
  rcases Nat.lt_or_ge k l.length with hk | hk
  · rw [getR_eq hk]
    exact h _ (List.getElem_mem hk)
  · rw [List.getD_eq_getElem?_getD, List.getElem?_eq_none hk]
    exact ⟨by decide, by decide⟩

theorem isOp_any (n : Int) (w : World) : Calls Tryz.prog 67 #[.int .i64 n] w fun e w' => e = .returned (.bool (opB n)) ∧ w = w' := by
  go_enter Tryz.func67, Tryz.ntmps67
  go_wp2
  all_goals go_ret
  all_goals exact ⟨ret_bool (by rw [Bool.eq_iff_iff]; simp [opB] at *; omega), rfl⟩

set_option maxHeartbeats 1600000 in
theorem isRule_any (xn xv : ByteArray) (o : Int) (w : World) (h1 : xn.size ≤ maxLen) (h2 : xv.size ≤ maxLen) :
    Calls Tryz.prog 48 #[.agg #[.string xn, .int .i64 o, .string xv]] w fun e w' => e = .returned (.bool (ruleB (xn, o, xv))) ∧ Below w.heap.size w w' := by
  have B0 : Below w.heap.size w (w.alloc (.cells #[.string xn, .int .i64 o, .string xv] 108)) := (Below.refl _ _).alloc (Nat.le_refl _) _
  by_cases hn : nameB xn = true
  · by_cases ho : opB o = true
    · by_cases he : (xv.toList == []) = true
      · have HF : Hid (ruleB (xn, o, xv) = true) := Lib.hid (by simp only [ruleB, hn, ho, emB, he]; rfl)
        go_enter Tryz.func48, Tryz.ntmps48
        go_wp2_with (first
          | (go_at_call 66; refine (isName_any _ _ h1).mono ?_; rintro e w' ⟨rfl, rfl⟩)
          | (go_at_call 67; refine (isOp_any _ _).mono ?_; rintro e w' ⟨rfl, rfl⟩)
          | (go_at_call 68; refine (isValue_any _ _ h2).mono ?_; rintro e w' ⟨rfl, rfl⟩))
        go_ret
        exact ⟨ret_bool HF.out.symm, B0⟩
      · have he : (xv.toList == []) = false := by simpa using he
        have HF : Hid (ruleB (xn, o, xv) = valB xv) := Lib.hid (by simp only [ruleB, hn, ho, emB, he]; rfl)
        go_enter Tryz.func48, Tryz.ntmps48
        go_wp2_with (first
          | (go_at_call 66; refine (isName_any _ _ h1).mono ?_; rintro e w' ⟨rfl, rfl⟩)
          | (go_at_call 67; refine (isOp_any _ _).mono ?_; rintro e w' ⟨rfl, rfl⟩)
          | (go_at_call 68; refine (isValue_any _ _ h2).mono ?_; rintro e w' ⟨rfl, rfl⟩))
        go_ret
        exact ⟨ret_bool HF.out.symm, B0⟩
    · have ho : opB o = false := by simpa using ho
      have HF : Hid (ruleB (xn, o, xv) = false) := Lib.hid (by simp only [ruleB, hn, ho]; rfl)
      go_enter Tryz.func48, Tryz.ntmps48
      go_wp2_with (first
        | (go_at_call 66; refine (isName_any _ _ h1).mono ?_; rintro e w' ⟨rfl, rfl⟩)
        | (go_at_call 67; refine (isOp_any _ _).mono ?_; rintro e w' ⟨rfl, rfl⟩))
      go_ret
      exact ⟨ret_bool HF.out.symm, B0⟩
  · have hn : nameB xn = false := by simpa using hn
    have HF : Hid (ruleB (xn, o, xv) = false) := Lib.hid (by simp only [ruleB, hn]; rfl)
    go_enter Tryz.func48, Tryz.ntmps48
    go_wp2_with (first
      | (go_at_call 66; refine (isName_any _ _ h1).mono ?_; rintro e w' ⟨rfl, rfl⟩))
    go_ret
    exact ⟨ret_bool HF.out.symm, B0⟩

set_option maxHeartbeats 1600000 in
theorem rightR_any (K : Nat) (A : Option Addr) (n cap : Nat) (l : List Rp) (w : World) (hln : l.length = n) (hp : Rr w K A cap l) (hK : K ≤ w.heap.size) (hS : SmR l) :
    Calls Tryz.prog 31 #[.slice A n cap] w fun e w' => e = .returned (.bool (rulesL l)) ∧ Below w.heap.size w w' := by
  subst hln
  have hle := hp.le
  have hmax := hp.max
  unfold maxLen at hmax
  by_cases h16 : 16 < l.length
  · rw [rulesL_many h16]
    go_enter Tryz.func31, Tryz.ntmps31
    go_wp2
    go_ret
    exact ⟨rfl, Below.refl _ _⟩
  rw [rulesL_of (by omega)]
  go_enter Tryz.func31, Tryz.ntmps31
  go_wp2
  go_loopw [10] (fun i wr => ∃ k : Nat, k ≤ l.length ∧ i = .int .i64 k ∧ Hid (rulesTo l k = true) ∧ Below w.heap.size w wr) (fun i _ => l.length - (intOf i).toNat)
  case atStart => exact ⟨0, Nat.zero_le _, rfl, Lib.hid (rulesTo_zero l), Below.refl _ _⟩
  case round =>
    obtain ⟨k, hk, rfl, HT, hbl⟩ := hrel
    have z := hbl.size
    by_cases hlt : k < l.length
    · obtain ⟨ad, rfl, hadK, h1, h2, h3⟩ := rr_at (hp.below (hbl.mono hK)) hlt
      have hs := hS.at_ k
      have hnext := rulesTo_succ hlt
      have hno : ruleB (l.getD k nilR) = false → l.all ruleB = false := all_getR hlt _
      generalize l.getD k nilR = x at *
      obtain ⟨xn, xo, xv⟩ := x
      simp only at h1 h2 h3 hs
      have ms1 : xn.size ≤ maxLen := by unfold maxLen; omega
      have ms2 : xv.size ≤ maxLen := by unfold maxLen; omega
      have B1 := hbl.alloc z (.cells #[.string xn, .int .i64 xo, .string xv] 108)
      by_cases hr : ruleB (xn, xo, xv) = true
      · have HN : Hid (rulesTo l (k + 1) = true) := Lib.hid (by rw [hnext, HT.out, hr]; rfl)
        have HC := Lib.hid (isRule_any xn xv xo (wr.alloc (.cells #[.string xn, .int .i64 xo, .string xv] 108)) ms1 ms2)
        rw [hr] at HC
        clear hnext hno hr
        go_wp2_with (go_at_call 48; refine HC.out.mono ?_; rintro e w1 ⟨rfl, hb1⟩)
        go_roundw
        case rel => exact ⟨k + 1, by omega, by go_num, HN, B1.trans (hb1.mono (by simp; omega))⟩
        case measure => simp [intOf]; omega
      · have hr : ruleB (xn, xo, xv) = false := by simpa using hr
        have HF : Hid (l.all ruleB = false) := Lib.hid (hno hr)
        have HC := Lib.hid (isRule_any xn xv xo (wr.alloc (.cells #[.string xn, .int .i64 xo, .string xv] 108)) ms1 ms2)
        rw [hr] at HC
        clear hnext hno hr
        go_wp2_with (go_at_call 48; refine HC.out.mono ?_; rintro e w1 ⟨rfl, hb1⟩)
        go_ret
        exact ⟨ret_bool HF.out.symm, B1.trans (hb1.mono (by simp; omega))⟩
    · have hks : k = l.length := by omega
      have HF : Hid (l.all ruleB = true) := Lib.hid (by rw [← rulesTo_all, ← hks]; exact HT.out)
      clear hks
      go_wp2_with fail
      go_ret
      exact ⟨ret_bool HF.out.symm, hbl⟩
end Go.Proofs.YtcfbcidakddhfaaGreatDoor
namespace Go.Proofs.YtcfbcidakddhfaaGreatDoor
open Go.RowKit

theorem or32 (U L : Int) (hU0 : -2147483648 ≤ U) (hU1 : U ≤ 2147483647) (hL0 : 0 ≤ L) (hL1 : L ≤ 4294967295) : bits .or .i64 (U * 4294967296) L = U * 4294967296 + L := by
  have e : (BitVec.ofInt 64 (U * 4294967296) ||| BitVec.ofInt 64 L).toNat = (U % 4294967296).toNat * 4294967296 + L.toNat := by
    rw [BitVec.toNat_or, BitVec.toNat_ofInt, BitVec.toNat_ofInt]
    have h1 : (L % ((2 ^ 64 : Nat) : Int)).toNat = L.toNat := by omega
    have h2 : ((U * 4294967296) % ((2 ^ 64 : Nat) : Int)).toNat = 2 ^ 32 * (U % 4294967296).toNat := by omega
    rw [h1, h2, ← Nat.two_pow_add_eq_or_of_lt (by omega)]
    omega
  show IntKind.i64.wrap (((BitVec.ofInt 64 (U * 4294967296) ||| BitVec.ofInt 64 L).toNat : Nat) : Int) = _
  rw [e, IntKind.wrap_i64]
  omega
set_option maxRecDepth 100000 in
set_option maxHeartbeats 1600000 in
theorem sum_any (K : Nat) (A : Option Addr) (n cap : Nat) (l : List Smp) (w : World) (hln : l.length = n) (hp : Sr encSm 2 w K A cap l) (hK : K ≤ w.heap.size) (hl : l.length ≤ 65536) (hok : ∀ x ∈ l, Sok x) :
    Calls Tryz.prog 107 #[.slice A n cap] w fun e w' => e = .returned (.tuple #[.int .i64 (rangeB (sumI l)).1, .int .i64 (rangeB (sumI l)).2]) ∧ Below w.heap.size w w' := by
  subst hln
  have hle := hp.le
  have hmax := hp.max
  unfold maxLen at hmax
  have HO := Lib.hid hok
  clear hok
  go_enter Tryz.func107, Tryz.ntmps107
  go_wp2
  go_loopw [4, 5, 10] (fun u v i wr => ∃ (k : Nat), k ≤ l.length ∧ i = .int .i64 k ∧ u = .int .i64 (upI (l.take k)) ∧ v = .int .i64 (loI (l.take k)) ∧ Below w.heap.size w wr) (fun _ _ i _ => l.length - (intOf i).toNat)
  case atStart => exact ⟨0, Nat.zero_le _, rfl, rfl, rfl, Below.refl _ _⟩
  case round =>
    obtain ⟨k, hk, rfl, rfl, rfl, hbl⟩ := hrel
    have z := hbl.size
    have bu := up_bound (l.take k) fun x hx => HO.out x (List.mem_of_mem_take hx)
    have bo := lo_bound (l.take k)
    have hkl : ((l.take k).length : Int) ≤ 65536 := by simp; omega
    by_cases hlt : k < l.length
    · obtain ⟨ad, rfl, hadK, h1, h2⟩ := s_cells (hp.below (hbl.mono hK)) hlt
      have hx := HO.out _ (List.getElem_mem hlt)
      have htk : l.take (k + 1) = l.take k ++ [l[k]] := List.take_succ_eq_append_getElem hlt
      have hu : upI (l.take (k + 1)) = upI (l.take k) + l[k].2 / 4294967296 := by rw [htk, upI_app]; simp [upI]
      have hv : loI (l.take (k + 1)) = loI (l.take k) + l[k].2 % 4294967296 := by rw [htk, loI_app]; simp [loI]
      have x0 := hx.n0
      have x1 := hx.n1
      clear hx htk
      generalize l[k] = x at *
      obtain ⟨xn, xv⟩ := x
      simp only at h1 h2 hu hv x0 x1
      have ea := and32 xv
      have HU := Lib.hid hu
      have HV := Lib.hid hv
      generalize upI (l.take k) = u at *
      generalize loI (l.take k) = v at *
      obtain ⟨q, hq⟩ : ∃ q, xv / 4294967296 = q := ⟨_, rfl⟩
      obtain ⟨r, hr⟩ : ∃ r, r = xv % 4294967296 := ⟨_, rfl⟩
      rw [← hr] at ea
      have q0 : -2147483648 ≤ q := by omega
      have q1 : q ≤ 2147483648 := by omega
      have r0 : 0 ≤ r := by omega
      have r1 : r ≤ 4294967295 := by omega
      have e1 := wrapI (u + q) (by omega) (by omega)
      have e2 := wrapI (v + r) (by omega) (by omega)
      have HE : Hid (u + q = upI (l.take (k + 1)) ∧ v + r = loI (l.take (k + 1))) := Lib.hid ⟨by rw [HU.out, hq], by rw [HV.out, hr]⟩
      clear hu hv hr HU HV bu bo
      go_wp2
      go_roundw
      case rel => exact ⟨k + 1, by omega, by go_num, by rw [← HE.out.1], by rw [← HE.out.2], by go_grown⟩
      case measure => simp [intOf]; omega
    · obtain rfl : k = l.length := by omega
      rw [List.take_length] at bu bo ⊢
      have hul := up_lo l
      have HS := Lib.hid hul
      generalize upI l = u at *
      generalize loI l = v at *
      have ea := and32 v
      obtain ⟨q, hq⟩ : ∃ q, v / 4294967296 = q := ⟨_, rfl⟩
      obtain ⟨r, hr⟩ : ∃ r, r = v % 4294967296 := ⟨_, rfl⟩
      rw [← hr] at ea
      have q0 : 0 ≤ q := by omega
      have q1 : q ≤ 65536 := by omega
      have r0 : 0 ≤ r := by omega
      have r1 : r ≤ 4294967295 := by omega
      have e1 := wrapI (u + q) (by omega) (by omega)
      have HT : Hid (sumI l = (u + q) * 4294967296 + r) := Lib.hid (by omega)
      obtain ⟨U, hU⟩ : ∃ U, u + q = U := ⟨_, rfl⟩
      rw [hU] at HT e1
      have e1 : wrap64 (u + q) = U := by rw [hU]; unfold wrap64; omega
      have HUQ := Lib.hid hU
      clear hU
      clear hr hul HS bu bo
      by_cases hU0 : U < -2147483648
      · have HR : Hid (rangeB (sumI l) = (0, 20)) := Lib.hid (if_neg (by rw [HT.out]; omega))
        go_wp2
        go_ret2
        exact ⟨by rw [HR.out] <;> rfl, hbl⟩
      · by_cases hU1 : 2147483647 < U
        · have HR : Hid (rangeB (sumI l) = (0, 20)) := Lib.hid (if_neg (by rw [HT.out]; omega))
          go_wp2
          go_ret2
          exact ⟨by rw [HR.out] <;> rfl, hbl⟩
        · have HR : Hid (rangeB (sumI l) = (U * 4294967296 + r, 0)) := Lib.hid (by rw [HT.out]; exact if_pos (by omega))
          have eo := or32 U r (by omega) (by omega) r0 r1
          have ew := wrapI (U * 4294967296) (by omega) (by omega)
          go_wp2
          go_ret2
          exact ⟨by rw [HR.out] <;> rfl, hbl⟩
end Go.Proofs.YtcfbcidakddhfaaGreatDoor
namespace Go.Proofs.YtcfbcidakddhfaaGreatDoor
open Go.RowKit

theorem encPz_one (p : Pz) : ∀ u ∈ encPz p, u.oneCell' = true := by
  intro u hu
  simp [encPz] at hu
  rcases hu with rfl | rfl | rfl | rfl | rfl | rfl | rfl | rfl <;> rfl
/-- Rows of unlike types lie in unlike blocks. -/
theorem So.apart {α β : Type} {e1 : α → List Value} {e2 : β → List Value} {k1 k2 K1 K2 : Nat} {w : World} {T S : TypeId} {v u : Value} {l : List α} {m : List β} (h : So e1 k1 w K1 T v l) (g : So e2 k2 w K2 S u m) (hT : T ≠ S) : v.ownBlock = none ∨ v.ownBlock ≠ u.ownBlock := by
  rcases h.2 with ⟨e, _⟩ | ⟨b, cap, cur, e, _, hb, _⟩
  · subst e; exact .inl rfl
  · subst e
    right
    intro hk
    rcases g.2 with ⟨f, _⟩ | ⟨b2, cap2, cur2, f, _, hb2, _⟩
    · subst f; cases hk
    · subst f
      simp only [Value.ownBlock, Option.some.injEq] at hk
      subst hk
      rw [hb] at hb2
      injection hb2 with hb2
      injection hb2 with _ e3 _
      exact hT e3
theorem So.keepO {α β : Type} {e1 : α → List Value} {e2 : β → List Value} {k1 k2 K1 K2 : Nat} {w w' : World} {T S : TypeId} {v u : Value} {l : List α} {m : List β} (h : So e1 k1 w K1 T v l) (g : So e2 k2 w K2 S u m) (hT : T ≠ S) (hg : w.grownBy w' u.ownBlock) : So e1 k1 w' K1 T v l := h.keep hg (h.apart g hT)
/-- v is a row of the call's own (blocks from K on) of points, their sets too. -/
structure Pw (w : World) (K : Nat) (T S : TypeId) (v : Value) (l : List Pz) : Prop where
  so : So encPz 8 w K T v l
  st : ∀ p ∈ l, So encP 2 w K S (.slice p.2.1 p.1.set.length p.2.2) p.1.set
section
variable {w w' : World} {K K' : Nat} {T S : TypeId} {v v' : Value} {l : List Pz}
theorem Pw.empty (w : World) (K : Nat) (T S : TypeId) : Pw w K T S (.slice none 0 0) [] := ⟨So.empty _ _ _ _ _, fun p hp => by cases hp⟩
theorem Pw.below (h : Pw w K T S v l) (hb : Below w.heap.size w w') : Pw w' K T S v l := ⟨h.so.below hb, fun p hp => (h.st p hp).below hb⟩
theorem Pw.alloc (h : Pw w K T S v l) (o : Obj) : Pw (w.alloc o) K T S v l := ⟨h.so.alloc o, fun p hp => (h.st p hp).alloc o⟩
theorem Pw.drew (h : Pw w K T S v l) : Pw w.drew K T S v l := ⟨h.so.drew, fun p hp => (h.st p hp).drew⟩
theorem Pw.more (h : Pw w K T S v l) (hK : K' ≤ K) : Pw w K' T S v l := ⟨h.so.more hK, fun p hp => (h.st p hp).more hK⟩
theorem Pw.ps {A : Option Addr} {n cap : Nat} (h : Pw w K T S (.slice A n cap) l) : Ps w w.heap.size A cap l ∧ l.length = n :=
  ⟨⟨(So.sr encPz_len h.so).1, fun p hp => (So.sr encP_len (h.st p hp)).1⟩, (So.sr encPz_len h.so).2⟩
/-- Another row, of another type than both, has grown. -/
theorem Pw.keepO {β : Type} {e2 : β → List Value} {k2 K2 : Nat} {R : TypeId} {u : Value} {m : List β} (h : Pw w K T S v l) (g : So e2 k2 w K2 R u m) (hT : T ≠ R) (hS : S ≠ R) (hg : w.grownBy w' u.ownBlock) : Pw w' K T S v l :=
  ⟨h.so.keepO g hT hg, fun p hp => (h.st p hp).keepO g hS hg⟩
/-- One point more, at the law that append obeys. -/
theorem Pw.push (h : Pw w K T S v l) (hS : S ≠ T) {p : Pz} (hp : So encP 2 w K S (.slice p.2.1 p.1.set.length p.2.2) p.1.set) (hg : w.grownBy w' v.ownBlock) (hn : So encPz 8 w' K T v' (l ++ [p])) : Pw w' K T S v' (l ++ [p]) :=
  ⟨hn, fun q hq => by
    rcases List.mem_append.1 hq with h1 | h1
    · exact (h.st q h1).keepO h.so hS hg
    · obtain rfl := List.mem_singleton.1 h1
      exact hp.keepO h.so hS hg⟩
/-- A row of points more. -/
theorem Pw.app {K2 : Nat} {u : Value} {m : List Pz} (h : Pw w K T S v l) (hS : S ≠ T) (h2 : Pw w K2 T S u m) (hK : K ≤ K2) (hg : w.grownBy w' v.ownBlock) (hn : So encPz 8 w' K T v' (l ++ m)) : Pw w' K T S v' (l ++ m) :=
  ⟨hn, fun q hq => by
    rcases List.mem_append.1 hq with h1 | h1
    · exact (h.st q h1).keepO h.so hS hg
    · exact ((h2.st q h1).more hK).keepO h.so hS hg⟩
end
/-- New memory that holds points. -/
def NewPz (T S : TypeId) (w : World) (lp : List Pt) (e : Ending) (w' : World) : Prop :=
  ∃ A c l, e = .returned (.slice A lp.length c) ∧ l.map Prod.fst = lp ∧ Pw w' w.heap.size T S (.slice A lp.length c) l ∧ Below w.heap.size w w'
/-- A point's eight cells as the walk spells them. -/
theorem ps_cells {w : World} {K cap : Nat} {A : Option Addr} {l : List Pz} (h : Sr encPz 8 w K A cap l) {i : Nat} (hi : i < l.length) : ∃ ad : Addr, A = some ad ∧ ad.block < K ∧ w.cell? (ad.add (i * 8)) = some (.slice l[i].2.1 l[i].1.set.length l[i].2.2) ∧
    w.cell? ⟨(ad.add (i * 8)).block, (ad.add (i * 8)).off + 1, none⟩ = some (.int .i64 l[i].1.t) ∧ w.cell? ⟨(ad.add (i * 8)).block, (ad.add (i * 8)).off + 2, none⟩ = some (.int .i64 l[i].1.k) ∧
    w.cell? ⟨(ad.add (i * 8)).block, (ad.add (i * 8)).off + 3, none⟩ = some (.int .i64 l[i].1.n) ∧ w.cell? ⟨(ad.add (i * 8)).block, (ad.add (i * 8)).off + 4, none⟩ = some (.string l[i].1.x) ∧
    w.cell? ⟨(ad.add (i * 8)).block, (ad.add (i * 8)).off + 5, none⟩ = some (.int .i64 l[i].1.a) ∧ w.cell? ⟨(ad.add (i * 8)).block, (ad.add (i * 8)).off + 6, none⟩ = some (.int .u32 l[i].1.b) ∧
    w.cell? ⟨(ad.add (i * 8)).block, (ad.add (i * 8)).off + 7, none⟩ = some (.int .u32 l[i].1.c) := by
  obtain ⟨ad, e, hb, h0, h1⟩ := h.get2 hi
  exact ⟨ad, e, hb, h0 _ rfl, h1 1 _ (by decide) rfl, h1 2 _ (by decide) rfl, h1 3 _ (by decide) rfl, h1 4 _ (by decide) rfl, h1 5 _ (by decide) rfl, h1 6 _ (by decide) rfl, h1 7 _ (by decide) rfl⟩
end Go.Proofs.YtcfbcidakddhfaaGreatDoor
namespace Go.Proofs.YtcfbcidakddhfaaGreatDoor
open Go.RowKit

theorem rSame_any (K : Nat) (A B : Option Addr) (n m cap cbp : Nat) (a b : List Pp) (w : World) (hn : a.length = n) (hm : b.length = m) (ha : Lr w K A cap a) (hb : Lr w K B cbp b) (hK : K ≤ w.heap.size) :
    Calls Tryz.prog 23 #[.slice A n cap, .slice B m cbp] w fun e w' => e = .returned (.bool (cmpL a b == 0)) ∧ Below w.heap.size w w' := by
  have HC := Lib.hid (rCompare_any K A B n m cap cbp a b w hn hm ha hb hK)
  clear hn hm ha hb
  generalize cmpL a b = r at *
  go_enter Tryz.func23, Tryz.ntmps23
  go_wp2_with (go_at_call 14; refine HC.out.mono ?_; rintro e w1 ⟨rfl, hb1⟩)
  go_ret
  exact ⟨rfl, hb1⟩
end Go.Proofs.YtcfbcidakddhfaaGreatDoor
