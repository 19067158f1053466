/- The document's Right of rules. -/
import Derived.Test.YtcmpenmaphmifaaGreatDoorPk0
import Derived.Test.YtcmpenmaphmifaaGreatDoorRows
import Derived.LoopTactic
import Derived.Test.YtcmpenmaphmifaaGreatDoorPk5
import Derived.BigQuiet
import Derived.Deep.QuietTactic
namespace Go.Proofs.YtcmpenmaphmifaaGreatDoor
open Go.RowKit

theorem isLetter_any (n : Int) (w : World) : Calls Tryz.prog 131 #[.int .u8 n] w fun e w' => e = .returned (.bool (letN n)) ∧ w = w' := by
  go_enter Tryz.func131, Tryz.ntmps131
  go_wp2
  all_goals go_ret
  all_goals exact ⟨ret_bool (by rw [Bool.eq_iff_iff]; simp [letN] at *; omega), rfl⟩
theorem isDigit_any (n : Int) (w : World) : Calls Tryz.prog 132 #[.int .u8 n] w fun e w' => e = .returned (.bool (digN n)) ∧ w = w' := by
  go_enter Tryz.func132, Tryz.ntmps132
  go_wp2
  all_goals go_ret
  all_goals exact ⟨ret_bool (by rw [Bool.eq_iff_iff]; simp [digN] at *; omega), rfl⟩

theorem nameB_of {s : ByteArray} (h1 : 1 ≤ s.size) (h2 : s.size ≤ 32) : nameB s = nameTo s s.size := by simp [nameB, h1, h2]
theorem nameB_no {s : ByteArray} (h : s.size < 1 ∨ 32 < s.size) : nameB s = false := by
  unfold nameB
  rcases h with h | h
  · have : ¬ 1 ≤ s.size := by omega
    simp [this]
  · have : ¬ s.size ≤ 32 := by omega
    simp [this]
theorem valB_of {s : ByteArray} (h1 : 1 ≤ s.size) (h2 : s.size ≤ 64) : valB s = valTo s s.size := by simp [valB, h1, h2]
theorem valB_no {s : ByteArray} (h : s.size < 1 ∨ 64 < s.size) : valB s = false := by
  unfold valB
  rcases h with h | h
  · have : ¬ 1 ≤ s.size := by omega
    simp [this]
  · have : ¬ s.size ≤ 64 := by omega
    simp [this]

set_option maxHeartbeats 800000 in
theorem isName_any (s : ByteArray) (w : World) (hs : s.size ≤ maxLen) : Calls Tryz.prog 97 #[.string s] w fun e w' => e = .returned (.bool (nameB s)) ∧ w = w' := by
  unfold maxLen at hs
  by_cases h1 : s.size < 1
  · rw [nameB_no (.inl h1)]
    go_enter Tryz.func97, Tryz.ntmps97
    go_wp2
    go_ret
    exact ⟨rfl, rfl⟩
  by_cases h2 : 32 < s.size
  · rw [nameB_no (.inr h2)]
    go_enter Tryz.func97, Tryz.ntmps97
    go_wp2
    go_ret
    exact ⟨rfl, rfl⟩
  · rw [nameB_of (by omega) (by omega)]
    go_enter Tryz.func97, Tryz.ntmps97
    go_wp2
    go_loop [14] (fun i => ∃ k : Nat, k ≤ s.size ∧ i = .int .i64 k ∧ Hid (nameTo s k = true)) (fun i => s.size - (intOf i).toNat)
    case atStart => exact ⟨0, Nat.zero_le _, rfl, Lib.hid (nameTo_zero s)⟩
    case round =>
      obtain ⟨k, hk, rfl, HT⟩ := hrel
      by_cases hlt : k < s.size
      · have hb := byteAt_get s k hlt
        by_cases hl : letN ((s[k]).toNat : Int) = true
        · have HN : Hid (nameTo s (k + 1) = true) := Lib.hid (by rw [nameTo_succ, HT.out, ← hb]; simp [nameC, hl])
          clear hb
          go_wp2_with (go_at_call 131; refine (isLetter_any _ _).mono ?_; rintro e w' ⟨rfl, rfl⟩)
          go_round
          case rel => exact ⟨k + 1, by omega, by go_num, HN⟩
          case measure => simp [intOf]; omega
        · have hl : letN ((s[k]).toNat : Int) = false := by simpa using hl
          by_cases h0 : k = 0
          · have HF : Hid (nameTo s s.size = false) := Lib.hid (nameTo_false (k := k) (by rw [← hb]; unfold nameC; rw [hl]; simp [h0]) hlt)
            clear hb
            subst h0
            go_wp2_with (go_at_call 131; refine (isLetter_any _ _).mono ?_; rintro e w' ⟨rfl, rfl⟩)
            go_ret
            exact ⟨ret_bool HF.out.symm, rfl⟩
          · by_cases hd : digN ((s[k]).toNat : Int) = true
            · have HN : Hid (nameTo s (k + 1) = true) := Lib.hid (by rw [nameTo_succ, HT.out, ← hb]; simp [nameC, hd]; omega)
              clear hb
              go_wp2_with (first
                | (go_at_call 131; refine (isLetter_any _ _).mono ?_; rintro e w' ⟨rfl, rfl⟩)
                | (go_at_call 132; refine (isDigit_any _ _).mono ?_; rintro e w' ⟨rfl, rfl⟩))
              go_round
              case rel => exact ⟨k + 1, by omega, by go_num, HN⟩
              case measure => simp [intOf]; omega
            · have hd : digN ((s[k]).toNat : Int) = false := by simpa using hd
              have HF : Hid (nameTo s s.size = false) := Lib.hid (nameTo_false (k := k) (by rw [← hb]; simp [nameC, hl, hd]) hlt)
              clear hb
              go_wp2_with (first
                | (go_at_call 131; refine (isLetter_any _ _).mono ?_; rintro e w' ⟨rfl, rfl⟩)
                | (go_at_call 132; refine (isDigit_any _ _).mono ?_; rintro e w' ⟨rfl, rfl⟩))
              go_ret
              exact ⟨ret_bool HF.out.symm, rfl⟩
      · have hks : k = s.size := by omega
        have HF : Hid (nameTo s s.size = true) := Lib.hid (hks ▸ HT.out)
        clear hks
        go_wp2_with fail
        go_ret
        exact ⟨ret_bool HF.out.symm, rfl⟩
end Go.Proofs.YtcmpenmaphmifaaGreatDoor
namespace Go.Proofs.YtcmpenmaphmifaaGreatDoor
open Go.RowKit

set_option maxHeartbeats 800000 in
theorem isValue_any (s : ByteArray) (w : World) (hs : s.size ≤ maxLen) : Calls Tryz.prog 99 #[.string s] w fun e w' => e = .returned (.bool (valB s)) ∧ w = w' := by
  unfold maxLen at hs
  by_cases h1 : s.size < 1
  · rw [valB_no (.inl h1)]
    go_enter Tryz.func99, Tryz.ntmps99
    go_wp2
    go_ret
    exact ⟨rfl, rfl⟩
  by_cases h2 : 64 < s.size
  · rw [valB_no (.inr h2)]
    go_enter Tryz.func99, Tryz.ntmps99
    go_wp2
    go_ret
    exact ⟨rfl, rfl⟩
  · rw [valB_of (by omega) (by omega)]
    go_enter Tryz.func99, Tryz.ntmps99
    go_wp2
    go_loop [14] (fun i => ∃ k : Nat, k ≤ s.size ∧ i = .int .i64 k ∧ Hid (valTo s k = true)) (fun i => s.size - (intOf i).toNat)
    case atStart => exact ⟨0, Nat.zero_le _, rfl, Lib.hid (valTo_zero s)⟩
    case round =>
      obtain ⟨k, hk, rfl, HT⟩ := hrel
      by_cases hlt : k < s.size
      · have hb := byteAt_get s k hlt
        have HB := Lib.hid hb
        clear hb
        by_cases hc : valC ((s[k]).toNat : Int) = true
        · have HN : Hid (valTo s (k + 1) = true) := Lib.hid (by rw [valTo_succ, HT.out, ← HB.out, hc]; rfl)
          have HC := Lib.hid hc
          clear hc
          go_wp2
          all_goals first
            | (go_round
               case rel => exact ⟨k + 1, by omega, by go_num, HN⟩
               case measure => simp [intOf]; omega)
            | (exfalso; have hc := HC.out; simp [valC] at *; omega)
        · have hc : valC ((s[k]).toNat : Int) = false := by simpa using hc
          have HF : Hid (valTo s s.size = false) := Lib.hid (valTo_false (k := k) (by rw [← HB.out]; exact hc) hlt)
          have HC := Lib.hid hc
          clear hc
          go_wp2
          all_goals first
            | (exfalso; have hc := HC.out; simp [valC] at *; omega)
            | (go_ret; exact ⟨ret_bool HF.out.symm, rfl⟩)
      · have hks : k = s.size := by omega
        have HF : Hid (valTo s s.size = true) := Lib.hid (hks ▸ HT.out)
        clear hks
        go_wp2_with fail
        go_ret
        exact ⟨ret_bool HF.out.symm, rfl⟩
end Go.Proofs.YtcmpenmaphmifaaGreatDoor
namespace Go.Proofs.YtcmpenmaphmifaaGreatDoor
open Go.RowKit

def SmR (l : List Rp) : Prop := ∀ x ∈ l, x.1.size ≤ 1048576 ∧ x.2.2.size ≤ 1048576
theorem SmR.at_ {l : List Rp} (h : SmR l) (k : Nat) : (l.getD k nilR).1.size ≤ 1048576 ∧ (l.getD k nilR).2.2.size ≤ 1048576 := by
  rcases Nat.lt_or_ge k l.length with hk | hk
  · rw [getR_eq hk]
    exact h _ (List.getElem_mem hk)
  · rw [List.getD_eq_getElem?_getD, List.getElem?_eq_none hk]
    exact ⟨by decide, by decide⟩

theorem isOp_any (n : Int) (w : World) : Calls Tryz.prog 98 #[.int .i64 n] w fun e w' => e = .returned (.bool (opB n)) ∧ w = w' := by
  go_enter Tryz.func98, Tryz.ntmps98
  go_wp2
  all_goals go_ret
  all_goals exact ⟨ret_bool (by rw [Bool.eq_iff_iff]; simp [opB] at *; omega), rfl⟩

set_option maxHeartbeats 1600000 in
theorem isRule_any (xn xv : ByteArray) (o : Int) (w : World) (h1 : xn.size ≤ maxLen) (h2 : xv.size ≤ maxLen) :
    Calls Tryz.prog 70 #[.agg #[.string xn, .int .i64 o, .string xv]] w fun e w' => e = .returned (.bool (ruleB (xn, o, xv))) ∧ Below w.heap.size w w' := by
  have B0 : Below w.heap.size w (w.alloc (.cells #[.string xn, .int .i64 o, .string xv] 139)) := (Below.refl _ _).alloc (Nat.le_refl _) _
  by_cases hn : nameB xn = true
  · by_cases ho : opB o = true
    · by_cases he : (xv.toList == []) = true
      · have HF : Hid (ruleB (xn, o, xv) = true) := Lib.hid (by simp only [ruleB, hn, ho, emB, he]; rfl)
        go_enter Tryz.func70, Tryz.ntmps70
        go_wp2_with (first
          | (go_at_call 97; refine (isName_any _ _ h1).mono ?_; rintro e w' ⟨rfl, rfl⟩)
          | (go_at_call 98; refine (isOp_any _ _).mono ?_; rintro e w' ⟨rfl, rfl⟩)
          | (go_at_call 99; refine (isValue_any _ _ h2).mono ?_; rintro e w' ⟨rfl, rfl⟩))
        go_ret
        exact ⟨ret_bool HF.out.symm, B0⟩
      · have he : (xv.toList == []) = false := by simpa using he
        have HF : Hid (ruleB (xn, o, xv) = valB xv) := Lib.hid (by simp only [ruleB, hn, ho, emB, he]; rfl)
        go_enter Tryz.func70, Tryz.ntmps70
        go_wp2_with (first
          | (go_at_call 97; refine (isName_any _ _ h1).mono ?_; rintro e w' ⟨rfl, rfl⟩)
          | (go_at_call 98; refine (isOp_any _ _).mono ?_; rintro e w' ⟨rfl, rfl⟩)
          | (go_at_call 99; refine (isValue_any _ _ h2).mono ?_; rintro e w' ⟨rfl, rfl⟩))
        go_ret
        exact ⟨ret_bool HF.out.symm, B0⟩
    · have ho : opB o = false := by simpa using ho
      have HF : Hid (ruleB (xn, o, xv) = false) := Lib.hid (by simp only [ruleB, hn, ho]; rfl)
      go_enter Tryz.func70, Tryz.ntmps70
      go_wp2_with (first
        | (go_at_call 97; refine (isName_any _ _ h1).mono ?_; rintro e w' ⟨rfl, rfl⟩)
        | (go_at_call 98; refine (isOp_any _ _).mono ?_; rintro e w' ⟨rfl, rfl⟩))
      go_ret
      exact ⟨ret_bool HF.out.symm, B0⟩
  · have hn : nameB xn = false := by simpa using hn
    have HF : Hid (ruleB (xn, o, xv) = false) := Lib.hid (by simp only [ruleB, hn]; rfl)
    go_enter Tryz.func70, Tryz.ntmps70
    go_wp2_with (first
      | (go_at_call 97; refine (isName_any _ _ h1).mono ?_; rintro e w' ⟨rfl, rfl⟩))
    go_ret
    exact ⟨ret_bool HF.out.symm, B0⟩

set_option maxHeartbeats 1600000 in
theorem rightR_any (K : Nat) (A : Option Addr) (n cap : Nat) (l : List Rp) (w : World) (hln : l.length = n) (hp : Rr w K A cap l) (hK : K ≤ w.heap.size) (hS : SmR l) :
    Calls Tryz.prog 34 #[.slice A n cap] w fun e w' => e = .returned (.bool (rulesL l)) ∧ Below w.heap.size w w' := by
  subst hln
  have hle := hp.le
  have hmax := hp.max
  unfold maxLen at hmax
  by_cases h16 : 16 < l.length
  · rw [rulesL_many h16]
    go_enter Tryz.func34, Tryz.ntmps34
    go_wp2
    go_ret
    exact ⟨rfl, Below.refl _ _⟩
  rw [rulesL_of (by omega)]
  go_enter Tryz.func34, Tryz.ntmps34
  go_wp2
  go_loopw [10] (fun i wr => ∃ k : Nat, k ≤ l.length ∧ i = .int .i64 k ∧ Hid (rulesTo l k = true) ∧ Below w.heap.size w wr) (fun i _ => l.length - (intOf i).toNat)
  case atStart => exact ⟨0, Nat.zero_le _, rfl, Lib.hid (rulesTo_zero l), Below.refl _ _⟩
  case round =>
    obtain ⟨k, hk, rfl, HT, hbl⟩ := hrel
    have z := hbl.size
    by_cases hlt : k < l.length
    · obtain ⟨ad, rfl, hadK, h1, h2, h3⟩ := rr_at (hp.below (hbl.mono hK)) hlt
      have hs := hS.at_ k
      have hnext := rulesTo_succ hlt
      have hno : ruleB (l.getD k nilR) = false → l.all ruleB = false := all_getR hlt _
      generalize l.getD k nilR = x at *
      obtain ⟨xn, xo, xv⟩ := x
      simp only at h1 h2 h3 hs
      have ms1 : xn.size ≤ maxLen := by unfold maxLen; omega
      have ms2 : xv.size ≤ maxLen := by unfold maxLen; omega
      have B1 := hbl.alloc z (.cells #[.string xn, .int .i64 xo, .string xv] 139)
      by_cases hr : ruleB (xn, xo, xv) = true
      · have HN : Hid (rulesTo l (k + 1) = true) := Lib.hid (by rw [hnext, HT.out, hr]; rfl)
        have HC := Lib.hid (isRule_any xn xv xo (wr.alloc (.cells #[.string xn, .int .i64 xo, .string xv] 139)) ms1 ms2)
        rw [hr] at HC
        clear hnext hno hr
        go_wp2_with (go_at_call 70; refine HC.out.mono ?_; rintro e w1 ⟨rfl, hb1⟩)
        go_roundw
        case rel => exact ⟨k + 1, by omega, by go_num, HN, B1.trans (hb1.mono (by simp; omega))⟩
        case measure => simp [intOf]; omega
      · have hr : ruleB (xn, xo, xv) = false := by simpa using hr
        have HF : Hid (l.all ruleB = false) := Lib.hid (hno hr)
        have HC := Lib.hid (isRule_any xn xv xo (wr.alloc (.cells #[.string xn, .int .i64 xo, .string xv] 139)) ms1 ms2)
        rw [hr] at HC
        clear hnext hno hr
        go_wp2_with (go_at_call 70; refine HC.out.mono ?_; rintro e w1 ⟨rfl, hb1⟩)
        go_ret
        exact ⟨ret_bool HF.out.symm, B1.trans (hb1.mono (by simp; omega))⟩
    · have hks : k = l.length := by omega
      have HF : Hid (l.all ruleB = true) := Lib.hid (by rw [← rulesTo_all, ← hks]; exact HT.out)
      clear hks
      go_wp2_with fail
      go_ret
      exact ⟨ret_bool HF.out.symm, hbl⟩
end Go.Proofs.YtcmpenmaphmifaaGreatDoor
namespace Go.Proofs.YtcmpenmaphmifaaGreatDoor
open Go.RowKit

set_option maxHeartbeats 1600000 in
theorem fromR_any (K : Nat) (A : Option Addr) (n cap : Nat) (l : List Rp) (w : World) (hln : l.length = n) (hp : Rr w K A cap l) (hK : K ≤ w.heap.size) (hl : l.length * 40 ≤ 140737488355328) :
    Calls Tryz.prog 50 #[.slice A n cap] w (NewRd w l) := by
  subst hln
  have hle := hp.le
  have hmax := hp.max
  unfold maxLen at hmax
  go_enter Tryz.func50, Tryz.ntmps50
  go_wp2
  go_loopw [3, 8] (fun v i wr => ∃ (k c : Nat) (B : Option Addr), k ≤ l.length ∧ i = .int .i64 k ∧ v = .slice B k c ∧ Rd wr w.heap.size (.slice B k c) (l.take k) ∧ Below w.heap.size w wr) (fun _ i _ => l.length - (intOf i).toNat)
  case atStart => exact ⟨0, 0, none, Nat.zero_le _, rfl, rfl, by simpa using So.empty _ _ _ _ _, Below.refl _ _⟩
  case round =>
    obtain ⟨k, c, B, hk, rfl, rfl, hps, hbl⟩ := hrel
    have z := hbl.size
    by_cases hlt : k < l.length
    · obtain ⟨ad, rfl, hadK, h1, h2, h3⟩ := rr_cells (hp.below (hbl.mono hK)) hlt
      have htk : l.take (k + 1) = l.take k ++ [l[k]] := List.take_succ_eq_append_getElem hlt
      have hln : (l.take k).length = k := by simp; omega
      generalize l[k] = x at *
      obtain ⟨xn, xo, xv⟩ := x
      simp only at h1 h2 h3
      have HT := Lib.hid htk
      have HL := Lib.hid hln
      have hps1 := hps.alloc (.cells #[.string xn, .int .i64 xo, .string xv] 139)
      clear htk hln
      go_wp2_with (at_builtin; refine wpList_pushE Tryz.underlying22 info_dr rfl (by decide) (wr.alloc (.cells #[.string xn, .int .i64 xo, .string xv] 139)) rfl (.tmp 12) (.tmp 20) rfl w.heap.size (.slice B k c) (l.take k) rfl hps1 (xn, xo, xv) _ rfl rfl (encR_one _) _ (wr.heap.size + 1) (by simp) rfl (k + 1) (by rw [HL.out]) (by unfold maxLen; omega) (by omega) (by omega) ?_; intro A2 cap2 w2 hps2 hgrow2 hat2; have B2 : Below w.heap.size w w2 := grown_belowE (hbl.alloc z _) hgrow2 (by simp; omega) (fun _ h => (hps1.lt _ h).1))
      go_roundw
      case rel => exact ⟨k + 1, cap2, A2, by omega, by go_num, rfl, by rw [HT.out]; exact hps2, B2⟩
      case measure => simp [intOf]; omega
    · have hkl : k = l.length := by omega
      subst hkl
      rw [List.take_length] at hps
      go_wp2
      go_ret
      exact ⟨B, c, rfl, hps, hbl⟩
end Go.Proofs.YtcmpenmaphmifaaGreatDoor
namespace Go.Proofs.YtcmpenmaphmifaaGreatDoor
open Go.RowKit

set_option maxHeartbeats 1600000 in
theorem rIsName_any (s : ByteArray) (w : World) (hs : s.size ≤ maxLen) : Calls Tryz.prog 72 #[.string s] w fun e w' => e = .returned (.bool (nameB s)) ∧ w = w' := by
  unfold maxLen at hs
  go_enter Tryz.func72, Tryz.ntmps72
  go_wp2
  go_loop [3] (fun i => ∃ k : Nat, k ≤ s.size ∧ i = .int .i64 k ∧ Hid (nameTo s k = true)) (fun i => s.size - (intOf i).toNat)
  case atStart => exact ⟨0, Nat.zero_le _, rfl, Lib.hid (nameTo_zero s)⟩
  case round =>
    obtain ⟨k, hk, rfl, HT⟩ := hrel
    by_cases hlt : k < s.size
    · have hb := byteAt_get s k hlt
      have HB := Lib.hid hb
      clear hb
      by_cases hc : nameC k ((s[k]).toNat : Int) = true
      · have HN : Hid (nameTo s (k + 1) = true) := Lib.hid (by rw [nameTo_succ, HT.out, ← HB.out, hc]; rfl)
        have HC := Lib.hid hc
        clear hc
        go_wp2
        all_goals first
          | (go_round
             case rel => exact ⟨k + 1, by omega, by go_num, HN⟩
             case measure => simp [intOf]; omega)
          | (exfalso; have hc := HC.out; simp [nameC, letN, digN] at *; omega)
      · have hc : nameC k ((s[k]).toNat : Int) = false := by simpa using hc
        have HF : Hid (nameB s = false) := Lib.hid (by unfold nameB; rw [nameTo_false (k := k) (by rw [← HB.out]; exact hc) hlt]; simp)
        have HC := Lib.hid hc
        clear hc
        go_wp2
        all_goals first
          | (exfalso; have hc := HC.out; simp [nameC, letN, digN] at *; omega)
          | (go_ret; exact ⟨ret_bool HF.out.symm, rfl⟩)
    · have hks : k = s.size := by omega
      have HF : Hid (nameTo s s.size = true) := Lib.hid (hks ▸ HT.out)
      clear hks
      by_cases h1 : 1 ≤ s.size
      · by_cases h2 : s.size ≤ 32
        · have HG : Hid (nameB s = true) := Lib.hid (by rw [nameB_of h1 h2, HF.out])
          go_wp2_with fail
          go_ret
          exact ⟨ret_bool (by first | (rw [HG.out]; done) | (rw [HG.out]; apply decide_eq_true; omega) | (rw [HG.out]; apply decide_eq_false; omega)), rfl⟩
        · have HG : Hid (nameB s = false) := Lib.hid (nameB_no (.inr (by omega)))
          go_wp2_with fail
          go_ret
          exact ⟨ret_bool (by first | (rw [HG.out]; done) | (rw [HG.out]; apply decide_eq_true; omega) | (rw [HG.out]; apply decide_eq_false; omega)), rfl⟩
      · have HG : Hid (nameB s = false) := Lib.hid (nameB_no (.inl (by omega)))
        go_wp2_with fail
        go_ret
        exact ⟨ret_bool (by first | (rw [HG.out]; done) | (rw [HG.out]; apply decide_eq_true; omega) | (rw [HG.out]; apply decide_eq_false; omega)), rfl⟩
end Go.Proofs.YtcmpenmaphmifaaGreatDoor
namespace Go.Proofs.YtcmpenmaphmifaaGreatDoor
open Go.RowKit

set_option maxHeartbeats 800000 in
theorem rIsValue_any (s : ByteArray) (w : World) (hs : s.size ≤ maxLen) : Calls Tryz.prog 73 #[.string s] w fun e w' => e = .returned (.bool (valB s)) ∧ w = w' := by
  unfold maxLen at hs
  go_enter Tryz.func73, Tryz.ntmps73
  go_wp2
  go_loop [3] (fun i => ∃ k : Nat, k ≤ s.size ∧ i = .int .i64 k ∧ Hid (valTo s k = true)) (fun i => s.size - (intOf i).toNat)
  case atStart => exact ⟨0, Nat.zero_le _, rfl, Lib.hid (valTo_zero s)⟩
  case round =>
    obtain ⟨k, hk, rfl, HT⟩ := hrel
    by_cases hlt : k < s.size
    · have hb := byteAt_get s k hlt
      have HB := Lib.hid hb
      clear hb
      by_cases hc : valC ((s[k]).toNat : Int) = true
      · have HN : Hid (valTo s (k + 1) = true) := Lib.hid (by rw [valTo_succ, HT.out, ← HB.out, hc]; rfl)
        have HC := Lib.hid hc
        clear hc
        go_wp2
        all_goals first
          | (go_round
             case rel => exact ⟨k + 1, by omega, by go_num, HN⟩
             case measure => simp [intOf]; omega)
          | (exfalso; have hc := HC.out; simp [valC] at *; omega)
      · have hc : valC ((s[k]).toNat : Int) = false := by simpa using hc
        have HF : Hid (valB s = false) := Lib.hid (by unfold valB; rw [valTo_false (k := k) (by rw [← HB.out]; exact hc) hlt]; simp)
        have HC := Lib.hid hc
        clear hc
        go_wp2
        all_goals first
          | (exfalso; have hc := HC.out; simp [valC] at *; omega)
          | (go_ret; exact ⟨ret_bool HF.out.symm, rfl⟩)
    · have hks : k = s.size := by omega
      have HF : Hid (valTo s s.size = true) := Lib.hid (hks ▸ HT.out)
      clear hks
      by_cases h1 : 1 ≤ s.size
      · by_cases h2 : s.size ≤ 64
        · have HG : Hid (valB s = true) := Lib.hid (by rw [valB_of h1 h2, HF.out])
          go_wp2_with fail
          go_ret
          exact ⟨ret_bool (by first | (rw [HG.out]; done) | (rw [HG.out]; apply decide_eq_true; omega) | (rw [HG.out]; apply decide_eq_false; omega)), rfl⟩
        · have HG : Hid (valB s = false) := Lib.hid (valB_no (.inr (by omega)))
          go_wp2_with fail
          go_ret
          exact ⟨ret_bool (by first | (rw [HG.out]; done) | (rw [HG.out]; apply decide_eq_true; omega) | (rw [HG.out]; apply decide_eq_false; omega)), rfl⟩
      · have HG : Hid (valB s = false) := Lib.hid (valB_no (.inl (by omega)))
        go_wp2_with fail
        go_ret
        exact ⟨ret_bool (by first | (rw [HG.out]; done) | (rw [HG.out]; apply decide_eq_true; omega) | (rw [HG.out]; apply decide_eq_false; omega)), rfl⟩
end Go.Proofs.YtcmpenmaphmifaaGreatDoor
namespace Go.Proofs.YtcmpenmaphmifaaGreatDoor
open Go.RowKit

set_option maxRecDepth 100000 in
set_option maxHeartbeats 3200000 in
theorem rRightR_any (K : Nat) (A : Option Addr) (n cap : Nat) (l : List Rp) (w : World) (hln : l.length = n) (hp : Rr w K A cap l) (hK : K ≤ w.heap.size) (hS : SmR l) :
    Calls Tryz.prog 38 #[.slice A n cap] w fun e w' => e = .returned (.bool (rulesL l)) ∧ Below w.heap.size w w' := by
  subst hln
  have hle := hp.le
  have hmax := hp.max
  unfold maxLen at hmax
  go_enter Tryz.func38, Tryz.ntmps38
  go_wp2
  go_loopw [3] (fun i wr => ∃ k : Nat, k ≤ l.length ∧ i = .int .i64 k ∧ Hid (rulesTo l k = true) ∧ Below w.heap.size w wr) (fun i _ => l.length - (intOf i).toNat)
  case atStart => exact ⟨0, Nat.zero_le _, rfl, Lib.hid (rulesTo_zero l), Below.refl _ _⟩
  case round =>
    obtain ⟨k, hk, rfl, HT, hbl⟩ := hrel
    have z := hbl.size
    by_cases hlt : k < l.length
    · obtain ⟨ad, rfl, hadK, h1, h2, h3⟩ := rr_at (hp.below (hbl.mono hK)) hlt
      have hs := hS.at_ k
      have hnext := rulesTo_succ hlt
      have hno : ruleB (l.getD k nilR) = false → rulesL l = false := fun h => by unfold rulesL; rw [all_getR hlt _ h]; simp
      generalize l.getD k nilR = x at *
      obtain ⟨xn, xo, xv⟩ := x
      simp only at h1 h2 h3 hs
      have ms1 : xn.size ≤ maxLen := by unfold maxLen; omega
      have ms2 : xv.size ≤ maxLen := by unfold maxLen; omega
      by_cases hn : nameB xn = true
      · by_cases o1 : xo < 1
        · have HF : Hid (rulesL l = false) := Lib.hid (hno (by
            have : opB xo = false := by simp [opB]; omega
            simp [ruleB, this]))
          clear hnext hno
          go_wp2_with (first
          | (go_at_call 72; refine (rIsName_any _ _ ms1).mono ?_; rintro e w' ⟨rfl, rfl⟩)
          | (go_at_call 73; refine (rIsValue_any _ _ ms2).mono ?_; rintro e w' ⟨rfl, rfl⟩))
          go_ret
          exact ⟨ret_bool HF.out.symm, hbl⟩
        by_cases o4 : 4 < xo
        · have HF : Hid (rulesL l = false) := Lib.hid (hno (by
            have : opB xo = false := by simp [opB]; omega
            simp [ruleB, this]))
          clear hnext hno
          go_wp2_with (first
          | (go_at_call 72; refine (rIsName_any _ _ ms1).mono ?_; rintro e w' ⟨rfl, rfl⟩)
          | (go_at_call 73; refine (rIsValue_any _ _ ms2).mono ?_; rintro e w' ⟨rfl, rfl⟩))
          go_ret
          exact ⟨ret_bool HF.out.symm, hbl⟩
        have ho : opB xo = true := by simp [opB]; omega
        by_cases he : (xv.toList == []) = true
        · have HN : Hid (rulesTo l (k + 1) = true) := Lib.hid (by rw [hnext, HT.out]; simp only [ruleB, hn, ho, emB, he]; rfl)
          clear ho
          clear hnext hno
          go_wp2_with (first
          | (go_at_call 72; refine (rIsName_any _ _ ms1).mono ?_; rintro e w' ⟨rfl, rfl⟩)
          | (go_at_call 73; refine (rIsValue_any _ _ ms2).mono ?_; rintro e w' ⟨rfl, rfl⟩))
          go_roundw
          case rel => exact ⟨k + 1, by omega, by go_num, HN, hbl⟩
          case measure => simp [intOf]; omega
        have he : (xv.toList == []) = false := by simpa using he
        by_cases hv : valB xv = true
        · have HN : Hid (rulesTo l (k + 1) = true) := Lib.hid (by rw [hnext, HT.out]; simp only [ruleB, hn, ho, emB, he, hv]; rfl)
          clear ho
          clear hnext hno
          go_wp2_with (first
          | (go_at_call 72; refine (rIsName_any _ _ ms1).mono ?_; rintro e w' ⟨rfl, rfl⟩)
          | (go_at_call 73; refine (rIsValue_any _ _ ms2).mono ?_; rintro e w' ⟨rfl, rfl⟩))
          go_roundw
          case rel => exact ⟨k + 1, by omega, by go_num, HN, hbl⟩
          case measure => simp [intOf]; omega
        · have hv : valB xv = false := by simpa using hv
          have HF : Hid (rulesL l = false) := Lib.hid (hno (by simp only [ruleB, hn, ho, emB, he, hv]; rfl))
          clear ho
          clear hnext hno
          go_wp2_with (first
          | (go_at_call 72; refine (rIsName_any _ _ ms1).mono ?_; rintro e w' ⟨rfl, rfl⟩)
          | (go_at_call 73; refine (rIsValue_any _ _ ms2).mono ?_; rintro e w' ⟨rfl, rfl⟩))
          go_ret
          exact ⟨ret_bool HF.out.symm, hbl⟩
      · have hn : nameB xn = false := by simpa using hn
        have HF : Hid (rulesL l = false) := Lib.hid (hno (by simp only [ruleB, hn]; rfl))
        clear hnext hno
        go_wp2_with (go_at_call 72; refine (rIsName_any _ _ ms1).mono ?_; rintro e w' ⟨rfl, rfl⟩)
        go_ret
        exact ⟨ret_bool HF.out.symm, hbl⟩
    · have hks : k = l.length := by omega
      have HF : Hid (rulesL l = decide ((l.length : Int) ≤ 16)) := Lib.hid (by unfold rulesL; rw [← rulesTo_all, ← hks, HT.out]; simp; omega)
      clear hks
      go_wp2_with fail
      go_ret
      exact ⟨ret_bool HF.out.symm, hbl⟩
end Go.Proofs.YtcmpenmaphmifaaGreatDoor
