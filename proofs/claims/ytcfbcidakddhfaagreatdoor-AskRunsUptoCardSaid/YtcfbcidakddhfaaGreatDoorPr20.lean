/- Numbers read in decimal: the mathematics. -/
import Derived.Test.YtcfbcidakddhfaaGreatDoorPr18
import Derived.Test.YtcfbcidakddhfaaGreatDoorPr19
namespace Go.Proofs.YtcfbcidakddhfaaGreatDoor
open Go.RowKit

def RsPost (w : World) (r : List Rp × Nat) (e : Ending) (w' : World) : Prop :=
  ∃ A c, e = .returned (.tuple #[.slice A r.1.length c, .int .i64 (r.2 : Int)]) ∧ Ra w' w.heap.size (.slice A r.1.length c) r.1 ∧ Below w.heap.size w w'
theorem rs_none (w w' : World) (h : Below w.heap.size w w') : RsPost w ([], 0) (.returned (.tuple #[.slice none 0 0, .int .i64 0])) w' := ⟨none, 0, rfl, So.empty _ _ _ _ _, h⟩
theorem ret_slc {A : Option Addr} {n m c : Nat} {a b : Int} (h : n = m) (h2 : a = b) : Ending.returned (.tuple #[.slice A n c, .int .i64 a]) = .returned (.tuple #[.slice A m c, .int .i64 b]) := by rw [h, h2]
theorem ex_list (t : ByteArray) (k : Nat) : (t.extract k t.size).data.toList = t.data.toList.drop k := by
  rw [Lib.extract_data, List.take_of_length_le (by rw [List.length_drop]; simp)]
theorem ex_size (t : ByteArray) (k : Nat) : (t.extract k t.size).size = t.size - k := by simp

set_option maxRecDepth 100000 in
set_option maxHeartbeats 3200000 in
theorem parseR_any (t : ByteArray) (w : World) (hs : t.size ≤ 4000000000) (hi : ∀ k, IdxOk (t.extract k t.size)) (hg : Sg w) : Calls Tryz.prog 43 #[.string t] w (RsPost w (parseB t.data.toList)) := by
  have hl : t.data.toList.length = t.size := by simp
  have HP1 := Lib.hid (fun W => hasPrefix_any t ⟨#[123, 125]⟩ W)
  have HP2 := Lib.hid (fun W => hasPrefix_any t ⟨#[123]⟩ W)
  have e1 : (⟨#[123, 125]⟩ : ByteArray).data.toList = [123, 125] := rfl
  have e2 : (⟨#[123]⟩ : ByteArray).data.toList = [123] := rfl
  rw [e1] at HP1
  rw [e2] at HP2
  clear e1 e2
  by_cases h1 : Lib.hasPrefix t.data.toList [123, 125] = true
  · have HR : Hid (parseB t.data.toList = ([], 2)) := Lib.hid (by unfold parseB; rw [if_pos h1])
    rw [h1] at HP1
    clear h1 hl hi hg
    go_enter Tryz.func43, Tryz.ntmps43
    go_wp2_with (first
      | (go_at_call 57; refine (HP1.out _).mono ?_; rintro e w' ⟨rfl, rfl⟩)
      | (go_at_call 57; refine (HP2.out _).mono ?_; rintro e w' ⟨rfl, rfl⟩))
    go_step3
    go_wp2_with (first
      | (go_at_call 57; refine (HP1.out _).mono ?_; rintro e w' ⟨rfl, rfl⟩)
      | (go_at_call 57; refine (HP2.out _).mono ?_; rintro e w' ⟨rfl, rfl⟩))
    (try rw [Exit.noGoto_ret])
    go_ret2
    rw [HR.out]
    exact ⟨none, 0, rfl, So.empty _ _ _ _ _, Below.refl _ _⟩
  have h1 : Lib.hasPrefix t.data.toList [123, 125] = false := by simpa using h1
  by_cases h2 : Lib.hasPrefix t.data.toList [123] = true
  · have hpos : 1 ≤ t.size := by
      have := hasPrefix_len h2
      rw [hl] at this
      exact this
    have HR : Hid (parseB t.data.toList = parseGo 17 (t.data.toList.drop 1) 1 []) := Lib.hid (by unfold parseB; rw [if_neg (by rw [h1]; decide), if_pos h2])
    rw [h1] at HP1
    rw [h2] at HP2
    generalize parseB t.data.toList = R at *
    have HI := Lib.hid hi
    have HG := Lib.hid hg
    have HE := Lib.hid hl
    clear h1 h2 hl hi hg
    go_enter Tryz.func43, Tryz.ntmps43
    go_wp2_with (first
      | (go_at_call 57; refine (HP1.out _).mono ?_; rintro e w' ⟨rfl, rfl⟩)
      | (go_at_call 57; refine (HP2.out _).mono ?_; rintro e w' ⟨rfl, rfl⟩))
    go_step3
    go_wp2_with (first
      | (go_at_call 57; refine (HP1.out _).mono ?_; rintro e w' ⟨rfl, rfl⟩)
      | (go_at_call 57; refine (HP2.out _).mono ?_; rintro e w' ⟨rfl, rfl⟩))
    go_step3
    go_wp2_with fail
    clear HP1 HP2
    go_loopw [4, 5] (fun v i wr => ∃ (k n c : Nat) (A : Option Addr) (acc : List Rp), 1 ≤ k ∧ k ≤ t.size ∧ i = .int .i64 k ∧ v = .slice A n c ∧ n ≤ 16 ∧ Ra wr w.heap.size (.slice A n c) acc ∧ Hid (R = parseGo (17 - n) (t.data.toList.drop k) k acc) ∧ Below w.heap.size w wr) (fun _ i _ => t.size + 1 - (intOf i).toNat)
    case atStart => exact ⟨1, 0, 0, none, [], Nat.le_refl _, hpos, rfl, rfl, by omega, So.empty _ _ _ _ _, HR, Below.refl _ _⟩
    case round =>
      obtain ⟨k, n, c, A, acc, h1k, hk, rfl, rfl, hnk, hla, HT, hbl⟩ := hrel
      have z := hbl.size
      have hnl := (So.sr encR_len hla).2
      have hrp := parseRule_any (t.extract k t.size) wr (by rw [ex_size]; omega) (HI.out k) (HG.out.below hbl)
      have hpl := partR_len (t.data.toList.drop k)
      rw [ex_list] at hrp
      rw [List.length_drop, HE.out] at hpl
      have hgo : parseGo (17 - n) (t.data.toList.drop k) k acc = if (partR (t.data.toList.drop k)).2 = 0 ∨ n = 16 then ([], 0) else if Lib.hasPrefix ((t.data.toList.drop k).drop (partR (t.data.toList.drop k)).2) [125] = true then (acc ++ [(partR (t.data.toList.drop k)).1], k + (partR (t.data.toList.drop k)).2 + 1) else if Lib.hasPrefix ((t.data.toList.drop k).drop (partR (t.data.toList.drop k)).2) [44] = true then parseGo (17 - (n + 1)) ((t.data.toList.drop k).drop ((partR (t.data.toList.drop k)).2 + 1)) (k + (partR (t.data.toList.drop k)).2 + 1) (acc ++ [(partR (t.data.toList.drop k)).1]) else ([], 0) := by
        have e : 17 - n = (17 - (n + 1)) + 1 := by omega
        rw [e, parseGo, hnl]
      rw [List.drop_drop, List.drop_drop] at hgo
      generalize partR (t.data.toList.drop k) = p at *
      obtain ⟨x, u⟩ := p
      unfold RulePost at hrp
      simp only at hrp hgo hpl
      obtain ⟨xn, xo, xv⟩ := x
      simp only at hrp
      have HRP := Lib.hid hrp
      have HGO := Lib.hid hgo
      have HNL := Lib.hid hnl
      clear hrp hgo hnl
      have i0 : (k : Int) ≤ t.size := by omega
      have hla1 := hla
      clear hla
      go_wp2_with fail
      refine HRP.out.mono ?_
      rintro e w1 ⟨rfl, hb1⟩
      have B1 : Below w.heap.size w w1 := hbl.trans (hb1.mono z)
      have z1 := B1.size
      have hla2 := (So.below hla1 hb1).alloc (.cells #[.string xn, .int .i64 xo, .string xv] 108)
      clear hla1 hb1 HRP
      by_cases hu : u = 0
      · have HF : Hid (R = ([], 0)) := Lib.hid (by rw [HT.out, HGO.out, if_pos (.inl hu)])
        subst hu
        go_wp2_with fail
        (try rw [Exit.noGoto_ret])
        go_ret2
        rw [HF.out]
        exact rs_none _ _ (B1.alloc z1 _)
      have hu1 : ((u : Int) == 0) = false := beq_eq_false_iff_ne.2 (by omega)
      by_cases hn16 : n = 16
      · have HF : Hid (R = ([], 0)) := Lib.hid (by rw [HT.out, HGO.out, if_pos (.inr hn16)])
        subst hn16
        clear hu
        go_wp2_with fail
        (try rw [Exit.noGoto_ret])
        go_ret2
        rw [HF.out]
        exact rs_none _ _ (B1.alloc z1 _)
      have hn1 : ((n : Int) == 16) = false := beq_eq_false_iff_ne.2 (by omega)
      have hgo2 := HGO.out
      rw [if_neg (by rintro (h | h); exact hu h; exact hn16 h)] at hgo2
      have HG2 := Lib.hid hgo2
      clear hgo2 HGO
      have HPa := Lib.hid (fun W => hasPrefix_any (t.extract (k + u) t.size) ⟨#[125]⟩ W)
      have HPb := Lib.hid (fun W => hasPrefix_any (t.extract (k + u) t.size) ⟨#[44]⟩ W)
      have e3 : (⟨#[125]⟩ : ByteArray).data.toList = [125] := rfl
      have e4 : (⟨#[44]⟩ : ByteArray).data.toList = [44] := rfl
      rw [ex_list, e3] at HPa
      rw [ex_list, e4] at HPb
      clear e3 e4
      have hrl : (t.data.toList.drop (k + u)).length = t.size - (k + u) := by rw [List.length_drop, HE.out]
      generalize hrs : t.data.toList.drop (k + u) = rest at *
      have i1 : (0 : Int) ≤ (k : Int) + u := by omega
      have i2 : (k : Int) + u ≤ t.size := by omega
      have i3 : (k : Int) + u ≤ 9223372036854775807 := by omega
      have i4 : ((k : Int) + u).toNat = k + u := by omega
      by_cases hc : Lib.hasPrefix rest [125] = true
      · have HF : Hid (R = (acc ++ [(xn, xo, xv)], k + u + 1)) := Lib.hid (by rw [HT.out, HG2.out, if_pos hc])
        have hlt : k + u < t.size := by
          have := hasPrefix_len hc
          rw [hrl] at this
          simp at this
          omega
        rw [hc] at HPa
        clear hc hrs hrl hu hn16
        go_wp2_with (first
            | (at_builtin; refine wpList_pushE Tryz.underlying34 info_ar rfl (by decide) (w1.alloc (.cells #[.string xn, .int .i64 xo, .string xv] 108)) rfl (.tmp 27) (.tmp 29) rfl w.heap.size (.slice A n c) acc rfl hla2 (xn, xo, xv) _ rfl rfl (encR_one _) _ (w1.heap.size + 1) (by simp) rfl (n + 1) (by rw [HNL.out]) (by unfold maxLen; omega) (by omega) (by omega) ?_; intro A2 cap2 w2 hps2 hgrow2 hat2; have B2 : Below w.heap.size w w2 := grown_belowE (B1.alloc z1 _) hgrow2 (by simp; omega) (fun _ h => (hla2.lt _ h).1))
            | (go_at_call 57; refine (HPa.out _).mono ?_; rintro e w' ⟨rfl, rfl⟩))
        (try rw [Exit.noGoto_ret])
        go_ret2
        have e : (acc ++ [(xn, xo, xv)]).length = n + 1 := by rw [List.length_append, HNL.out]; rfl
        rw [HF.out]
        refine ⟨A2, cap2, ?_, ?_, B2⟩
        · rw [e]; exact ret_slc rfl (by push_cast; omega)
        · rw [e]; exact hps2
      have hc : Lib.hasPrefix rest [125] = false := by simpa using hc
      by_cases hd : Lib.hasPrefix rest [44] = true
      · have HN : Hid (R = parseGo (17 - (n + 1)) (t.data.toList.drop (k + u + 1)) (k + u + 1) (acc ++ [(xn, xo, xv)])) := Lib.hid (by
          rw [HT.out, HG2.out, if_neg (by rw [hc]; decide), if_pos hd, Nat.add_assoc k u 1])
        have hlt : k + u < t.size := by
          have := hasPrefix_len hd
          rw [hrl] at this
          simp at this
          omega
        rw [hc] at HPa
        rw [hd] at HPb
        have hn17 : n + 1 ≤ 16 := by omega
        clear hc hd hrs hrl hu hn16
        go_wp2_with (first
            | (at_builtin; refine wpList_pushE Tryz.underlying34 info_ar rfl (by decide) (w1.alloc (.cells #[.string xn, .int .i64 xo, .string xv] 108)) rfl (.tmp 27) (.tmp 29) rfl w.heap.size (.slice A n c) acc rfl hla2 (xn, xo, xv) _ rfl rfl (encR_one _) _ (w1.heap.size + 1) (by simp) rfl (n + 1) (by rw [HNL.out]) (by unfold maxLen; omega) (by omega) (by omega) ?_; intro A2 cap2 w2 hps2 hgrow2 hat2; have B2 : Below w.heap.size w w2 := grown_belowE (B1.alloc z1 _) hgrow2 (by simp; omega) (fun _ h => (hla2.lt _ h).1))
            | (go_at_call 57; refine (HPa.out _).mono ?_; rintro e w' ⟨rfl, rfl⟩)
            | (go_at_call 57; refine (HPb.out _).mono ?_; rintro e w' ⟨rfl, rfl⟩))
        go_roundw
        case rel => exact ⟨k + u + 1, n + 1, cap2, A2, _, by omega, by omega, by go_num, rfl, hn17, hps2, HN, B2⟩
        case measure => simp [intOf]; omega
      · have hd : Lib.hasPrefix rest [44] = false := by simpa using hd
        have HF : Hid (R = ([], 0)) := Lib.hid (by rw [HT.out, HG2.out, if_neg (by rw [hc]; decide), if_neg (by rw [hd]; decide)])
        rw [hc] at HPa
        rw [hd] at HPb
        clear hc hd hrs hrl hu hn16
        go_wp2_with (first
            | (at_builtin; refine wpList_pushE Tryz.underlying34 info_ar rfl (by decide) (w1.alloc (.cells #[.string xn, .int .i64 xo, .string xv] 108)) rfl (.tmp 27) (.tmp 29) rfl w.heap.size (.slice A n c) acc rfl hla2 (xn, xo, xv) _ rfl rfl (encR_one _) _ (w1.heap.size + 1) (by simp) rfl (n + 1) (by rw [HNL.out]) (by unfold maxLen; omega) (by omega) (by omega) ?_; intro A2 cap2 w2 hps2 hgrow2 hat2; have B2 : Below w.heap.size w w2 := grown_belowE (B1.alloc z1 _) hgrow2 (by simp; omega) (fun _ h => (hla2.lt _ h).1))
            | (go_at_call 57; refine (HPa.out _).mono ?_; rintro e w' ⟨rfl, rfl⟩)
            | (go_at_call 57; refine (HPb.out _).mono ?_; rintro e w' ⟨rfl, rfl⟩))
        (try rw [Exit.noGoto_ret])
        go_ret2
        rw [HF.out]
        exact rs_none _ _ B2
  · have h2 : Lib.hasPrefix t.data.toList [123] = false := by simpa using h2
    have HR : Hid (parseB t.data.toList = ([], 0)) := Lib.hid (by unfold parseB; rw [if_neg (by rw [h1]; decide), if_neg (by rw [h2]; decide)])
    rw [h1] at HP1
    rw [h2] at HP2
    clear h1 h2 hl hi hg
    go_enter Tryz.func43, Tryz.ntmps43
    go_wp2_with (first
      | (go_at_call 57; refine (HP1.out _).mono ?_; rintro e w' ⟨rfl, rfl⟩)
      | (go_at_call 57; refine (HP2.out _).mono ?_; rintro e w' ⟨rfl, rfl⟩))
    go_step3
    go_wp2_with (first
      | (go_at_call 57; refine (HP1.out _).mono ?_; rintro e w' ⟨rfl, rfl⟩)
      | (go_at_call 57; refine (HP2.out _).mono ?_; rintro e w' ⟨rfl, rfl⟩))
    (try rw [Exit.noGoto_ret])
    go_ret2
    rw [HR.out]
    exact rs_none _ _ (Below.refl _ _)
end Go.Proofs.YtcfbcidakddhfaaGreatDoor
namespace Go.Proofs.YtcfbcidakddhfaaGreatDoor
open Go.RowKit

theorem nDigits_le : ∀ (k m : Nat), m < 10 ^ (k + 1) → Lib.nDigits m ≤ k + 1
  | 0, m, h => by rw [Lib.nDigits_small (by simpa using h)]; omega
  | k + 1, m, h => by
    by_cases h9 : m < 10
    · rw [Lib.nDigits_small h9]; omega
    · rw [Lib.nDigits_big h9]
      have := nDigits_le k (m / 10) (by rw [Nat.pow_succ] at h; omega)
      omega
theorem dec_len19 {m : Nat} (h : m ≤ 9223372036854775807) : (dec m).length ≤ 19 := by
  unfold dec; rw [Lib.decDigits_length]; exact nDigits_le 18 m (by omega)
theorem dec_lead : ∀ (m : Nat), 1 ≤ m → (dec m)[0]? ≠ some 48 := by
  intro m
  induction m using Nat.strongRecOn with
  | _ m ih =>
    intro hm
    by_cases h : m < 10
    · rw [dec_small h]
      intro e
      simp only [List.getElem?_cons_zero, Option.some.injEq] at e
      have := digit_toNat h
      rw [e] at this
      simp at this
      omega
    · rw [dec_big h, List.getElem?_append_left (dec_pos _)]
      exact ih (m / 10) (by omega) (by omega)
theorem dec_step {n d : Nat} (hn : 1 ≤ n) (hd : d < 10) : dec (n * 10 + d) = dec n ++ [UInt8.ofNat (48 + d)] := by
  rw [dec_big (by omega)]
  rw [show (n * 10 + d) / 10 = n by omega, show (n * 10 + d) % 10 = d by omega]
theorem byte_back (c : UInt8) (h0 : 48 ≤ c.toNat) : UInt8.ofNat (48 + (c.toNat - 48)) = c := by
  rw [show 48 + (c.toNat - 48) = c.toNat by omega]; simp

/-- What of a text has been read so far. -/
def Got (l : List UInt8) (k n : Nat) : Prop := (k = 0 ∧ n = 0) ∨ (0 < k ∧ dec n = l.take k ∧ n < 10 ^ k)
theorem Got.step {l : List UInt8} {k n : Nat} {c : UInt8} (h : Got l k n) (hk : l[k]? = some c) (h0 : 48 ≤ c.toNat) (h9 : c.toNat ≤ 57) (hl : l.length = 1 ∨ l[0]? ≠ some 48) : Got l (k + 1) (n * 10 + (c.toNat - 48)) := by
  have hkl : k < l.length := by
    rcases Nat.lt_or_ge k l.length with h' | h'
    · exact h'
    · rw [List.getElem?_eq_none h'] at hk; cases hk
  have hc : l[k] = c := by rw [List.getElem?_eq_getElem hkl] at hk; injection hk
  rcases h with ⟨rfl, rfl⟩ | ⟨hp, hd, hb⟩
  · refine .inr ⟨by omega, ?_, by omega⟩
    rw [Nat.zero_mul, Nat.zero_add, dec_small (by omega), byte_back c h0, List.take_add_one, hk]
    rfl
  · have hn : 1 ≤ n := by
      rcases Nat.eq_zero_or_pos n with e | e
      · subst e
        exfalso
        rw [dec_small (by decide)] at hd
        have h1 : (l.take k).length = 1 := by rw [← hd]; rfl
        rw [List.length_take] at h1
        have h2 : l[0]? = some 48 := by
          have := congrArg (·[0]?) hd
          simp only [List.getElem?_take, if_pos hp] at this
          exact this.symm
        rcases hl with hl | hl
        · omega
        · exact hl h2
      · exact e
    refine .inr ⟨by omega, ?_, ?_⟩
    · rw [dec_step hn (by omega), byte_back c h0, hd, List.take_add_one, hk]
      rfl
    · rw [Nat.pow_succ]; omega
theorem Got.lt {l : List UInt8} {k n : Nat} (h : Got l k n) (hk : k ≤ 19) : n < 10000000000000000000 := by
  rcases h with ⟨rfl, rfl⟩ | ⟨_, _, hb⟩
  · decide
  · have : 10 ^ k ≤ 10 ^ 19 := Nat.pow_le_pow_right (by decide) hk
    omega
theorem Got.done {l : List UInt8} {n : Nat} (h : Got l l.length n) (hl : 1 ≤ l.length) : l = dec n := by
  rcases h with ⟨e, _⟩ | ⟨_, hd, _⟩
  · omega
  · rw [hd, List.take_length]
/-- Which number at most 'most' a text spells; false: none. -/
def NumIs (l : List UInt8) (most n : Nat) (ok : Bool) : Prop := (ok = true → n ≤ most ∧ l = dec n) ∧ (ok = false → ∀ m, m ≤ most → l ≠ dec m)
theorem NumIs.no {l : List UInt8} {most n : Nat} (h : ∀ m, m ≤ most → l ≠ dec m) : NumIs l most n false := ⟨(fun e => by cases e), fun _ => h⟩
theorem NumIs.end_ {l : List UInt8} {most n : Nat} (hm : most ≤ 9223372036854775807) (h : l = dec n) (hn : n < 10000000000000000000) : NumIs l most n (decide (n ≤ most)) := by
  refine ⟨fun e => ⟨of_decide_eq_true e, h⟩, fun e m hmm hd => ?_⟩
  have hmb : m ≤ 9223372036854775807 := Nat.le_trans hmm hm
  have hnm : ¬ n ≤ most := of_decide_eq_false e
  have e1 : Lib.parseUintM 18446744073709551615 0 (dec n) = .ok n := by
    have := parseUintM_app 18446744073709551615 (by decide) n (by omega) []
    rw [List.append_nil] at this; rw [this]; rfl
  have e2 : Lib.parseUintM 18446744073709551615 0 (dec m) = .ok m := by
    have := parseUintM_app 18446744073709551615 (by decide) m (by omega) []
    rw [List.append_nil] at this; rw [this]; rfl
  rw [← h, hd, e2] at e1
  injection e1 with e1
  omega
theorem num_empty {l : List UInt8} (h : l.length = 0) (most n : Nat) : NumIs l most n false := NumIs.no fun m _ e => by have := dec_pos m; rw [← e] at this; omega
theorem num_long {l : List UInt8} (h : 19 < l.length) {most : Nat} (hm : most ≤ 9223372036854775807) (n : Nat) : NumIs l most n false := NumIs.no fun m hmm e => by have := dec_len19 (m := m) (by omega); rw [← e] at this; omega
theorem num_lead {l : List UInt8} (h : 1 < l.length) (h0 : l[0]? = some 48) (most n : Nat) : NumIs l most n false := NumIs.no fun m hmm e => by
  rcases Nat.eq_zero_or_pos m with h' | h'
  · subst h'; rw [dec_small (by decide)] at e; rw [e] at h; simp at h
  · rw [e] at h0; exact dec_lead m h' h0
theorem num_byte {l : List UInt8} {k : Nat} {c : UInt8} (hk : l[k]? = some c) (h : c.toNat < 48 ∨ 57 < c.toNat) (most n : Nat) : NumIs l most n false := NumIs.no fun m _ e => by
  have := dec_digit m c (by rw [← e]; exact List.mem_of_getElem? hk)
  omega
end Go.Proofs.YtcfbcidakddhfaaGreatDoor
