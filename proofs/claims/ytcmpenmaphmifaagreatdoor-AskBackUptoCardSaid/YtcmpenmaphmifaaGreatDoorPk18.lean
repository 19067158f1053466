/- strings.IndexRune of a rune beyond ASCII in the four signs' text: none. -/
import Derived.Test.YtcmpenmaphmifaaGreatDoorPk17
import Derived.Test.YtcmpenmaphmifaaGreatDoorPk1
import Derived.Test.YtcmpenmaphmifaaGreatDoorPk10
import Derived.Test.YtcmpenmaphmifaaGreatDoorPk0
import Derived.Laws.RangeString
import Derived.Laws.Runes
import Derived.Deep.LoopGhost
import Derived.Deep.QuietTactic
import Derived.BigQuiet
import Derived.LoopTactic
namespace Go.Proofs.YtcmpenmaphmifaaGreatDoor
open Go.RowKit

def RsPost (w : World) (r : List Rp × Nat) (e : Ending) (w' : World) : Prop :=
  ∃ A c, e = .returned (.tuple #[.slice A r.1.length c, .int .i64 (r.2 : Int)]) ∧ Ra w' w.heap.size (.slice A r.1.length c) r.1 ∧ Below w.heap.size w w'
theorem rs_none (w w' : World) (h : Below w.heap.size w w') : RsPost w ([], 0) (.returned (.tuple #[.slice none 0 0, .int .i64 0])) w' := ⟨none, 0, rfl, So.empty _ _ _ _ _, h⟩
theorem ret_slc {A : Option Addr} {n m c : Nat} {a b : Int} (h : n = m) (h2 : a = b) : Ending.returned (.tuple #[.slice A n c, .int .i64 a]) = .returned (.tuple #[.slice A m c, .int .i64 b]) := by rw [h, h2]
theorem ex_list (t : ByteArray) (k : Nat) : (t.extract k t.size).data.toList = t.data.toList.drop k := by
  rw [Lib.extract_data, List.take_of_length_le (by rw [List.length_drop]; simp)]
theorem ex_size (t : ByteArray) (k : Nat) : (t.extract k t.size).size = t.size - k := by simp

set_option maxRecDepth 100000 in
set_option maxHeartbeats 3200000 in
theorem parseR_any (t : ByteArray) (w : World) (hs : t.size ≤ 4000000000) (hi : ∀ k, IdxOk (t.extract k t.size)) (hg : Sg w) : Calls Tryz.prog 28 #[.string t] w (RsPost w (parseB t.data.toList)) := by
  have hl : t.data.toList.length = t.size := by simp
  have HP1 := Lib.hid (fun W => hasPrefix_any t ⟨#[123, 125]⟩ W)
  have HP2 := Lib.hid (fun W => hasPrefix_any t ⟨#[123]⟩ W)
  have e1 : (⟨#[123, 125]⟩ : ByteArray).data.toList = [123, 125] := rfl
  have e2 : (⟨#[123]⟩ : ByteArray).data.toList = [123] := rfl
  rw [e1] at HP1
  rw [e2] at HP2
  clear e1 e2
  by_cases h1 : Lib.hasPrefix t.data.toList [123, 125] = true
  · have HR : Hid (parseB t.data.toList = ([], 2)) := Lib.hid (by unfold parseB; rw [if_pos h1])
    rw [h1] at HP1
    clear h1 hl hi hg
    go_enter Tryz.func28, Tryz.ntmps28
    go_wp2_with (first
      | (go_at_call 62; refine (HP1.out _).mono ?_; rintro e w' ⟨rfl, rfl⟩)
      | (go_at_call 62; refine (HP2.out _).mono ?_; rintro e w' ⟨rfl, rfl⟩))
    go_step3
    go_wp2_with (first
      | (go_at_call 62; refine (HP1.out _).mono ?_; rintro e w' ⟨rfl, rfl⟩)
      | (go_at_call 62; refine (HP2.out _).mono ?_; rintro e w' ⟨rfl, rfl⟩))
    (try rw [Exit.noGoto_ret])
    go_ret2
    rw [HR.out]
    exact ⟨none, 0, rfl, So.empty _ _ _ _ _, Below.refl _ _⟩
  have h1 : Lib.hasPrefix t.data.toList [123, 125] = false := by simpa using h1
  by_cases h2 : Lib.hasPrefix t.data.toList [123] = true
  · have hpos : 1 ≤ t.size := by
      have := hasPrefix_len h2
      rw [hl] at this
      exact this
    have HR : Hid (parseB t.data.toList = parseGo 17 (t.data.toList.drop 1) 1 []) := Lib.hid (by unfold parseB; rw [if_neg (by rw [h1]; decide), if_pos h2])
    rw [h1] at HP1
    rw [h2] at HP2
    generalize parseB t.data.toList = R at *
    have HI := Lib.hid hi
    have HG := Lib.hid hg
    have HE := Lib.hid hl
    clear h1 h2 hl hi hg
    go_enter Tryz.func28, Tryz.ntmps28
    go_wp2_with (first
      | (go_at_call 62; refine (HP1.out _).mono ?_; rintro e w' ⟨rfl, rfl⟩)
      | (go_at_call 62; refine (HP2.out _).mono ?_; rintro e w' ⟨rfl, rfl⟩))
    go_step3
    go_wp2_with (first
      | (go_at_call 62; refine (HP1.out _).mono ?_; rintro e w' ⟨rfl, rfl⟩)
      | (go_at_call 62; refine (HP2.out _).mono ?_; rintro e w' ⟨rfl, rfl⟩))
    go_step3
    go_wp2_with fail
    clear HP1 HP2
    go_loopw [4, 5] (fun v i wr => ∃ (k n c : Nat) (A : Option Addr) (acc : List Rp), 1 ≤ k ∧ k ≤ t.size ∧ i = .int .i64 k ∧ v = .slice A n c ∧ n ≤ 16 ∧ Ra wr w.heap.size (.slice A n c) acc ∧ Hid (R = parseGo (17 - n) (t.data.toList.drop k) k acc) ∧ Below w.heap.size w wr) (fun _ i _ => t.size + 1 - (intOf i).toNat)
    case atStart => exact ⟨1, 0, 0, none, [], Nat.le_refl _, hpos, rfl, rfl, by omega, So.empty _ _ _ _ _, HR, Below.refl _ _⟩
    case round =>
      obtain ⟨k, n, c, A, acc, h1k, hk, rfl, rfl, hnk, hla, HT, hbl⟩ := hrel
      have z := hbl.size
      have hnl := (So.sr encR_len hla).2
      have hrp := parseRule_any (t.extract k t.size) wr (by rw [ex_size]; omega) (HI.out k) (HG.out.below hbl)
      have hpl := partR_len (t.data.toList.drop k)
      rw [ex_list] at hrp
      rw [List.length_drop, HE.out] at hpl
      have hgo : parseGo (17 - n) (t.data.toList.drop k) k acc = if (partR (t.data.toList.drop k)).2 = 0 ∨ n = 16 then ([], 0) else if Lib.hasPrefix ((t.data.toList.drop k).drop (partR (t.data.toList.drop k)).2) [125] = true then (acc ++ [(partR (t.data.toList.drop k)).1], k + (partR (t.data.toList.drop k)).2 + 1) else if Lib.hasPrefix ((t.data.toList.drop k).drop (partR (t.data.toList.drop k)).2) [44] = true then parseGo (17 - (n + 1)) ((t.data.toList.drop k).drop ((partR (t.data.toList.drop k)).2 + 1)) (k + (partR (t.data.toList.drop k)).2 + 1) (acc ++ [(partR (t.data.toList.drop k)).1]) else ([], 0) := by
        have e : 17 - n = (17 - (n + 1)) + 1 := by omega
        rw [e, parseGo, hnl]
      rw [List.drop_drop, List.drop_drop] at hgo
      generalize partR (t.data.toList.drop k) = p at *
      obtain ⟨x, u⟩ := p
      unfold RulePost at hrp
      simp only at hrp hgo hpl
      obtain ⟨xn, xo, xv⟩ := x
      simp only at hrp
      have HRP := Lib.hid hrp
      have HGO := Lib.hid hgo
      have HNL := Lib.hid hnl
      clear hrp hgo hnl
      have i0 : (k : Int) ≤ t.size := by omega
      have hla1 := hla
      clear hla
      go_wp2_with fail
      refine HRP.out.mono ?_
      rintro e w1 ⟨rfl, hb1⟩
      have B1 : Below w.heap.size w w1 := hbl.trans (hb1.mono z)
      have z1 := B1.size
      have hla2 := (So.below hla1 hb1).alloc (.cells #[.string xn, .int .i64 xo, .string xv] 139)
      clear hla1 hb1 HRP
      by_cases hu : u = 0
      · have HF : Hid (R = ([], 0)) := Lib.hid (by rw [HT.out, HGO.out, if_pos (.inl hu)])
        subst hu
        go_wp2_with fail
        (try rw [Exit.noGoto_ret])
        go_ret2
        rw [HF.out]
        exact rs_none _ _ (B1.alloc z1 _)
      have hu1 : ((u : Int) == 0) = false := beq_eq_false_iff_ne.2 (by omega)
      by_cases hn16 : n = 16
      · have HF : Hid (R = ([], 0)) := Lib.hid (by rw [HT.out, HGO.out, if_pos (.inr hn16)])
        subst hn16
        clear hu
        go_wp2_with fail
        (try rw [Exit.noGoto_ret])
        go_ret2
        rw [HF.out]
        exact rs_none _ _ (B1.alloc z1 _)
      have hn1 : ((n : Int) == 16) = false := beq_eq_false_iff_ne.2 (by omega)
      have hgo2 := HGO.out
      rw [if_neg (by rintro (h | h); exact hu h; exact hn16 h)] at hgo2
      have HG2 := Lib.hid hgo2
      clear hgo2 HGO
      have HPa := Lib.hid (fun W => hasPrefix_any (t.extract (k + u) t.size) ⟨#[125]⟩ W)
      have HPb := Lib.hid (fun W => hasPrefix_any (t.extract (k + u) t.size) ⟨#[44]⟩ W)
      have e3 : (⟨#[125]⟩ : ByteArray).data.toList = [125] := rfl
      have e4 : (⟨#[44]⟩ : ByteArray).data.toList = [44] := rfl
      rw [ex_list, e3] at HPa
      rw [ex_list, e4] at HPb
      clear e3 e4
      have hrl : (t.data.toList.drop (k + u)).length = t.size - (k + u) := by rw [List.length_drop, HE.out]
      generalize hrs : t.data.toList.drop (k + u) = rest at *
      have i1 : (0 : Int) ≤ (k : Int) + u := by omega
      have i2 : (k : Int) + u ≤ t.size := by omega
      have i3 : (k : Int) + u ≤ 9223372036854775807 := by omega
      have i4 : ((k : Int) + u).toNat = k + u := by omega
      by_cases hc : Lib.hasPrefix rest [125] = true
      · have HF : Hid (R = (acc ++ [(xn, xo, xv)], k + u + 1)) := Lib.hid (by rw [HT.out, HG2.out, if_pos hc])
        have hlt : k + u < t.size := by
          have := hasPrefix_len hc
          rw [hrl] at this
          simp at this
          omega
        rw [hc] at HPa
        clear hc hrs hrl hu hn16
        go_wp2_with (first
            | (at_builtin; refine wpList_pushE Tryz.underlying25 info_ar rfl (by decide) (w1.alloc (.cells #[.string xn, .int .i64 xo, .string xv] 139)) rfl (.tmp 27) (.tmp 29) rfl w.heap.size (.slice A n c) acc rfl hla2 (xn, xo, xv) _ rfl rfl (encR_one _) _ (w1.heap.size + 1) (by simp) rfl (n + 1) (by rw [HNL.out]) (by unfold maxLen; omega) (by omega) (by omega) ?_; intro A2 cap2 w2 hps2 hgrow2 hat2; have B2 : Below w.heap.size w w2 := grown_belowE (B1.alloc z1 _) hgrow2 (by simp; omega) (fun _ h => (hla2.lt _ h).1))
            | (go_at_call 62; refine (HPa.out _).mono ?_; rintro e w' ⟨rfl, rfl⟩))
        (try rw [Exit.noGoto_ret])
        go_ret2
        have e : (acc ++ [(xn, xo, xv)]).length = n + 1 := by rw [List.length_append, HNL.out]; rfl
        rw [HF.out]
        refine ⟨A2, cap2, ?_, ?_, B2⟩
        · rw [e]; exact ret_slc rfl (by push_cast; omega)
        · rw [e]; exact hps2
      have hc : Lib.hasPrefix rest [125] = false := by simpa using hc
      by_cases hd : Lib.hasPrefix rest [44] = true
      · have HN : Hid (R = parseGo (17 - (n + 1)) (t.data.toList.drop (k + u + 1)) (k + u + 1) (acc ++ [(xn, xo, xv)])) := Lib.hid (by
          rw [HT.out, HG2.out, if_neg (by rw [hc]; decide), if_pos hd, Nat.add_assoc k u 1])
        have hlt : k + u < t.size := by
          have := hasPrefix_len hd
          rw [hrl] at this
          simp at this
          omega
        rw [hc] at HPa
        rw [hd] at HPb
        have hn17 : n + 1 ≤ 16 := by omega
        clear hc hd hrs hrl hu hn16
        go_wp2_with (first
            | (at_builtin; refine wpList_pushE Tryz.underlying25 info_ar rfl (by decide) (w1.alloc (.cells #[.string xn, .int .i64 xo, .string xv] 139)) rfl (.tmp 27) (.tmp 29) rfl w.heap.size (.slice A n c) acc rfl hla2 (xn, xo, xv) _ rfl rfl (encR_one _) _ (w1.heap.size + 1) (by simp) rfl (n + 1) (by rw [HNL.out]) (by unfold maxLen; omega) (by omega) (by omega) ?_; intro A2 cap2 w2 hps2 hgrow2 hat2; have B2 : Below w.heap.size w w2 := grown_belowE (B1.alloc z1 _) hgrow2 (by simp; omega) (fun _ h => (hla2.lt _ h).1))
            | (go_at_call 62; refine (HPa.out _).mono ?_; rintro e w' ⟨rfl, rfl⟩)
            | (go_at_call 62; refine (HPb.out _).mono ?_; rintro e w' ⟨rfl, rfl⟩))
        go_roundw
        case rel => exact ⟨k + u + 1, n + 1, cap2, A2, _, by omega, by omega, by go_num, rfl, hn17, hps2, HN, B2⟩
        case measure => simp [intOf]; omega
      · have hd : Lib.hasPrefix rest [44] = false := by simpa using hd
        have HF : Hid (R = ([], 0)) := Lib.hid (by rw [HT.out, HG2.out, if_neg (by rw [hc]; decide), if_neg (by rw [hd]; decide)])
        rw [hc] at HPa
        rw [hd] at HPb
        clear hc hd hrs hrl hu hn16
        go_wp2_with (first
            | (at_builtin; refine wpList_pushE Tryz.underlying25 info_ar rfl (by decide) (w1.alloc (.cells #[.string xn, .int .i64 xo, .string xv] 139)) rfl (.tmp 27) (.tmp 29) rfl w.heap.size (.slice A n c) acc rfl hla2 (xn, xo, xv) _ rfl rfl (encR_one _) _ (w1.heap.size + 1) (by simp) rfl (n + 1) (by rw [HNL.out]) (by unfold maxLen; omega) (by omega) (by omega) ?_; intro A2 cap2 w2 hps2 hgrow2 hat2; have B2 : Below w.heap.size w w2 := grown_belowE (B1.alloc z1 _) hgrow2 (by simp; omega) (fun _ h => (hla2.lt _ h).1))
            | (go_at_call 62; refine (HPa.out _).mono ?_; rintro e w' ⟨rfl, rfl⟩)
            | (go_at_call 62; refine (HPb.out _).mono ?_; rintro e w' ⟨rfl, rfl⟩))
        (try rw [Exit.noGoto_ret])
        go_ret2
        rw [HF.out]
        exact rs_none _ _ B2
  · have h2 : Lib.hasPrefix t.data.toList [123] = false := by simpa using h2
    have HR : Hid (parseB t.data.toList = ([], 0)) := Lib.hid (by unfold parseB; rw [if_neg (by rw [h1]; decide), if_neg (by rw [h2]; decide)])
    rw [h1] at HP1
    rw [h2] at HP2
    clear h1 h2 hl hi hg
    go_enter Tryz.func28, Tryz.ntmps28
    go_wp2_with (first
      | (go_at_call 62; refine (HP1.out _).mono ?_; rintro e w' ⟨rfl, rfl⟩)
      | (go_at_call 62; refine (HP2.out _).mono ?_; rintro e w' ⟨rfl, rfl⟩))
    go_step3
    go_wp2_with (first
      | (go_at_call 62; refine (HP1.out _).mono ?_; rintro e w' ⟨rfl, rfl⟩)
      | (go_at_call 62; refine (HP2.out _).mono ?_; rintro e w' ⟨rfl, rfl⟩))
    (try rw [Exit.noGoto_ret])
    go_ret2
    rw [HR.out]
    exact rs_none _ _ (Below.refl _ _)
end Go.Proofs.YtcmpenmaphmifaaGreatDoor
namespace Go.Proofs.YtcmpenmaphmifaaGreatDoor
open Go.RowKit Go.BigFrame

theorem cutc_any (s : ByteArray) (c : UInt8) (sep : ByteArray) (w : World) (hc : sep.data.toList = [c]) (hs : s.size ≤ 1048576) (hm : Mx w) : Calls Tryz.prog 26 #[.string s, .string sep] w fun e w' => (∃ x : ByteArray, e = .returned (.tuple #[.string (strB (cutB c s.data.toList)), .string x, .bool (decide (c ∈ s.data.toList))])) ∧ Below w.heap.size w w' := by
  obtain ⟨m, hm⟩ := hm
  refine (cut_any s sep m w (by omega) hm).mono ?_
  rintro e w' ⟨rfl, n, rfl⟩
  rw [hc]
  obtain ⟨h1, h2⟩ := cut_one c s.data.toList
  rw [h1, h2]
  exact ⟨⟨_, rfl⟩, below_drewN (Below.refl _ _) _⟩
theorem cutPrefix_no (s p : ByteArray) (w : World) (h : Lib.hasPrefix s.data.toList p.data.toList = false) : Calls Tryz.prog 95 #[.string s, .string p] w fun e w' => e = .returned (.tuple #[.string s, .bool false]) ∧ w = w' := by
  have h1 := cutPrefix_any s p w
  rw [h] at h1
  simpa using h1
theorem cutPrefix_yes (s p : ByteArray) (w : World) (h : Lib.hasPrefix s.data.toList p.data.toList = true) : Calls Tryz.prog 95 #[.string s, .string p] w fun e w' => e = .returned (.tuple #[.string (s.extract p.size s.size), .bool true]) ∧ w = w' := by
  have h1 := cutPrefix_any s p w
  rw [h] at h1
  simpa using h1
/-- What readNumber leaves: nothing read, or the number in its place. -/
def RnP (w : World) (b i : Nat) (x : Option (Int × Nat)) (e : Ending) (w' : World) : Prop :=
  (x = none ∧ e = .returned (.int .i64 0) ∧ Below w.heap.size w w') ∨ ∃ v u w1, x = some (v, u) ∧ e = .returned (.int .i64 ((u : Nat) : Int)) ∧ Below w.heap.size w w1 ∧ w' = w1.setCell ⟨b, i, none⟩ (.int .i64 v)
set_option maxRecDepth 100000 in
set_option maxHeartbeats 1600000 in
theorem readNumber_any {b i : Nat} {cs : Array Value} {T : TypeId} {old : Int} (t : ByteArray) (w : World) (hs : t.size ≤ 1048576) (hm : Mx w) (he : Errs w) (hp : Pow w) (hx : Rwo w b cs T) (hi : cs[i]? = some (.int .i64 old)) :
    Calls Tryz.prog 64 #[.pointer (some ⟨b, i, none⟩), .string t] w (RnP w b i (numA t.data.toList)) := by
  have HM := Lib.hid hm
  have HE := Lib.hid he
  have HP := Lib.hid hp
  have HX := Lib.hid hx
  have HI := Lib.hid hi
  have HS := Lib.hid hs
  have htl : t.data.toList.length = t.size := by simp
  clear hm he hp hx hi hs
  cases hh : Lib.hasPrefix t.data.toList [32] with
  | false =>
    have HC1 := Lib.hid (cutPrefix_no t ⟨#[32]⟩ w hh)
    have HF : Hid (numA t.data.toList = none) := Lib.hid (by
      cases hl : t.data.toList with
      | nil => rfl
      | cons x r =>
        unfold numA
        simp only
        rw [if_neg (fun e => by rw [hl, e] at hh; simp [Lib.hasPrefix, List.isPrefixOf] at hh)])
    clear hh
    go_enter Tryz.func64, Tryz.ntmps64
    go_wp2_with fail
    refine HC1.out.mono ?_
    rintro e w' ⟨rfl, rfl⟩
    go_wp2_with fail
    refine (cutc_any t 32 ⟨#[32]⟩ w rfl HS.out HM.out).mono ?_
    rintro e w1 ⟨⟨x, rfl⟩, b1⟩
    have HB1 := Lib.hid b1
    have HC3 := Lib.hid (parseInt_any (strB (cutB 32 t.data.toList)) w1 (by rw [sz_strB]; have := cutB_len 32 t.data.toList; have := HS.out; omega) (HE.out.below b1))
    clear b1
    go_wp2_with fail
    refine HC3.out.mono ?_
    rintro e w2 ⟨b2, ⟨v, _, rfl⟩ | ⟨_, v, N, rfl⟩⟩
    · have HB2 := Lib.hid (HB1.out.trans (b2.mono HB1.out.size))
      clear b2
      go_wp2
      go_ret
      exact .inl ⟨HF.out, rfl, HB2.out⟩
    · have HB2 := Lib.hid (HB1.out.trans (b2.mono HB1.out.size))
      clear b2
      go_wp2
      go_ret
      exact .inl ⟨HF.out, rfl, HB2.out⟩
  | true =>
    have HC1 := Lib.hid (cutPrefix_yes t ⟨#[32]⟩ w hh)
    obtain ⟨r, hr⟩ : ∃ r, t.data.toList = 32 :: r := by
      cases hl : t.data.toList with
      | nil => rw [hl] at hh; simp [Lib.hasPrefix, List.isPrefixOf] at hh
      | cons x r =>
        rw [hl] at hh
        simp [Lib.hasPrefix, List.isPrefixOf] at hh
        exact ⟨r, by rw [← hh]⟩
    have hsz : t.size = r.length + 1 := by rw [← htl, hr]; rfl
    have hex : (t.extract (⟨#[32]⟩ : ByteArray).size t.size).data.toList = r := by
      rw [ex_list, hr]
      rfl
    have hes : (t.extract (⟨#[32]⟩ : ByteArray).size t.size).size ≤ 1048576 := by
      have h1 : (⟨#[32]⟩ : ByteArray).size = 1 := rfl
      have := HS.out
      rw [ex_size, h1]
      omega
    have hnA : numA t.data.toList = (numOf (cutB 32 r)).map fun v => (v, 1 + (cutB 32 r).length) := by
      rw [hr]
      unfold numA
      simp only
      rw [if_pos trivial]
    have hdl : (cutB 32 r).length ≤ 1048576 := by have := cutB_len 32 r; have := HS.out; omega
    have HNA := Lib.hid hnA
    have HEX := Lib.hid hex
    have HES := Lib.hid hes
    have HDL := Lib.hid hdl
    generalize t.extract (⟨#[32]⟩ : ByteArray).size t.size = s at HC1 HEX HES
    clear hh hsz hr hex hes hnA hdl
    go_enter Tryz.func64, Tryz.ntmps64
    go_wp2_with fail
    refine HC1.out.mono ?_
    rintro e w' ⟨rfl, rfl⟩
    go_wp2_with fail
    refine (cutc_any s 32 ⟨#[32]⟩ w rfl HES.out HM.out).mono ?_
    rintro e w1 ⟨⟨x, rfl⟩, b1⟩
    rw [HEX.out]
    have HB1 := Lib.hid b1
    have HPW := Lib.hid (HP.out.below b1)
    have HC3 := Lib.hid (parseInt_any (strB (cutB 32 r)) w1 (by rw [sz_strB]; have := HDL.out; omega) (HE.out.below b1))
    generalize (decide ((32 : UInt8) ∈ r)) = fd
    obtain ⟨d, hd⟩ : ∃ d, d = cutB 32 r := ⟨_, rfl⟩
    rw [← hd] at HC3 HNA HDL ⊢
    clear b1 hd
    go_wp2_with fail
    refine HC3.out.mono ?_
    rintro e w2 ⟨b2, ⟨v, hv, rfl⟩ | ⟨hv, v, N, rfl⟩⟩
    · rw [ls_strB] at hv
      have hbd := Lib.parseIntB_bounds hv
      have v1 : -9223372036854775808 ≤ v := by have := hbd.1; omega
      have v2 : v ≤ 9223372036854775807 := by have := hbd.2; omega
      have HB2 := Lib.hid (HB1.out.trans (b2.mono HB1.out.size))
      have HF := Lib.hid (format_any v w2 v1 v2 (HPW.out.below b2))
      by_cases hit : Lib.itoa v = d
      · have HN : Hid (numA t.data.toList = some (v, 1 + d.length)) := Lib.hid (by
          rw [HNA.out]
          unfold numOf
          rw [hv]
          simp only
          rw [if_pos hit]
          rfl)
        have ec : ((strB (Lib.itoa v)).toList == (strB d).toList) = true := by rw [hit]; simp
        clear b2 hbd hv hit
        go_wp2_with fail
        refine HF.out.mono ?_
        rintro e w3 ⟨rfl, b3⟩
        have HB3 := Lib.hid (HB2.out.trans (b3.mono HB2.out.size))
        have hX3 := HX.out.below HB3.out
        have y1 := hX3.cell HI.out
        have yf := hX3.fr
        have yl := hX3.lt
        have hsz : (strB d).size = d.length := sz_strB d
        have hd2 := HDL.out
        clear b3 hX3
        go_wp2
        go_ret
        exact .inr ⟨v, 1 + d.length, w3, HN.out, congrArg (fun n : Int => Ending.returned (Value.int .i64 n)) (show (1 + (d.length : Int)) = ((1 + d.length : Nat) : Int) by omega), HB3.out, rfl⟩
      · have HN : Hid (numA t.data.toList = none) := Lib.hid (by
          rw [HNA.out]
          unfold numOf
          rw [hv]
          simp only
          rw [if_neg hit]
          rfl)
        have ec : ((strB (Lib.itoa v)).toList == (strB d).toList) = false := by
          have h := beqB (Lib.itoa v) (strB d)
          rwa [ls_strB, decide_eq_false (fun e => hit e.symm)] at h
        clear b2 hbd hv hit
        go_wp2_with fail
        refine HF.out.mono ?_
        rintro e w3 ⟨rfl, b3⟩
        have HB3 := Lib.hid (HB2.out.trans (b3.mono HB2.out.size))
        clear b3
        go_wp2
        go_ret
        exact .inl ⟨HN.out, rfl, HB3.out⟩
    · rw [ls_strB] at hv
      have HN : Hid (numA t.data.toList = none) := Lib.hid (by
        rw [HNA.out]
        unfold numOf
        cases hq : Lib.parseIntB 64 d
        · exact absurd hq (hv _)
        · rfl
        · rfl)
      have HB2 := Lib.hid (HB1.out.trans (b2.mono HB1.out.size))
      clear b2 hv
      go_wp2
      go_ret
      exact .inl ⟨HN.out, rfl, HB2.out⟩
end Go.Proofs.YtcmpenmaphmifaaGreatDoor
namespace Go.Proofs.YtcmpenmaphmifaaGreatDoor
open Go.RowKit Go.BigFrame

def mkN (op : Int) (rs : List Rp) (vs : List Int) (nt : Bool) : Qr := ⟨op, rs, vs.getD 0 0, vs.getD 1 0, vs.getD 2 0, nt⟩
theorem mkN_set {op : Int} {rs : List Rp} {vs : List Int} {nt : Bool} (A : Option Addr) (c : Nat) {k : Nat} (hl : vs.length = k) (hk : k < 3) (v : Int) : (qc (mkN op rs vs nt) A c).setIfInBounds (k + 2) (.int .i64 v) = qc (mkN op rs (vs ++ [v]) nt) A c := by
  subst hl
  match vs, hk with
  | [], _ => rfl
  | [a], _ => rfl
  | [a, b], _ => rfl
theorem mkN_note {op : Int} {rs : List Rp} {vs : List Int} {nt : Bool} (A : Option Addr) (c : Nat) (b : Bool) : (qc (mkN op rs vs nt) A c).setIfInBounds 5 (.bool b) = qc (mkN op rs vs b) A c := rfl
theorem mkN_get {op : Int} {rs : List Rp} {vs : List Int} {nt : Bool} (A : Option Addr) (c : Nat) {k : Nat} (hk : k < 3) : ∃ old, (qc (mkN op rs vs nt) A c)[k + 2]? = some (.int .i64 old) := by
  match k, hk with
  | 0, _ => exact ⟨_, rfl⟩
  | 1, _ => exact ⟨_, rfl⟩
  | 2, _ => exact ⟨_, rfl⟩
theorem kQ_len (op : Int) : kQ op ≤ 3 := by unfold kQ; split <;> omega
theorem ptrs_kQ (b : Nat) (op : Int) : (ptrsQ b op).size = kQ op := by unfold ptrsQ kQ; split <;> rfl
theorem ptrs_at {b k : Nat} {op : Int} (h : k < kQ op) : (ptrsQ b op)[k]? = some (.pointer (some ⟨b, k + 2, none⟩)) := by
  by_cases h0 : op = 0
  · have e1 : kQ op = 2 := if_pos h0
    have e2 : ptrsQ b op = #[.pointer (some ⟨b, 2, none⟩), .pointer (some ⟨b, 3, none⟩)] := if_pos h0
    rw [e1] at h
    rw [e2]
    match k, h with
    | 0, _ => rfl
    | 1, _ => rfl
  · have e1 : kQ op = 3 := if_neg h0
    have e2 : ptrsQ b op = #[.pointer (some ⟨b, 2, none⟩), .pointer (some ⟨b, 3, none⟩), .pointer (some ⟨b, 4, none⟩)] := if_neg h0
    rw [e1] at h
    rw [e2]
    match k, h with
    | 0, _ => rfl
    | 1, _ => rfl
    | 2, _ => rfl
/-- Behind k numbers: what is still to be read of the text. -/
structure Rk (N : Nat) (T : List UInt8) (k : Nat) (vs : List Int) (t : List UInt8) : Prop where
  len : vs.length = k
  le : k ≤ N
  eq : readX numA N T = (readX numA (N - k) t).map fun p => (vs ++ p.1, p.2)
theorem Rk.start (N : Nat) (T : List UInt8) : Rk N T 0 [] T := ⟨rfl, Nat.zero_le _, by simp⟩
theorem Rk.next {N k u : Nat} {T t : List UInt8} {vs : List Int} {v : Int} (h : Rk N T k vs t) (hk : k < N) (hn : numA t = some (v, u)) : Rk N T (k + 1) (vs ++ [v]) (t.drop u) :=
  ⟨by rw [List.length_append, h.len]; rfl, hk, by
    rw [h.eq, show N - k = (N - (k + 1)) + 1 by omega]
    cases hr : readX numA (N - (k + 1)) (t.drop u) with
    | none =>
      unfold readX
      rw [hn]
      simp only
      rw [hr]
      rfl
    | some p =>
      obtain ⟨ws, r⟩ := p
      rw [readX_mk hn hr]
      simp⟩
theorem Rk.stop {N k : Nat} {T t : List UInt8} {vs : List Int} (h : Rk N T k vs t) (hk : k < N) (hn : numA t = none) : readX numA N T = none := by
  rw [h.eq, show N - k = (N - (k + 1)) + 1 by omega]
  unfold readX
  rw [hn]
  rfl
theorem Rk.done {N k : Nat} {T t : List UInt8} {vs : List Int} (h : Rk N T k vs t) (hk : k = N) : readX numA N T = some (vs, t) := by
  rw [h.eq, hk, Nat.sub_self]
  simp [readX]
/-- What readRest leaves of the query in block b. -/
def RrP (w : World) (B b : Nat) (op : Int) (rs : List Rp) (A : Option Addr) (c : Nat) (x : Option (List Int × List UInt8)) (e : Ending) (w' : World) : Prop :=
  Below B w w' ∧ ((x = none ∧ e = .returned (.bool false)) ∨ ∃ vs r, x = some (vs, r) ∧ e = .returned (.bool (r == notesL || r == [])) ∧ Rwo w' b (qc (mkQ op rs vs r) A c) 27)
set_option maxRecDepth 100000 in
set_option maxHeartbeats 3200000 in
theorem readRest_any {B b : Nat} {op : Int} {rs : List Rp} {A : Option Addr} {c : Nat} (t : ByteArray) (w : World) (hs : t.size ≤ 1048576) (hx : Rwo w b (qc (mkN op rs [] false) A c) 27) (hB : B ≤ b) (hg0 : ∀ wx, Below B w wx → Mx wx ∧ Errs wx ∧ Pow wx) :
    Calls Tryz.prog 29 #[.pointer (some ⟨b, 0, none⟩), .string t] w (RrP w B b op rs A c (readX numA (kQ op) t.data.toList)) := by
  have HG := Lib.hid hg0
  have HX := Lib.hid hx
  have y0 : w.cell? ⟨b, 0, none⟩ = some (.int .i64 op) := hx.cell rfl
  have hbl := hx.lt
  have hBw : B ≤ w.heap.size := by omega
  obtain ⟨T, hT⟩ : ∃ T, T = t.data.toList := ⟨_, rfl⟩
  rw [← hT]
  have HR0 : Hid (Rk (kQ op) T 0 [] t.data.toList) := Lib.hid (by rw [← hT]; exact Rk.start _ _)
  have HS := Lib.hid hs
  clear hg0 hT hx hs
  go_enter Tryz.func29, Tryz.ntmps29
  go_wp2_with fail
  refine (numbersOf_any b op w y0).mono ?_
  rintro e w1 ⟨g, rfl, b1, hg, hr⟩
  have HX1 := Lib.hid (HX.out.below b1)
  have HR1 := Lib.hid hr
  have HB1 : Hid (Below B w w1) := Lib.hid (b1.mono hBw)
  have hgb : g ≠ b := by omega
  have HN := Lib.hid (ptrs_kQ b op)
  have HK3 := Lib.hid (kQ_len op)
  rw [HN.out]
  obtain ⟨N, hN⟩ : ∃ N, N = kQ op := ⟨_, rfl⟩
  have HPT : Hid (∀ k, k < N → (ptrsQ b op)[k]? = some (.pointer (some ⟨b, k + 2, none⟩))) := Lib.hid fun k h => ptrs_at (by omega)
  have HNN := Lib.hid hN
  rw [← hN] at HR0 HK3 ⊢
  clear b1 hr y0 HX hbl hN HN
  generalize ptrsQ b op = ps at HR1 HPT
  go_wp2_with fail
  go_loopw [1, 11] (fun sv iv wr => ∃ (k : Nat) (s : ByteArray) (vs : List Int), sv = .string s ∧ iv = .int .i64 (k : Int) ∧ k ≤ N ∧ Hid (s.size ≤ 1048576) ∧ Hid (Rk N T k vs s.data.toList) ∧ Hid (Rwo wr b (qc (mkN op rs vs false) A c) 27) ∧ Hid (Rwo wr g ps 110) ∧ Hid (Below B w wr)) (fun _ iv _ => N - (intOf iv).toNat)
  case atStart => exact ⟨0, t, [], rfl, rfl, Nat.zero_le _, HS, HR0, HX1, HR1, HB1⟩
  case round =>
    obtain ⟨k, s, vs, rfl, rfl, hk, HSZ, HRK, HXX, HRR, HBB⟩ := hrel
    rename World => W0
    clear HX1 HR1 HB1 HR0
    have i0 : 0 ≤ (k : Int) := by omega
    by_cases hlt : k < N
    · have i1 : (k : Int) < N := by omega
      have hk3 : k < 3 := by have := HK3.out; omega
      have pg := HPT.out k hlt
      have z0 := HRR.out.cell pg
      have zl := HRR.out.lt
      obtain ⟨old, hold⟩ := mkN_get (op := op) (rs := rs) (vs := vs) (nt := false) A c hk3
      have HC := Lib.hid (readNumber_any s W0 HSZ.out (HG.out _ HBB.out).1 (HG.out _ HBB.out).2.1 (HG.out _ HBB.out).2.2 HXX.out hold)
      have HLT := Lib.hid hlt
      have HK9 := Lib.hid hk3
      clear pg hold
      go_wp2_with fail
      refine HC.out.mono ?_
      rintro e W1 (⟨hn, rfl, hb⟩ | ⟨v, u, W2, hn, rfl, hb, rfl⟩)
      · have HF : Hid (readX numA (kQ op) T = none) := Lib.hid (HNN.out ▸ HRK.out.stop HLT.out hn)
        have HB2 : Hid (Below B w W1) := Lib.hid (HBB.out.trans (hb.mono (Nat.le_trans hBw HBB.out.size)))
        clear hn hb HC z0 zl
        go_wp2
        go_ret
        exact ⟨HB2.out, .inl ⟨HF.out, rfl⟩⟩
      · have hu := numA_used hn
        have hsl : s.data.toList.length = s.size := by simp
        have HR2 := Lib.hid (HRK.out.next HLT.out hn)
        have HX2 : Hid (Rwo (W2.setCell ⟨b, k + 2, none⟩ (.int .i64 v)) b (qc (mkN op rs (vs ++ [v]) false) A c) 27) := Lib.hid (by
          have h := (HXX.out.below hb).set (k + 2) (.int .i64 v)
          rwa [mkN_set A c HRK.out.len HK9.out] at h)
        have HRR2 : Hid (Rwo (W2.setCell ⟨b, k + 2, none⟩ (.int .i64 v)) g ps 110) := Lib.hid ((HRR.out.below hb).other hgb)
        have HB2 : Hid (Below B w (W2.setCell ⟨b, k + 2, none⟩ (.int .i64 v))) := Lib.hid ((HBB.out.trans (hb.mono (Nat.le_trans hBw HBB.out.size))).setCell (p := ⟨b, k + 2, none⟩) hB _)
        have u1 : ((u : Int) == (0 : Int)) = false := by have := hu.1; simp; omega
        have u2 : 0 ≤ (u : Int) := by omega
        have u3 : (u : Int) ≤ (s.size : Int) := by have := hu.2; rw [hsl] at this; omega
        have HS2 : Hid ((s.extract u s.size).size ≤ 1048576) := Lib.hid (by have := HSZ.out; rw [ex_size]; omega)
        have HL2 : Hid (Rk N T (k + 1) (vs ++ [v]) (s.extract u s.size).data.toList) := Lib.hid (by rw [ex_list]; exact HR2.out)
        have hs9 := HSZ.out
        clear hn hb HC z0 zl hu hsl HR2
        generalize (W2.setCell ⟨b, k + 2, none⟩ (.int .i64 v)) = W3 at HX2 HRR2 HB2 ⊢
        go_wp2_with fail
        go_roundw
        case rel => exact ⟨k + 1, s.extract u s.size, vs ++ [v], rfl, by go_num, HLT.out, HS2, HL2, HX2, HRR2, HB2⟩
        case measure => simp [intOf]; have := HLT.out; omega
    · have i1 : ¬ (k : Int) < N := by omega
      have hkN : k = N := by omega
      have HF0 : readX numA (kQ op) T = some (vs, s.data.toList) := HNN.out ▸ HRK.out.done hkN
      obtain ⟨r, hr⟩ : ∃ r, r = s.data.toList := ⟨_, rfl⟩
      rw [← hr] at HF0
      have HF := Lib.hid HF0
      have en : (s.toList == [32, 110, 111, 116, 101, 115]) = (r == notesL) := by rw [hr, Lib.toList_data]; rfl
      have ee : (s.toList == []) = (r == []) := by rw [hr, Lib.toList_data]
      have y5 : W0.cell? ⟨b, 5, none⟩ = some (.bool false) := HXX.out.cell rfl
      have yf := HXX.out.fr
      have yl := HXX.out.lt
      clear HF0 hr hkN
      cases h1 : (r == notesL) with
      | true =>
        rw [h1] at en
        have HX9 : Hid (Rwo (W0.setCell ⟨b, 5, none⟩ (.bool true)) b (qc (mkQ op rs vs r) A c) 27) := Lib.hid (by
          have h := HXX.out.set 5 (.bool true)
          rw [mkN_note] at h
          have e : mkN op rs vs true = mkQ op rs vs r := by unfold mkN mkQ; rw [h1]
          rwa [e] at h)
        have HB9 : Hid (Below B w (W0.setCell ⟨b, 5, none⟩ (.bool true))) := Lib.hid (HBB.out.setCell (p := ⟨b, 5, none⟩) hB _)
        have HE : Hid ((r == notesL || r == []) = true) := Lib.hid (by rw [h1]; rfl)
        clear ee h1
        go_wp2
        go_ret
        exact ⟨HB9.out, .inr ⟨vs, r, HF.out, by rw [HE.out]; rfl, HX9.out⟩⟩
      | false =>
        rw [h1] at en
        have HX9 : Hid (Rwo (W0.setCell ⟨b, 5, none⟩ (.bool false)) b (qc (mkQ op rs vs r) A c) 27) := Lib.hid (by
          have h := HXX.out.set 5 (.bool false)
          rw [mkN_note] at h
          have e : mkN op rs vs false = mkQ op rs vs r := by unfold mkN mkQ; rw [h1]
          rwa [e] at h)
        have HB9 : Hid (Below B w (W0.setCell ⟨b, 5, none⟩ (.bool false))) := Lib.hid (HBB.out.setCell (p := ⟨b, 5, none⟩) hB _)
        have HE : Hid ((r == notesL || r == []) = (r == [])) := Lib.hid (by rw [h1]; rfl)
        clear h1
        cases h2 : (r == []) with
        | true =>
          rw [h2] at ee
          have HE2 : Hid ((r == notesL || r == []) = true) := Lib.hid (by rw [HE.out, h2])
          clear h2
          go_wp2
          go_ret
          exact ⟨HB9.out, .inr ⟨vs, r, HF.out, by rw [HE2.out]; rfl, HX9.out⟩⟩
        | false =>
          rw [h2] at ee
          have HE2 : Hid ((r == notesL || r == []) = false) := Lib.hid (by rw [HE.out, h2])
          clear h2
          go_wp2
          go_ret
          exact ⟨HB9.out, .inr ⟨vs, r, HF.out, by rw [HE2.out]; rfl, HX9.out⟩⟩
end Go.Proofs.YtcmpenmaphmifaaGreatDoor
namespace Go.Proofs.YtcmpenmaphmifaaGreatDoor
open Go.RowKit

theorem indexByte_hi (l : List UInt8) (c : UInt8) (h : ∀ b ∈ l, b ≠ c) : Lib.indexByte l c = -1 := by
  induction l with
  | nil => rfl
  | cons b l ih =>
    have h1 := h b (by simp)
    have h2 := ih fun x hx => h x (by simp [hx])
    unfold Lib.indexByte
    rw [h2]
    have : (b == c) = false := by simpa using h1
    simp [this]
def sgS : ByteArray := ⟨#[61, 33, 94, 42]⟩
theorem below_iter {B : Nat} {a w : World} (h : Below B a w) (hB : B ≤ w.heap.size) (s : ByteArray) (p : Nat) : Below B a (w.iter s p) := h.alloc hB _
set_option maxRecDepth 100000 in
set_option maxHeartbeats 3200000 in
theorem indexRune_err (w : World) : Calls Tryz.prog 124 #[.string sgS, .int .i32 65533] w fun e w' => e = .returned (.int .i64 (-1)) ∧ Below w.heap.size w w' := by
  go_enter Tryz.func124, Tryz.ntmps124
  go_wp2_with fail
  go_loopg [5, 6] 4 (fun g _ _ wx => ∃ i : Nat, i + g = 4 ∧ wx = w.iter sgS i)
  case atStart => exact ⟨0, by omega, rfl⟩
  case round =>
    obtain ⟨i, hig, rfl⟩ := hrel
    cases gk with
    | zero =>
      obtain rfl : i = 4 := by omega
      have hnx := fun ty => run_next_end (P := Tryz.prog) w sgS 4 ty (by decide)
      go_wp2_with fail
      go_ret
      exact ⟨rfl, below_iter (Below.refl _ _) (Nat.le_refl _) _ _⟩
    | succ g =>
      have hi : i = 0 ∨ i = 1 ∨ i = 2 ∨ i = 3 := by omega
      have hgg : i + 1 + g = 4 := by omega
      clear hig
      obtain ⟨x, hx, hx2⟩ : ∃ x : Nat, (∀ ty, (Instr.next (.pointer (some ⟨w.heap.size, 0, none⟩)) true ty).run Tryz.prog (w.iter sgS i) = .ok (.tuple #[.bool true, .int .i64 i, .int .i32 x]) (w.iter sgS (i + 1))) ∧ x < 128 := by
        rcases hi with rfl | rfl | rfl | rfl
        · exact ⟨61, fun ty => run_next_ascii (P := Tryz.prog) w sgS 0 ty (by decide) (by decide), by decide⟩
        · exact ⟨33, fun ty => run_next_ascii (P := Tryz.prog) w sgS 1 ty (by decide) (by decide), by decide⟩
        · exact ⟨94, fun ty => run_next_ascii (P := Tryz.prog) w sgS 2 ty (by decide) (by decide), by decide⟩
        · exact ⟨42, fun ty => run_next_ascii (P := Tryz.prog) w sgS 3 ty (by decide) (by decide), by decide⟩
      have hx3 : ((x : Int) == 65533) = false := beq_eq_false_iff_ne.2 (by omega)
      go_wp2_with fail
      go_roundg g
      case measure => omega
      case rel => exact ⟨i + 1, hgg, rfl⟩

set_option maxRecDepth 100000 in
set_option maxHeartbeats 3200000 in
theorem indexRune_hi (r : Int) (w : World) (h128 : 128 ≤ r) (hr : r ≤ 1114111) (hv : Utf8.valid r = true) (hne : r ≠ 65533) : Calls Tryz.prog 124 #[.string ⟨#[61, 33, 94, 42]⟩, .int .i32 r] w fun e w' => e = .returned (.int .i64 (-1)) ∧ Below w.heap.size w w' := by
  obtain ⟨e2, e4, elast⟩ := encode_facts r hv h128
  have hvr : Lib.validRune r = true := by
    unfold Utf8.valid at hv
    unfold Lib.validRune
    simp at hv ⊢
    omega
  have hn1 : (r == 65533) = false := beq_eq_false_iff_ne.2 hne
  have hlast : ∃ c : UInt8, (∀ h : (Utf8.encode r).size - 1 < (Utf8.encode r).size, (Utf8.encode r)[(Utf8.encode r).size - 1]'h = c) ∧ 128 ≤ c.toNat := ⟨(Utf8.encode r)[(Utf8.encode r).size - 1]'(by omega), fun _ => rfl, elast (by omega)⟩
  obtain ⟨c, hc, hc128⟩ := hlast
  have hib : ∀ k : Nat, Lib.indexByte (([61, 33, 94, 42] : List UInt8).drop k) c = -1 := fun k => indexByte_hi _ c fun b hb => by
    have hm := List.mem_of_mem_drop hb
    simp at hm
    rintro rfl
    rcases hm with rfl | rfl | rfl | rfl <;> exact absurd hc128 (by decide)
  clear hv hne elast
  have HVR := Lib.hid hvr
  have HC := Lib.hid hc
  have HIB := Lib.hid hib
  clear hvr hc hib
  go_enter Tryz.func124, Tryz.ntmps124
  go_wp2_with (go_at_call 147; refine (Tryz.utf8_ValidRune r _).mono ?_; rintro e w' ⟨rfl, rfl⟩; rw [HVR.out])
  go_step3
  have j0 : (0 : Int) ≤ ((Utf8.encode r).size : Int) - 1 := by omega
  go_wp2_with fail
  generalize Utf8.encode r = E at *
  have hsz : E.size = 2 ∨ E.size = 3 ∨ E.size = 4 := by omega
  rcases hsz with hsz | hsz | hsz
  · have hcE : ∃ h, E[1]'h = c := ⟨by omega, by have := HC.out (by omega); simpa only [hsz] using this⟩
    obtain ⟨hb, hcE⟩ := hcE
    have hc9 : (⟨#[61, 33, 94, 42]⟩ : ByteArray)[1]'(by decide) = 33 := rfl
    have hne : ((((⟨#[61, 33, 94, 42]⟩ : ByteArray)[1]'(by decide)).toNat : Int) != (c.toNat : Int)) = true := by
      rw [hc9, bne_iff_ne]
      have : (33 : UInt8).toNat = 33 := rfl
      omega
    have HIX : Hid (∀ W, Calls Tryz.prog 146 #[.string ((⟨#[61, 33, 94, 42]⟩ : ByteArray).extract 2 4), .int .u8 (c.toNat : Int)] W fun e w' => e = .returned (.int .i64 (-1)) ∧ w' = W) := Lib.hid (fun W => by
      have h := Tryz.strings_IndexByte ((⟨#[61, 33, 94, 42]⟩ : ByteArray).extract 2 4) (c.toNat : Int) W
      have e1 : ((⟨#[61, 33, 94, 42]⟩ : ByteArray).extract 2 4).data.toList = ([61, 33, 94, 42] : List UInt8).drop 2 := rfl
      have e2 : ((c.toNat : Int)).toNat.toUInt8 = c := by simp
      rw [e1, e2, HIB.out 2] at h
      exact h)
    clear hc9
    have HZ := Lib.hid hsz
    clear HC HIB e2 e4 j0
    rw [hsz]
    clear hsz
    go_loop [9] (fun i => i = .int .i64 1) (fun _ => 0)
    case atStart => rfl
    case round =>
      obtain rfl := hrel
      go_wp2_with fail
      go_step3
      go_wp2_with fail
      go_quiet (fail)
      generalize hW : World.drewN w' _ = W2
      have BW : Below w'.heap.size w' W2 := hW ▸ ⟨rfl, rfl, rfl, Nat.le_refl _, fun _ _ => rfl⟩
      clear hW
      go_wp2_with fail
      go_quiet ((go_at_call 146; exact Calls.quiet_of_same (HIX.out _)))
      all_goals go_wp2_with fail
      all_goals (try rw [Exit.noGoto_ret])
      all_goals go_wp2_with fail
      all_goals (try rw [Exit.noGoto_ret])
      all_goals (try go_wp2_with fail)
      all_goals go_ret
      all_goals exact ⟨rfl, BW.trans ⟨rfl, rfl, rfl, Nat.le_refl _, fun _ _ => rfl⟩⟩
  · have hcE : ∃ h, E[2]'h = c := ⟨by omega, by have := HC.out (by omega); simpa only [hsz] using this⟩
    obtain ⟨hb, hcE⟩ := hcE
    have hc9 : (⟨#[61, 33, 94, 42]⟩ : ByteArray)[2]'(by decide) = 94 := rfl
    have hne : ((((⟨#[61, 33, 94, 42]⟩ : ByteArray)[2]'(by decide)).toNat : Int) != (c.toNat : Int)) = true := by
      rw [hc9, bne_iff_ne]
      have : (94 : UInt8).toNat = 94 := rfl
      omega
    have HIX : Hid (∀ W, Calls Tryz.prog 146 #[.string ((⟨#[61, 33, 94, 42]⟩ : ByteArray).extract 3 4), .int .u8 (c.toNat : Int)] W fun e w' => e = .returned (.int .i64 (-1)) ∧ w' = W) := Lib.hid (fun W => by
      have h := Tryz.strings_IndexByte ((⟨#[61, 33, 94, 42]⟩ : ByteArray).extract 3 4) (c.toNat : Int) W
      have e1 : ((⟨#[61, 33, 94, 42]⟩ : ByteArray).extract 3 4).data.toList = ([61, 33, 94, 42] : List UInt8).drop 3 := rfl
      have e2 : ((c.toNat : Int)).toNat.toUInt8 = c := by simp
      rw [e1, e2, HIB.out 3] at h
      exact h)
    clear hc9
    have HZ := Lib.hid hsz
    clear HC HIB e2 e4 j0
    rw [hsz]
    clear hsz
    go_loop [9] (fun i => i = .int .i64 2) (fun _ => 0)
    case atStart => rfl
    case round =>
      obtain rfl := hrel
      go_wp2_with fail
      go_step3
      go_wp2_with fail
      go_quiet (fail)
      generalize hW : World.drewN w' _ = W2
      have BW : Below w'.heap.size w' W2 := hW ▸ ⟨rfl, rfl, rfl, Nat.le_refl _, fun _ _ => rfl⟩
      clear hW
      go_wp2_with fail
      go_quiet ((go_at_call 146; exact Calls.quiet_of_same (HIX.out _)))
      all_goals go_wp2_with fail
      all_goals (try rw [Exit.noGoto_ret])
      all_goals go_wp2_with fail
      all_goals (try rw [Exit.noGoto_ret])
      all_goals (try go_wp2_with fail)
      all_goals go_ret
      all_goals exact ⟨rfl, BW.trans ⟨rfl, rfl, rfl, Nat.le_refl _, fun _ _ => rfl⟩⟩
  · have hcE : ∃ h, E[3]'h = c := ⟨by omega, by have := HC.out (by omega); simpa only [hsz] using this⟩
    obtain ⟨hb, hcE⟩ := hcE
    have hc9 : (⟨#[61, 33, 94, 42]⟩ : ByteArray)[3]'(by decide) = 42 := rfl
    have hne : ((((⟨#[61, 33, 94, 42]⟩ : ByteArray)[3]'(by decide)).toNat : Int) != (c.toNat : Int)) = true := by
      rw [hc9, bne_iff_ne]
      have : (42 : UInt8).toNat = 42 := rfl
      omega
    have HIX : Hid (∀ W, Calls Tryz.prog 146 #[.string ((⟨#[61, 33, 94, 42]⟩ : ByteArray).extract 4 4), .int .u8 (c.toNat : Int)] W fun e w' => e = .returned (.int .i64 (-1)) ∧ w' = W) := Lib.hid (fun W => by
      have h := Tryz.strings_IndexByte ((⟨#[61, 33, 94, 42]⟩ : ByteArray).extract 4 4) (c.toNat : Int) W
      have e1 : ((⟨#[61, 33, 94, 42]⟩ : ByteArray).extract 4 4).data.toList = ([61, 33, 94, 42] : List UInt8).drop 4 := rfl
      have e2 : ((c.toNat : Int)).toNat.toUInt8 = c := by simp
      rw [e1, e2, HIB.out 4] at h
      exact h)
    clear hc9
    have HZ := Lib.hid hsz
    clear HC HIB e2 e4 j0
    rw [hsz]
    clear hsz
    go_loop [9] (fun i => i = .int .i64 3) (fun _ => 0)
    case atStart => rfl
    case round =>
      obtain rfl := hrel
      go_wp2_with fail
      go_step3
      go_wp2_with fail
      go_quiet (fail)
      generalize hW : World.drewN w' _ = W2
      have BW : Below w'.heap.size w' W2 := hW ▸ ⟨rfl, rfl, rfl, Nat.le_refl _, fun _ _ => rfl⟩
      clear hW
      go_wp2_with fail
      go_quiet ((go_at_call 146; exact Calls.quiet_of_same (HIX.out _)))
      all_goals go_wp2_with fail
      all_goals (try rw [Exit.noGoto_ret])
      all_goals go_wp2_with fail
      all_goals (try rw [Exit.noGoto_ret])
      all_goals (try go_wp2_with fail)
      all_goals go_ret
      all_goals exact ⟨rfl, BW.trans ⟨rfl, rfl, rfl, Nat.le_refl _, fun _ _ => rfl⟩⟩
end Go.Proofs.YtcmpenmaphmifaaGreatDoor
