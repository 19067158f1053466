/- The program's Parse of rules. -/
import Derived.Test.YtfmgphjnajgldaaDoorMtQ
namespace Go.Proofs.YtfmgphjnajgldaaDoor
open Go.RowKit

def RsPost (w : World) (r : List Rp × Nat) (e : Ending) (w' : World) : Prop :=
  ∃ A c, e = .returned (.tuple #[.slice A r.1.length c, .int .i64 (r.2 : Int)]) ∧ Ra w' w.heap.size (.slice A r.1.length c) r.1 ∧ Below w.heap.size w w'
theorem rs_none (w w' : World) (h : Below w.heap.size w w') : RsPost w ([], 0) (.returned (.tuple #[.slice none 0 0, .int .i64 0])) w' := ⟨none, 0, rfl, So.empty _ _ _ _ _, h⟩
theorem ret_slc {A : Option Addr} {n m c : Nat} {a b : Int} (h : n = m) (h2 : a = b) : Ending.returned (.tuple #[.slice A n c, .int .i64 a]) = .returned (.tuple #[.slice A m c, .int .i64 b]) := by rw [h, h2]
theorem ex_list (t : ByteArray) (k : Nat) : (t.extract k t.size).data.toList = t.data.toList.drop k := by
  rw [Lib.extract_data, List.take_of_length_le (by rw [List.length_drop]; simp)]
theorem ex_size (t : ByteArray) (k : Nat) : (t.extract k t.size).size = t.size - k := by simp

set_option maxRecDepth 100000 in
set_option maxHeartbeats 3200000 in
theorem parseR_any (t : ByteArray) (w : World) (hs : t.size ≤ 4000000000) (hi : ∀ k, IdxOk (t.extract k t.size)) (hg : Sg w) : Calls Tryd.prog 15 #[.string t] w (RsPost w (parseB t.data.toList)) := by
  have hl : t.data.toList.length = t.size := by simp
  have HP1 := Lib.hid (fun W => hasPrefix_any t ⟨#[123, 125]⟩ W)
  have HP2 := Lib.hid (fun W => hasPrefix_any t ⟨#[123]⟩ W)
  have e1 : (⟨#[123, 125]⟩ : ByteArray).data.toList = [123, 125] := rfl
  have e2 : (⟨#[123]⟩ : ByteArray).data.toList = [123] := rfl
  rw [e1] at HP1
  rw [e2] at HP2
  clear e1 e2
  by_cases h1 : Lib.hasPrefix t.data.toList [123, 125] = true
  · have HR : Hid (parseB t.data.toList = ([], 2)) := Lib.hid (by unfold parseB; rw [if_pos h1])
    rw [h1] at HP1
    clear h1 hl hi hg
    go_enter Tryd.func15, Tryd.ntmps15
    go_wp2_with (first
      | (go_at_call 28; refine (HP1.out _).mono ?_; rintro e w' ⟨rfl, rfl⟩)
      | (go_at_call 28; refine (HP2.out _).mono ?_; rintro e w' ⟨rfl, rfl⟩))
    go_step3
    go_wp2_with (first
      | (go_at_call 28; refine (HP1.out _).mono ?_; rintro e w' ⟨rfl, rfl⟩)
      | (go_at_call 28; refine (HP2.out _).mono ?_; rintro e w' ⟨rfl, rfl⟩))
    (try rw [Exit.noGoto_ret])
    go_ret2
    rw [HR.out]
    exact ⟨none, 0, rfl, So.empty _ _ _ _ _, Below.refl _ _⟩
  have h1 : Lib.hasPrefix t.data.toList [123, 125] = false := by simpa using h1
  by_cases h2 : Lib.hasPrefix t.data.toList [123] = true
  · have hpos : 1 ≤ t.size := by
      have := hasPrefix_len h2
      rw [hl] at this
      exact this
    have HR : Hid (parseB t.data.toList = parseGo 17 (t.data.toList.drop 1) 1 []) := Lib.hid (by unfold parseB; rw [if_neg (by rw [h1]; decide), if_pos h2])
    rw [h1] at HP1
    rw [h2] at HP2
    generalize parseB t.data.toList = R at *
    have HI := Lib.hid hi
    have HG := Lib.hid hg
    have HE := Lib.hid hl
    clear h1 h2 hl hi hg
    go_enter Tryd.func15, Tryd.ntmps15
    go_wp2_with (first
      | (go_at_call 28; refine (HP1.out _).mono ?_; rintro e w' ⟨rfl, rfl⟩)
      | (go_at_call 28; refine (HP2.out _).mono ?_; rintro e w' ⟨rfl, rfl⟩))
    go_step3
    go_wp2_with (first
      | (go_at_call 28; refine (HP1.out _).mono ?_; rintro e w' ⟨rfl, rfl⟩)
      | (go_at_call 28; refine (HP2.out _).mono ?_; rintro e w' ⟨rfl, rfl⟩))
    go_step3
    go_wp2_with fail
    clear HP1 HP2
    go_loopw [4, 5] (fun v i wr => ∃ (k n c : Nat) (A : Option Addr) (acc : List Rp), 1 ≤ k ∧ k ≤ t.size ∧ i = .int .i64 k ∧ v = .slice A n c ∧ n ≤ 16 ∧ Ra wr w.heap.size (.slice A n c) acc ∧ Hid (R = parseGo (17 - n) (t.data.toList.drop k) k acc) ∧ Below w.heap.size w wr) (fun _ i _ => t.size + 1 - (intOf i).toNat)
    case atStart => exact ⟨1, 0, 0, none, [], Nat.le_refl _, hpos, rfl, rfl, by omega, So.empty _ _ _ _ _, HR, Below.refl _ _⟩
    case round =>
      obtain ⟨k, n, c, A, acc, h1k, hk, rfl, rfl, hnk, hla, HT, hbl⟩ := hrel
      have z := hbl.size
      have hnl := (So.sr encR_len hla).2
      have hrp := parseRule_any (t.extract k t.size) wr (by rw [ex_size]; omega) (HI.out k) (HG.out.below hbl)
      have hpl := partR_len (t.data.toList.drop k)
      rw [ex_list] at hrp
      rw [List.length_drop, HE.out] at hpl
      have hgo : parseGo (17 - n) (t.data.toList.drop k) k acc = if (partR (t.data.toList.drop k)).2 = 0 ∨ n = 16 then ([], 0) else if Lib.hasPrefix ((t.data.toList.drop k).drop (partR (t.data.toList.drop k)).2) [125] = true then (acc ++ [(partR (t.data.toList.drop k)).1], k + (partR (t.data.toList.drop k)).2 + 1) else if Lib.hasPrefix ((t.data.toList.drop k).drop (partR (t.data.toList.drop k)).2) [44] = true then parseGo (17 - (n + 1)) ((t.data.toList.drop k).drop ((partR (t.data.toList.drop k)).2 + 1)) (k + (partR (t.data.toList.drop k)).2 + 1) (acc ++ [(partR (t.data.toList.drop k)).1]) else ([], 0) := by
        have e : 17 - n = (17 - (n + 1)) + 1 := by omega
        rw [e, parseGo, hnl]
      rw [List.drop_drop, List.drop_drop] at hgo
      generalize partR (t.data.toList.drop k) = p at *
      obtain ⟨x, u⟩ := p
      unfold RulePost at hrp
      simp only at hrp hgo hpl
      obtain ⟨xn, xo, xv⟩ := x
      simp only at hrp
      have HRP := Lib.hid hrp
      have HGO := Lib.hid hgo
      have HNL := Lib.hid hnl
      clear hrp hgo hnl
      have i0 : (k : Int) ≤ t.size := by omega
      have hla1 := hla
      clear hla
      go_wp2_with fail
      refine HRP.out.mono ?_
      rintro e w1 ⟨rfl, hb1⟩
      have B1 : Below w.heap.size w w1 := hbl.trans (hb1.mono z)
      have z1 := B1.size
      have hla2 := (So.below hla1 hb1).alloc (.cells #[.string xn, .int .i64 xo, .string xv] 44)
      clear hla1 hb1 HRP
      by_cases hu : u = 0
      · have HF : Hid (R = ([], 0)) := Lib.hid (by rw [HT.out, HGO.out, if_pos (.inl hu)])
        subst hu
        go_wp2_with fail
        (try rw [Exit.noGoto_ret])
        go_ret2
        rw [HF.out]
        exact rs_none _ _ (B1.alloc z1 _)
      have hu1 : ((u : Int) == 0) = false := beq_eq_false_iff_ne.2 (by omega)
      by_cases hn16 : n = 16
      · have HF : Hid (R = ([], 0)) := Lib.hid (by rw [HT.out, HGO.out, if_pos (.inr hn16)])
        subst hn16
        clear hu
        go_wp2_with fail
        (try rw [Exit.noGoto_ret])
        go_ret2
        rw [HF.out]
        exact rs_none _ _ (B1.alloc z1 _)
      have hn1 : ((n : Int) == 16) = false := beq_eq_false_iff_ne.2 (by omega)
      have hgo2 := HGO.out
      rw [if_neg (by rintro (h | h); exact hu h; exact hn16 h)] at hgo2
      have HG2 := Lib.hid hgo2
      clear hgo2 HGO
      have HPa := Lib.hid (fun W => hasPrefix_any (t.extract (k + u) t.size) ⟨#[125]⟩ W)
      have HPb := Lib.hid (fun W => hasPrefix_any (t.extract (k + u) t.size) ⟨#[44]⟩ W)
      have e3 : (⟨#[125]⟩ : ByteArray).data.toList = [125] := rfl
      have e4 : (⟨#[44]⟩ : ByteArray).data.toList = [44] := rfl
      rw [ex_list, e3] at HPa
      rw [ex_list, e4] at HPb
      clear e3 e4
      have hrl : (t.data.toList.drop (k + u)).length = t.size - (k + u) := by rw [List.length_drop, HE.out]
      generalize hrs : t.data.toList.drop (k + u) = rest at *
      have i1 : (0 : Int) ≤ (k : Int) + u := by omega
      have i2 : (k : Int) + u ≤ t.size := by omega
      have i3 : (k : Int) + u ≤ 9223372036854775807 := by omega
      have i4 : ((k : Int) + u).toNat = k + u := by omega
      by_cases hc : Lib.hasPrefix rest [125] = true
      · have HF : Hid (R = (acc ++ [(xn, xo, xv)], k + u + 1)) := Lib.hid (by rw [HT.out, HG2.out, if_pos hc])
        have hlt : k + u < t.size := by
          have := hasPrefix_len hc
          rw [hrl] at this
          simp at this
          omega
        rw [hc] at HPa
        clear hc hrs hrl hu hn16
        go_wp2_with (first
            | (at_builtin; refine wpList_pushE Tryd.underlying26 info_ar rfl (by decide) (w1.alloc (.cells #[.string xn, .int .i64 xo, .string xv] 44)) rfl (.tmp 27) (.tmp 29) rfl w.heap.size (.slice A n c) acc rfl hla2 (xn, xo, xv) _ rfl rfl (encR_one _) _ (w1.heap.size + 1) (by simp) rfl (n + 1) (by rw [HNL.out]) (by unfold maxLen; omega) (by omega) (by omega) ?_; intro A2 cap2 w2 hps2 hgrow2 hat2; have B2 : Below w.heap.size w w2 := grown_belowE (B1.alloc z1 _) hgrow2 (by simp; omega) (fun _ h => (hla2.lt _ h).1))
            | (go_at_call 28; refine (HPa.out _).mono ?_; rintro e w' ⟨rfl, rfl⟩))
        (try rw [Exit.noGoto_ret])
        go_ret2
        have e : (acc ++ [(xn, xo, xv)]).length = n + 1 := by rw [List.length_append, HNL.out]; rfl
        rw [HF.out]
        refine ⟨A2, cap2, ?_, ?_, B2⟩
        · rw [e]; exact ret_slc rfl (by push_cast; omega)
        · rw [e]; exact hps2
      have hc : Lib.hasPrefix rest [125] = false := by simpa using hc
      by_cases hd : Lib.hasPrefix rest [44] = true
      · have HN : Hid (R = parseGo (17 - (n + 1)) (t.data.toList.drop (k + u + 1)) (k + u + 1) (acc ++ [(xn, xo, xv)])) := Lib.hid (by
          rw [HT.out, HG2.out, if_neg (by rw [hc]; decide), if_pos hd, Nat.add_assoc k u 1])
        have hlt : k + u < t.size := by
          have := hasPrefix_len hd
          rw [hrl] at this
          simp at this
          omega
        rw [hc] at HPa
        rw [hd] at HPb
        have hn17 : n + 1 ≤ 16 := by omega
        clear hc hd hrs hrl hu hn16
        go_wp2_with (first
            | (at_builtin; refine wpList_pushE Tryd.underlying26 info_ar rfl (by decide) (w1.alloc (.cells #[.string xn, .int .i64 xo, .string xv] 44)) rfl (.tmp 27) (.tmp 29) rfl w.heap.size (.slice A n c) acc rfl hla2 (xn, xo, xv) _ rfl rfl (encR_one _) _ (w1.heap.size + 1) (by simp) rfl (n + 1) (by rw [HNL.out]) (by unfold maxLen; omega) (by omega) (by omega) ?_; intro A2 cap2 w2 hps2 hgrow2 hat2; have B2 : Below w.heap.size w w2 := grown_belowE (B1.alloc z1 _) hgrow2 (by simp; omega) (fun _ h => (hla2.lt _ h).1))
            | (go_at_call 28; refine (HPa.out _).mono ?_; rintro e w' ⟨rfl, rfl⟩)
            | (go_at_call 28; refine (HPb.out _).mono ?_; rintro e w' ⟨rfl, rfl⟩))
        go_roundw
        case rel => exact ⟨k + u + 1, n + 1, cap2, A2, _, by omega, by omega, by go_num, rfl, hn17, hps2, HN, B2⟩
        case measure => simp [intOf]; omega
      · have hd : Lib.hasPrefix rest [44] = false := by simpa using hd
        have HF : Hid (R = ([], 0)) := Lib.hid (by rw [HT.out, HG2.out, if_neg (by rw [hc]; decide), if_neg (by rw [hd]; decide)])
        rw [hc] at HPa
        rw [hd] at HPb
        clear hc hd hrs hrl hu hn16
        go_wp2_with (first
            | (at_builtin; refine wpList_pushE Tryd.underlying26 info_ar rfl (by decide) (w1.alloc (.cells #[.string xn, .int .i64 xo, .string xv] 44)) rfl (.tmp 27) (.tmp 29) rfl w.heap.size (.slice A n c) acc rfl hla2 (xn, xo, xv) _ rfl rfl (encR_one _) _ (w1.heap.size + 1) (by simp) rfl (n + 1) (by rw [HNL.out]) (by unfold maxLen; omega) (by omega) (by omega) ?_; intro A2 cap2 w2 hps2 hgrow2 hat2; have B2 : Below w.heap.size w w2 := grown_belowE (B1.alloc z1 _) hgrow2 (by simp; omega) (fun _ h => (hla2.lt _ h).1))
            | (go_at_call 28; refine (HPa.out _).mono ?_; rintro e w' ⟨rfl, rfl⟩)
            | (go_at_call 28; refine (HPb.out _).mono ?_; rintro e w' ⟨rfl, rfl⟩))
        (try rw [Exit.noGoto_ret])
        go_ret2
        rw [HF.out]
        exact rs_none _ _ B2
  · have h2 : Lib.hasPrefix t.data.toList [123] = false := by simpa using h2
    have HR : Hid (parseB t.data.toList = ([], 0)) := Lib.hid (by unfold parseB; rw [if_neg (by rw [h1]; decide), if_neg (by rw [h2]; decide)])
    rw [h1] at HP1
    rw [h2] at HP2
    clear h1 h2 hl hi hg
    go_enter Tryd.func15, Tryd.ntmps15
    go_wp2_with (first
      | (go_at_call 28; refine (HP1.out _).mono ?_; rintro e w' ⟨rfl, rfl⟩)
      | (go_at_call 28; refine (HP2.out _).mono ?_; rintro e w' ⟨rfl, rfl⟩))
    go_step3
    go_wp2_with (first
      | (go_at_call 28; refine (HP1.out _).mono ?_; rintro e w' ⟨rfl, rfl⟩)
      | (go_at_call 28; refine (HP2.out _).mono ?_; rintro e w' ⟨rfl, rfl⟩))
    (try rw [Exit.noGoto_ret])
    go_ret2
    rw [HR.out]
    exact rs_none _ _ (Below.refl _ _)
end Go.Proofs.YtfmgphjnajgldaaDoor
