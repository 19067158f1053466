/- The program's read. -/
import Derived.Test.YtpkadghdnlkfiaaLbP
import Derived.Test.YtpkadghdnlkfiaaEl2
namespace Go.Proofs.Ytpkadghdnlkfiaa
open Go.RowKit

def ReadPost (w : World) (r : Option (List Pp)) (e : Ending) (w' : World) : Prop :=
  ∃ A c, e = .returned (.tuple #[.slice A (r.getD []).length c, .bool r.isSome]) ∧ La w' w.heap.size (.slice A (r.getD []).length c) (r.getD []) ∧ Below w.heap.size w w'
theorem read_none (w w' : World) (h : Below w.heap.size w w') : ReadPost w none (.returned (.tuple #[.slice none 0 0, .bool false])) w' := ⟨none, 0, rfl, So.empty _ _ _ _ _, h⟩
theorem ex_list (t : ByteArray) (k : Nat) : (t.extract k t.size).data.toList = t.data.toList.drop k := by rw [ext_drop]
theorem ex_size (t : ByteArray) (k : Nat) : (t.extract k t.size).size = t.size - k := by simp

set_option maxRecDepth 100000 in
set_option maxHeartbeats 3200000 in
theorem read_any (t : ByteArray) (w : World) (hs : t.size ≤ 4096) (hm : Mx w) : Calls Try.prog 43 #[.string t] w (ReadPost w (readB t.data.toList)) := by
  have hl : t.data.toList.length = t.size := by simp
  have tl := Lib.toList_data t
  by_cases h1 : t.data.toList = [123, 125]
  · have e1 : (t.toList == [123, 125]) = true := by rw [tl, h1]; rfl
    have HR : Hid (readB t.data.toList = some []) := Lib.hid (by unfold readB; rw [if_pos h1])
    clear h1 tl hl
    go_enter Try.func43, Try.ntmps43
    go_wp2
    go_step3
    go_wp2
    (try rw [Exit.noGoto_ret])
    go_ret2
    rw [HR.out]
    exact ⟨none, 0, rfl, So.empty _ _ _ _ _, Below.refl _ _⟩
  have e1 : (t.toList == [123, 125]) = false := by rw [tl]; simpa using h1
  by_cases h2 : Lib.hasPrefix t.data.toList [123] = true
  · have hpos : 1 ≤ t.size := by
      rw [← hl]
      cases h : t.data.toList with
      | nil => rw [h] at h2; exact absurd h2 (by decide)
      | cons => simp
    have HR : Hid (readB t.data.toList = readGo (t.size + 1) (t.data.toList.drop 1) []) := Lib.hid (by unfold readB; rw [if_neg h1, if_pos h2, hl])
    have HP := Lib.hid (fun W => hasPrefix_any t ⟨#[123]⟩ W)
    have e3 : (⟨#[123]⟩ : ByteArray).data.toList = [123] := rfl
    rw [e3, h2] at HP
    generalize readB t.data.toList = R at *
    have HM := Lib.hid hm
    clear h1 h2 e3 tl hm
    have HE := Lib.hid hl
    clear hl
    go_enter Try.func43, Try.ntmps43
    go_wp2_with (go_at_call 52; refine (HP.out _).mono ?_; rintro e w' ⟨rfl, rfl⟩)
    go_step3
    go_wp2_with (go_at_call 52; refine (HP.out _).mono ?_; rintro e w' ⟨rfl, rfl⟩)
    go_step3
    go_wp2_with (go_at_call 52; refine (HP.out _).mono ?_; rintro e w' ⟨rfl, rfl⟩)
    clear e1
    go_loopw [4, 5] (fun v i wr => ∃ (k n c : Nat) (A : Option Addr) (acc : List Pp), 1 ≤ k ∧ k ≤ t.size ∧ i = .int .i64 k ∧ v = .slice A n c ∧ n ≤ k ∧ La wr w.heap.size (.slice A n c) acc ∧ Hid (R = readGo (t.size + 1) (t.data.toList.drop k) acc) ∧ Below w.heap.size w wr) (fun _ i _ => t.size + 1 - (intOf i).toNat)
    case atStart => exact ⟨1, 0, 0, none, [], Nat.le_refl _, hpos, rfl, rfl, by omega, So.empty _ _ _ _ _, HR, Below.refl _ _⟩
    case round =>
      obtain ⟨k, n, c, A, acc, h1k, hk, rfl, rfl, hnk, hla, HT, hbl⟩ := hrel
      have z := hbl.size
      have hnl := (So.sr encP_len hla).2
      have hrp := readPart_any (t.extract k t.size) wr (by rw [ex_size]; omega) (HM.out.below hbl)
      have hpl := partP_len (t.data.toList.drop k)
      rw [ex_list] at hrp
      rw [List.length_drop, HE.out] at hpl
      have hgo : readGo (t.size + 1) (t.data.toList.drop k) acc = if (partP (t.data.toList.drop k)).2 = 0 then none else if (t.data.toList.drop k).drop (partP (t.data.toList.drop k)).2 = [125] then some (acc ++ [mkP (partP (t.data.toList.drop k)).1]) else if Lib.hasPrefix ((t.data.toList.drop k).drop (partP (t.data.toList.drop k)).2) [44] = true then readGo t.size ((t.data.toList.drop k).drop ((partP (t.data.toList.drop k)).2 + 1)) (acc ++ [mkP (partP (t.data.toList.drop k)).1]) else none := rfl
      rw [List.drop_drop, List.drop_drop] at hgo
      generalize partP (t.data.toList.drop k) = p at *
      obtain ⟨pp, u⟩ := p
      unfold PartPost at hrp
      simp only at hrp hgo hpl
      generalize mkP pp = x at *
      obtain ⟨xn, xv⟩ := x
      simp only at hrp
      have HRP := Lib.hid hrp
      have HGO := Lib.hid hgo
      have HNL := Lib.hid hnl
      clear hrp hgo hnl
      have i0 : (k : Int) ≤ t.size := by omega
      have hla1 := hla
      clear hla
      go_wp2_with fail
      refine HRP.out.mono ?_
      rintro e w1 ⟨rfl, hb1⟩
      have B1 : Below w.heap.size w w1 := hbl.trans (hb1.mono z)
      have z1 := B1.size
      have hla2 := (So.below hla1 hb1).alloc (.cells #[.string xn, .string xv] 49)
      clear hla1 hb1 HRP
      have hrest := ex_list t (k + u)
      have htst := Lib.toList_data (t.extract (k + u) t.size)
      rw [hrest] at htst
      have hpre := fun W => hasPrefix_any (t.extract (k + u) t.size) ⟨#[44]⟩ W
      have e3 : (⟨#[44]⟩ : ByteArray).data.toList = [44] := rfl
      rw [hrest, e3] at hpre
      have HPRE := Lib.hid hpre
      clear hrest hpre e3
      generalize hrs : t.data.toList.drop (k + u) = rest at *
      have HRS := Lib.hid hrs
      clear hrs
      have i1 : (0 : Int) ≤ (k : Int) + u := by omega
      have i2 : (k : Int) + u ≤ t.size := by omega
      have i3 : (k : Int) + u ≤ 9223372036854775807 := by omega
      by_cases hu : u = 0
      · have HF : Hid (R = none) := Lib.hid (by rw [HT.out, HGO.out, if_pos hu])
        subst hu
        clear htst
        go_wp2_with (at_builtin; refine wpList_pushE Try.underlying25 info_ap rfl (by decide) (w1.alloc (.cells #[.string xn, .string xv] 49)) rfl (.tmp 20) (.tmp 22) rfl w.heap.size (.slice A n c) acc rfl hla2 (xn, xv) _ rfl rfl (encP_one _) _ (w1.heap.size + 1) (by simp) rfl (n + 1) (by rw [HNL.out]) (by unfold maxLen; omega) (by omega) (by omega) ?_; intro A2 cap2 w2 hps2 hgrow2 hat2; have B2 : Below w.heap.size w w2 := grown_belowE (B1.alloc z1 _) hgrow2 (by simp; omega) (fun _ h => (hla2.lt _ h).1))
        (try rw [Exit.noGoto_ret])
        go_ret2
        rw [HF.out]
        exact read_none _ _ B2
      · have hu1 : ((u : Int) == 0) = false := beq_eq_false_iff_ne.2 (by omega)
        by_cases hr : rest = [125]
        · have HF : Hid (R = some (acc ++ [(xn, xv)])) := Lib.hid (by rw [HT.out, HGO.out, if_neg hu, if_pos hr])
          have ht1 : ((t.extract (k + u) t.size).toList == [125]) = true := by rw [htst, hr]; rfl
          clear htst hr
          go_wp2_with (at_builtin; refine wpList_pushE Try.underlying25 info_ap rfl (by decide) (w1.alloc (.cells #[.string xn, .string xv] 49)) rfl (.tmp 20) (.tmp 22) rfl w.heap.size (.slice A n c) acc rfl hla2 (xn, xv) _ rfl rfl (encP_one _) _ (w1.heap.size + 1) (by simp) rfl (n + 1) (by rw [HNL.out]) (by unfold maxLen; omega) (by omega) (by omega) ?_; intro A2 cap2 w2 hps2 hgrow2 hat2; have B2 : Below w.heap.size w w2 := grown_belowE (B1.alloc z1 _) hgrow2 (by simp; omega) (fun _ h => (hla2.lt _ h).1))
          (try rw [Exit.noGoto_ret])
          go_ret2
          rw [HF.out]
          have e : (acc ++ [(xn, xv)]).length = n + 1 := by rw [List.length_append, HNL.out]; rfl
          refine ⟨A2, cap2, ?_, ?_, B2⟩
          · show _ = Ending.returned (.tuple #[.slice A2 (acc ++ [(xn, xv)]).length cap2, .bool true])
            rw [e]; rfl
          · show La _ _ (.slice A2 (acc ++ [(xn, xv)]).length cap2) (acc ++ [(xn, xv)])
            rw [e]; exact hps2
        · have ht1 : ((t.extract (k + u) t.size).toList == [125]) = false := by rw [htst]; simpa using hr
          clear htst
          by_cases hc : Lib.hasPrefix rest [44] = true
          · have hlt : k + u < t.size := by
              have hl0 : 0 < rest.length := by
                cases h : rest with
                | nil => rw [h] at hc; exact absurd hc (by decide)
                | cons => simp
              have e := congrArg List.length HRS.out
              rw [List.length_drop, HE.out] at e
              omega
            have HN : Hid (R = readGo (t.size + 1) (t.data.toList.drop (k + u + 1)) (acc ++ [(xn, xv)])) := Lib.hid (by
              rw [HT.out, HGO.out, if_neg hu, if_neg hr, if_pos hc]
              exact readGo_fuel _ _ _ _ (by rw [List.length_drop, HE.out]; omega) (by rw [List.length_drop, HE.out]; omega))
            rw [hc] at HPRE
            clear hr hc
            go_wp2_with (first
            | (go_at_call 52; refine (HPRE.out _).mono ?_; rintro e w' ⟨rfl, rfl⟩)
            | (at_builtin; refine wpList_pushE Try.underlying25 info_ap rfl (by decide) (w1.alloc (.cells #[.string xn, .string xv] 49)) rfl (.tmp 20) (.tmp 22) rfl w.heap.size (.slice A n c) acc rfl hla2 (xn, xv) _ rfl rfl (encP_one _) _ (w1.heap.size + 1) (by simp) rfl (n + 1) (by rw [HNL.out]) (by unfold maxLen; omega) (by omega) (by omega) ?_; intro A2 cap2 w2 hps2 hgrow2 hat2; have B2 : Below w.heap.size w w2 := grown_belowE (B1.alloc z1 _) hgrow2 (by simp; omega) (fun _ h => (hla2.lt _ h).1)))
            go_roundw
            case rel => exact ⟨k + u + 1, n + 1, cap2, A2, _, by omega, by omega, by go_num, rfl, by omega, hps2, HN, B2⟩
            case measure => simp [intOf]; omega
          · have hc : Lib.hasPrefix rest [44] = false := by simpa using hc
            have HF : Hid (R = none) := Lib.hid (by rw [HT.out, HGO.out, if_neg hu, if_neg hr, if_neg (by simp [hc])])
            rw [hc] at HPRE
            clear hr hc
            go_wp2_with (first
            | (go_at_call 52; refine (HPRE.out _).mono ?_; rintro e w' ⟨rfl, rfl⟩)
            | (at_builtin; refine wpList_pushE Try.underlying25 info_ap rfl (by decide) (w1.alloc (.cells #[.string xn, .string xv] 49)) rfl (.tmp 20) (.tmp 22) rfl w.heap.size (.slice A n c) acc rfl hla2 (xn, xv) _ rfl rfl (encP_one _) _ (w1.heap.size + 1) (by simp) rfl (n + 1) (by rw [HNL.out]) (by unfold maxLen; omega) (by omega) (by omega) ?_; intro A2 cap2 w2 hps2 hgrow2 hat2; have B2 : Below w.heap.size w w2 := grown_belowE (B1.alloc z1 _) hgrow2 (by simp; omega) (fun _ h => (hla2.lt _ h).1)))
            (try rw [Exit.noGoto_ret])
            go_ret2
            rw [HF.out]
            exact read_none _ _ B2
  · have h2 : Lib.hasPrefix t.data.toList [123] = false := by simpa using h2
    have HR : Hid (readB t.data.toList = none) := Lib.hid (by unfold readB; rw [if_neg h1, if_neg (by simp [h2])])
    have HP := Lib.hid (fun W => hasPrefix_any t ⟨#[123]⟩ W)
    have e3 : (⟨#[123]⟩ : ByteArray).data.toList = [123] := rfl
    rw [e3, h2] at HP
    clear h1 h2 tl hl
    go_enter Try.func43, Try.ntmps43
    go_wp2_with (go_at_call 52; refine (HP.out _).mono ?_; rintro e w' ⟨rfl, rfl⟩)
    go_step3
    go_wp2_with (go_at_call 52; refine (HP.out _).mono ?_; rintro e w' ⟨rfl, rfl⟩)
    (try rw [Exit.noGoto_ret])
    go_ret2
    rw [HR.out]
    exact read_none _ _ (Below.refl _ _)
end Go.Proofs.Ytpkadghdnlkfiaa
