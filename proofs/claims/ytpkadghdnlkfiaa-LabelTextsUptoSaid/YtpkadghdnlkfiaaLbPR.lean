/- The document's Parse. -/
import Derived.Test.YtpkadghdnlkfiaaLbXP
import Derived.Test.YtpkadghdnlkfiaaLbRr
import Derived.Test.YtpkadghdnlkfiaaLbTf
namespace Go.Proofs.Ytpkadghdnlkfiaa
open Go.RowKit

theorem mkP_of (q : ByteArray) (v : List UInt8) : mkP (q.data.toList, v) = (q, ⟨v.toArray⟩) := by cases q; rfl
def RParsePost (w : World) (t : List UInt8) (e : Ending) (w' : World) : Prop :=
  ∃ A c, e = .returned (.tuple #[.slice A (parseL t).length c, .int .i64 (parseE t)]) ∧ Ld w' w.heap.size (.slice A (parseL t).length c) (parseL t) ∧ Below w.heap.size w w'
theorem rparse_nil {w w' : World} {t : List UInt8} {x : Int} (h1 : parseE t = x) (h2 : parseL t = []) (h : Below w.heap.size w w') : RParsePost w t (.returned (.tuple #[.slice none 0 0, .int .i64 x])) w' := by
  refine ⟨none, 0, ?_, ?_, h⟩
  · rw [h1, h2]; rfl
  · rw [h2]; exact So.empty _ _ _ _ _
def RPost (w : World) (E : Int) (PL : List Pp) (e : Ending) (w' : World) : Prop :=
  ∃ A c, e = .returned (.tuple #[.slice A PL.length c, .int .i64 E]) ∧ Ld w' w.heap.size (.slice A PL.length c) PL ∧ Below w.heap.size w w'
theorem rparse_none {w w' : World} {E x : Int} {PL : List Pp} (h1 : E = x) (h2 : PL = []) (h : Below w.heap.size w w') : RPost w E PL (.returned (.tuple #[.slice none 0 0, .int .i64 x])) w' := by
  subst h1 h2
  exact ⟨none, 0, rfl, So.empty _ _ _ _ _, h⟩
theorem rparse_some {w w' : World} {E : Int} {PL l : List Pp} {A : Option Addr} {n c : Nat} (h1 : E = 0) (h2 : PL = l) (hn : n = l.length) (hp : Ld w' w.heap.size (.slice A n c) l) (h : Below w.heap.size w w') : RPost w E PL (.returned (.tuple #[.slice A n c, .int .i64 0])) w' := by
  subst h1 h2 hn
  exact ⟨A, c, rfl, hp, h⟩

set_option maxRecDepth 100000 in
set_option maxHeartbeats 6400000 in
theorem rParse_any (t : ByteArray) (w : World) (hs : t.size ≤ maxLen) : Calls Try.prog 27 #[.string t] w (RParsePost w t.data.toList) := by
  unfold maxLen at hs
  have hl : t.data.toList.length = t.size := by simp
  have tl := Lib.toList_data t
  by_cases h1 : 4096 < t.size
  · obtain ⟨e1, e2⟩ := parse_long (t := t.data.toList) (by omega)
    have E1 := Lib.hid e1
    have E2 := Lib.hid e2
    clear e1 e2 hl tl
    go_enter Try.func27, Try.ntmps27
    go_wp2
    go_ret2
    exact rparse_nil E1.out E2.out (Below.refl _ _)
  have hle : ¬ 4096 < t.data.toList.length := by omega
  have hi : (t.size : Int) ≤ 4096 := by omega
  by_cases h2 : t.size < 2
  · obtain ⟨e1, e2⟩ := parse_none hle (short_no h2)
    have E1 := Lib.hid e1
    have E2 := Lib.hid e2
    clear e1 e2 hl tl hle
    go_enter Try.func27, Try.ntmps27
    go_wp2
    go_ret2
    exact rparse_nil E1.out E2.out (Below.refl _ _)
  have hpos : 0 < t.size := by omega
  by_cases hc : ((t[0]).toNat : Int) = 123
  rotate_left
  · obtain ⟨e1, e2⟩ := parse_none hle (brace_no fun _ => hc)
    have E1 := Lib.hid e1
    have E2 := Lib.hid e2
    have c0 : (((t[0]).toNat : Int) == 123) = false := by simpa using hc
    have d0 : (((t[0]).toNat : Int) != 123) = true := by simpa using hc
    clear e1 e2 hl tl hle hc
    go_enter Try.func27, Try.ntmps27
    go_wp2
    go_ret2
    exact rparse_nil E1.out E2.out (Below.refl _ _)
  have c0 : (((t[0]).toNat : Int) == 123) = true := by rw [hc]; rfl
  have d0 : (((t[0]).toNat : Int) != 123) = false := by rw [hc]; rfl
  by_cases h3 : t.data.toList = [123, 125]
  · have e3 : (t.toList == [123, 125]) = true := by rw [tl, h3]; rfl
    have hr : readB t.data.toList = some [] := by rw [readB, if_pos h3]
    obtain ⟨e1, e2⟩ := parse_some hle hr rfl
    have E1 := Lib.hid e1
    have E2 := Lib.hid e2
    clear e1 e2 hl tl hle hc h3 hr
    go_enter Try.func27, Try.ntmps27
    go_wp2
    go_ret2
    exact rparse_nil E1.out E2.out (Below.refl _ _)
  have e3 : (t.toList == [123, 125]) = false := by rw [tl]; simpa using h3
  have hst := brace_yes hpos hc h3
  have HSM : Hid (∀ m, readB t.data.toList = some m → Sm m) := Lib.hid fun m h => readB_sm (by omega) h
  have HEN : Hid (readB t.data.toList = none → parseE t.data.toList = 10 ∧ parseL t.data.toList = []) := Lib.hid fun h => parse_none hle h
  have HES : Hid (∀ m, readB t.data.toList = some m → rightL m = true → parseE t.data.toList = 0 ∧ parseL t.data.toList = m) := Lib.hid fun m h hR => parse_some hle h hR
  have HEW : Hid (∀ m, readB t.data.toList = some m → rightL m = false → parseE t.data.toList = 40 ∧ parseL t.data.toList = []) := Lib.hid fun m h hR => parse_no hle h hR
  have HST := Lib.hid hst
  have HL := Lib.hid hl
  show Calls _ _ _ _ (RPost w (parseE t.data.toList) (parseL t.data.toList))
  generalize parseE t.data.toList = E at *
  generalize parseL t.data.toList = PL at *
  generalize readB t.data.toList = R at *
  clear hst hl tl hle hc h3
  go_enter Try.func27, Try.ntmps27
  go_wp2_with fail
  clear e3 c0 d0
  go_loopw [4, 5] (fun v i wr => ∃ (k n c : Nat) (A : Option Addr) (acc : List Pp), 1 ≤ k ∧ k ≤ t.size ∧ i = .int .i64 k ∧ v = .slice A n c ∧ n ≤ k ∧ Ld wr w.heap.size (.slice A n c) acc ∧ Hid (R = readGo (t.size + 1) (t.data.toList.drop k) acc) ∧ Below w.heap.size w wr) (fun _ i _ => t.size + 1 - (intOf i).toNat)
  case atStart => exact ⟨1, 0, 0, none, [], Nat.le_refl _, by omega, rfl, rfl, by omega, So.empty _ _ _ _ _, HST, Below.refl _ _⟩
  case round =>
    rename World => W0
    obtain ⟨k, n, c, A, acc, h1k, hk, rfl, rfl, hnk, hla, HT, hbl⟩ := hrel
    have z := hbl.size
    have hnl := (So.sr encP_len hla).2
    have hgo : readGo (t.size + 1) (t.data.toList.drop k) acc = if (partP (t.data.toList.drop k)).2 = 0 then none else if (t.data.toList.drop k).drop (partP (t.data.toList.drop k)).2 = [125] then some (acc ++ [mkP (partP (t.data.toList.drop k)).1]) else if Lib.hasPrefix ((t.data.toList.drop k).drop (partP (t.data.toList.drop k)).2) [44] = true then readGo t.size ((t.data.toList.drop k).drop ((partP (t.data.toList.drop k)).2 + 1)) (acc ++ [mkP (partP (t.data.toList.drop k)).1]) else none := rfl
    have HG := Lib.hid hgo
    have HNL := Lib.hid hnl
    clear hgo hnl
    go_wp2_with fail
    go_loopw [5] (fun i wx => ∃ j : Nat, k ≤ j ∧ j ≤ t.size ∧ i = .int .i64 j ∧ Hid (Seek t.data.toList k j) ∧ W0 = wx) (fun i _ => t.size - (intOf i).toNat)
    case atStart => exact ⟨k, Nat.le_refl _, hk, rfl, Lib.hid (Seek.start _ _), rfl⟩
    case round =>
      obtain ⟨j, hkj, hj, rfl, HS, rfl⟩ := hrel
      by_cases hlt : j < t.size
      rotate_left
      · have hje : j = t.size := by omega
        have HF : Hid (R = none) := Lib.hid (by rw [HT.out, HG.out, if_pos (by have h := HS.out; rw [hje] at h; exact h.none)])
        have B2 := hbl
        clear hje
        go_wp2_with fail
        go_ret2
        exact rparse_none (HEN.out HF.out).1 (HEN.out HF.out).2 B2
      by_cases h61 : ((t[j]).toNat : Int) = 61
      rotate_left
      · have HN := Lib.hid (HS.out.next hkj hlt h61)
        have c61 : (((t[j]).toNat : Int) == 61) = false := by simpa using h61
        have d61 : (((t[j]).toNat : Int) != 61) = true := by simpa using h61
        clear h61
        go_wp2_with fail
        go_roundw
        case rel => exact ⟨j + 1, by omega, by omega, by go_num, HN, by first | rfl | trivial⟩
        case measure => simp [intOf]; omega
      have c61 : (((t[j]).toNat : Int) == 61) = true := by rw [h61]; rfl
      have d61 : (((t[j]).toNat : Int) != 61) = false := by rw [h61]; rfl
      have hfd := HS.out.found hkj hlt h61
      have hgo := HG.out
      rw [hfd] at hgo
      have huq := unqL_len (t.data.toList.drop (j + 1))
      rw [List.length_drop, HL.out] at huq
      have hcall : ∀ W, Calls Try.prog 24 #[.string (t.extract (j + 1) t.size)] W (UnqPost W (unqL (t.data.toList.drop (j + 1)))) := by
        intro W
        have h := rUnquote_any (t.extract (j + 1) t.size) W (by rw [ex_size]; omega)
        unfold unqB at h
        rw [ex_list] at h
        exact h
      generalize unqL (t.data.toList.drop (j + 1)) = p at *
      obtain ⟨vl, u⟩ := p
      have HQ := Lib.hid hcall
      simp only at hgo huq
      have HGO0 := Lib.hid hgo
      clear hcall hgo hfd h61 HG HS
      have i0 : (k : Int) ≤ j := by omega
      have i1 : (j : Int) + 1 ≤ t.size := by omega
      have i2 : (j : Int) < t.size := by omega
      go_wp2_with fail
      refine (HQ.out _).mono ?_
      rintro e w1 ⟨rfl, hb1⟩
      have B1 : Below w.heap.size w w1 := hbl.trans (hb1.mono z)
      have z1 := B1.size
      have hla2 := So.below hla hb1
      clear hla hb1 HQ c61 d61
      by_cases hu : u = 0
      · have HF : Hid (R = none) := Lib.hid (by rw [HT.out, HGO0.out, if_pos (by rw [if_pos hu])])
        subst hu
        have B2 := B1
        go_wp2_with fail
        go_ret2
        exact rparse_none (HEN.out HF.out).1 (HEN.out HF.out).2 B2
      have hgo := HGO0.out
      rw [if_neg hu] at hgo
      simp only [List.drop_drop] at hgo
      rw [show k + (j - k + 1 + u) = j + 1 + u by omega, show k + (j - k + 1 + u + 1) = j + 1 + u + 1 by omega] at hgo
      rw [if_neg (show ¬ j - k + 1 + u = 0 by omega)] at hgo
      have hmk : mkP ((t.extract k j).data.toList, vl) = (t.extract k j, ⟨vl.toArray⟩) := mkP_of _ _
      rw [hmk] at hgo
      have hu1 : ((u : Int) == 0) = false := beq_eq_false_iff_ne.2 (by omega)
      have hu : 0 < u := by omega
      generalize t.extract k j = xn at *
      generalize (⟨vl.toArray⟩ : ByteArray) = xv at *
      have HGO := Lib.hid hgo
      clear hgo hmk HGO0
      have i3 : (j : Int) + 1 + u ≤ t.size := by omega
      by_cases hcl : j + 1 + u + 1 = t.size
      · have hlt2 : j + 1 + u < t.size := by omega
        have i4 : ((j : Int) + 1 + u == (t.size : Int) - 1) = true := by simp; omega
        have i5 : (j : Int) + 1 + u < t.size := by omega
        by_cases h125 : ((t[j + 1 + u]).toNat : Int) = 125
        · have hrs : R = some (acc ++ [(xn, xv)]) := by rw [HT.out, HGO.out, if_pos (close_yes hcl h125)]
          have hsm := HSM.out _ hrs
          have HES1 := Lib.hid (HES.out _ hrs)
          have HEW1 := Lib.hid (HEW.out _ hrs)
          have c125 : (((t[j + 1 + u]).toNat : Int) == 125) = true := by rw [h125]; rfl
          clear hrs h125
          go_wp2_with (at_builtin; refine wpList_pushE Try.underlying24 info_rp rfl (by decide) w1 rfl (.tmp 56) (.tmp 60) rfl w.heap.size (.slice A n c) acc rfl hla2 (xn, xv) _ rfl rfl (encP_one _) _ w1.heap.size rfl rfl (n + 1) (by rw [HNL.out]) (by unfold maxLen; omega) (by omega) (by omega) ?_; intro A2 cap2 w2 hps2 hgrow2 hat2; have B2 : Below w.heap.size w w2 := grown_belowE B1 hgrow2 (by omega) (fun _ h => (hla2.lt _ h).1))
          have e : (acc ++ [(xn, xv)]).length = n + 1 := by rw [List.length_append, HNL.out]; rfl
          have hrt := rRight_any w2.heap.size A2 (n + 1) cap2 (acc ++ [(xn, xv)]) w2 e (So.sr encP_len hps2).1 (Nat.le_refl _) hsm
          generalize acc ++ [(xn, xv)] = out at *
          have HR2 := Lib.hid hrt
          clear hrt
          go_wp2_with fail
          refine HR2.out.mono ?_
          rintro e w3 ⟨rfl, hb3⟩
          have B3 := B2.trans (hb3.mono B2.size)
          have hps3 := So.below hps2 hb3
          by_cases hR : rightL out = true
          · have HF := Lib.hid (HES1.out hR)
            go_wp2_with fail
            go_ret2
            exact rparse_some HF.out.1 HF.out.2 e.symm hps3 B3
          · have hR : rightL out = false := by simpa using hR
            have HF := Lib.hid (HEW1.out hR)
            go_wp2_with fail
            go_ret2
            exact rparse_none HF.out.1 HF.out.2 B3
        · have c125 : (((t[j + 1 + u]).toNat : Int) == 125) = false := by simpa using h125
          have hr := close_no (t := t) (k := j + 1 + u) (by omega) fun _ _ => h125
          clear h125
          by_cases h44 : ((t[j + 1 + u]).toNat : Int) = 44
          ·
            have HN : Hid (R = readGo (t.size + 1) (t.data.toList.drop (j + 1 + u + 1)) (acc ++ [(xn, xv)])) := Lib.hid (by
              rw [HT.out, HGO.out, if_neg hr, if_pos (comma_yes hlt2 h44)]
              exact readGo_fuel _ _ _ _ (by rw [List.length_drop, HL.out]; omega) (by rw [List.length_drop, HL.out]; omega))
            have c44 : (((t[j + 1 + u]).toNat : Int) == 44) = true := by rw [h44]; rfl
            have d44 : (((t[j + 1 + u]).toNat : Int) != 44) = false := by rw [h44]; rfl
            clear hr h44
            go_wp2_with (at_builtin; refine wpList_pushE Try.underlying24 info_rp rfl (by decide) w1 rfl (.tmp 56) (.tmp 60) rfl w.heap.size (.slice A n c) acc rfl hla2 (xn, xv) _ rfl rfl (encP_one _) _ w1.heap.size rfl rfl (n + 1) (by rw [HNL.out]) (by unfold maxLen; omega) (by omega) (by omega) ?_; intro A2 cap2 w2 hps2 hgrow2 hat2; have B2 : Below w.heap.size w w2 := grown_belowE B1 hgrow2 (by omega) (fun _ h => (hla2.lt _ h).1))
            go_roundw
            case rel => exact ⟨j + 1 + u + 1, n + 1, cap2, A2, _, by omega, by omega, by go_num, rfl, by omega, hps2, HN, B2⟩
            case measure => simp [intOf]; omega
          ·
            have c44 : (((t[j + 1 + u]).toNat : Int) == 44) = false := by simpa using h44
            have d44 : (((t[j + 1 + u]).toNat : Int) != 44) = true := by simpa using h44
            have HF : Hid (R = none) := Lib.hid (by rw [HT.out, HGO.out, if_neg hr, if_neg (comma_no fun _ => h44)])
            clear hr h44
            go_wp2_with (at_builtin; refine wpList_pushE Try.underlying24 info_rp rfl (by decide) w1 rfl (.tmp 56) (.tmp 60) rfl w.heap.size (.slice A n c) acc rfl hla2 (xn, xv) _ rfl rfl (encP_one _) _ w1.heap.size rfl rfl (n + 1) (by rw [HNL.out]) (by unfold maxLen; omega) (by omega) (by omega) ?_; intro A2 cap2 w2 hps2 hgrow2 hat2; have B2 : Below w.heap.size w w2 := grown_belowE B1 hgrow2 (by omega) (fun _ h => (hla2.lt _ h).1))
            go_ret2
            exact rparse_none (HEN.out HF.out).1 (HEN.out HF.out).2 B2
      · have i4 : ((j : Int) + 1 + u == (t.size : Int) - 1) = false := by simp; omega
        have hr := close_no (t := t) (k := j + 1 + u) (by omega) fun e _ => absurd e hcl
        by_cases hlt2 : j + 1 + u < t.size
        · have i5 : (j : Int) + 1 + u < t.size := by omega
          by_cases h44 : ((t[j + 1 + u]).toNat : Int) = 44
          ·
            have HN : Hid (R = readGo (t.size + 1) (t.data.toList.drop (j + 1 + u + 1)) (acc ++ [(xn, xv)])) := Lib.hid (by
              rw [HT.out, HGO.out, if_neg hr, if_pos (comma_yes hlt2 h44)]
              exact readGo_fuel _ _ _ _ (by rw [List.length_drop, HL.out]; omega) (by rw [List.length_drop, HL.out]; omega))
            have c44 : (((t[j + 1 + u]).toNat : Int) == 44) = true := by rw [h44]; rfl
            have d44 : (((t[j + 1 + u]).toNat : Int) != 44) = false := by rw [h44]; rfl
            clear hr h44
            go_wp2_with (at_builtin; refine wpList_pushE Try.underlying24 info_rp rfl (by decide) w1 rfl (.tmp 56) (.tmp 60) rfl w.heap.size (.slice A n c) acc rfl hla2 (xn, xv) _ rfl rfl (encP_one _) _ w1.heap.size rfl rfl (n + 1) (by rw [HNL.out]) (by unfold maxLen; omega) (by omega) (by omega) ?_; intro A2 cap2 w2 hps2 hgrow2 hat2; have B2 : Below w.heap.size w w2 := grown_belowE B1 hgrow2 (by omega) (fun _ h => (hla2.lt _ h).1))
            go_roundw
            case rel => exact ⟨j + 1 + u + 1, n + 1, cap2, A2, _, by omega, by omega, by go_num, rfl, by omega, hps2, HN, B2⟩
            case measure => simp [intOf]; omega
          ·
            have c44 : (((t[j + 1 + u]).toNat : Int) == 44) = false := by simpa using h44
            have d44 : (((t[j + 1 + u]).toNat : Int) != 44) = true := by simpa using h44
            have HF : Hid (R = none) := Lib.hid (by rw [HT.out, HGO.out, if_neg hr, if_neg (comma_no fun _ => h44)])
            clear hr h44
            go_wp2_with (at_builtin; refine wpList_pushE Try.underlying24 info_rp rfl (by decide) w1 rfl (.tmp 56) (.tmp 60) rfl w.heap.size (.slice A n c) acc rfl hla2 (xn, xv) _ rfl rfl (encP_one _) _ w1.heap.size rfl rfl (n + 1) (by rw [HNL.out]) (by unfold maxLen; omega) (by omega) (by omega) ?_; intro A2 cap2 w2 hps2 hgrow2 hat2; have B2 : Below w.heap.size w w2 := grown_belowE B1 hgrow2 (by omega) (fun _ h => (hla2.lt _ h).1))
            go_ret2
            exact rparse_none (HEN.out HF.out).1 (HEN.out HF.out).2 B2
        · have HF : Hid (R = none) := Lib.hid (by rw [HT.out, HGO.out, if_neg hr, if_neg (comma_no fun h => absurd h hlt2)])
          have i5 : ¬ (j : Int) + 1 + u < t.size := by omega
          clear hr
          go_wp2_with (at_builtin; refine wpList_pushE Try.underlying24 info_rp rfl (by decide) w1 rfl (.tmp 56) (.tmp 60) rfl w.heap.size (.slice A n c) acc rfl hla2 (xn, xv) _ rfl rfl (encP_one _) _ w1.heap.size rfl rfl (n + 1) (by rw [HNL.out]) (by unfold maxLen; omega) (by omega) (by omega) ?_; intro A2 cap2 w2 hps2 hgrow2 hat2; have B2 : Below w.heap.size w w2 := grown_belowE B1 hgrow2 (by omega) (fun _ h => (hla2.lt _ h).1))
          go_ret2
          exact rparse_none (HEN.out HF.out).1 (HEN.out HF.out).2 B2
end Go.Proofs.Ytpkadghdnlkfiaa
