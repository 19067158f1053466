/- The document's Parse of rules. -/
import Derived.Test.YtcmpenmaphmifaaGreatDoorPk22
import Derived.Test.YtcmpenmaphmifaaGreatDoorPk6
import Derived.Test.YtcmpenmaphmifaaGreatDoorPk12
import Derived.Test.YtcmpenmaphmifaaGreatDoorPk1
namespace Go.Proofs.YtcmpenmaphmifaaGreatDoor
open Go.RowKit

/-- The last of the signs below k with which a text begins. -/
def opTo (r : List UInt8) : Nat → Int
  | 0 => 0
  | k + 1 => if 1 ≤ k ∧ Lib.hasPrefix r (sgB k) = true then (k : Int) else opTo r k
theorem opTo_five (r : List UInt8) : opTo r 5 = opR r := by
  have e1 : sgB ((1 : Nat) : Int) = [61] := rfl
  have e2 : sgB ((2 : Nat) : Int) = [33, 61] := rfl
  have e3 : sgB ((3 : Nat) : Int) = [94, 61] := rfl
  have e4 : sgB ((4 : Nat) : Int) = [42, 61] := rfl
  simp only [opTo, e1, e2, e3, e4, opR]
  cases r with
  | nil => rfl
  | cons b r' =>
    by_cases h1 : b = 61
    · subst h1; simp [Lib.hasPrefix, List.isPrefixOf]
    by_cases h2 : b = 33
    · subst h2; simp [Lib.hasPrefix, List.isPrefixOf]
    by_cases h3 : b = 94
    · subst h3; simp [Lib.hasPrefix, List.isPrefixOf]
    have f1 : ((61 : UInt8) == b) = false := by simpa using fun e => h1 e.symm
    have f2 : ((33 : UInt8) == b) = false := by simpa using fun e => h2 e.symm
    have f3 : ((94 : UInt8) == b) = false := by simpa using fun e => h3 e.symm
    simp [Lib.hasPrefix, List.isPrefixOf, f1, f2, f3]
def RdPost2 (w : World) (r : List Rp × Nat) (e : Ending) (w' : World) : Prop :=
  ∃ A c, e = .returned (.tuple #[.slice A r.1.length c, .int .i64 (r.2 : Int)]) ∧ Rd w' w.heap.size (.slice A r.1.length c) r.1 ∧ Below w.heap.size w w'
theorem rd_none (w w' : World) (h : Below w.heap.size w w') : RdPost2 w ([], 0) (.returned (.tuple #[.slice none 0 0, .int .i64 0])) w' := ⟨none, 0, rfl, So.empty _ _ _ _ _, h⟩
theorem ret_slc2 {A : Option Addr} {n m c : Nat} {a b : Int} (h : n = m) (h2 : a = b) : Ending.returned (.tuple #[.slice A n c, .int .i64 a]) = .returned (.tuple #[.slice A m c, .int .i64 b]) := by rw [h, h2]
theorem stand_pre (t p : ByteArray) (k : Nat) (h : k ≤ t.size) : standZ t p k = Lib.hasPrefix (t.data.toList.drop k) p.data.toList := by rw [standZ_in h]; rfl

theorem stands_at (t p : ByteArray) (j : Nat) (i : Int) (w : World) (hi : i = (j : Int)) (hs : t.size ≤ 1048576) (hp : p.size ≤ 2) (hj : j ≤ t.size) :
    Calls Tryz.prog 65 #[.string t, .int .i64 i, .string p] w fun e w' => e = .returned (.bool (Lib.hasPrefix (t.data.toList.drop j) p.data.toList)) ∧ w = w' := by
  subst hi
  have h := stands_any t p j w (by omega) (by omega) (by omega)
  rw [stand_pre t p j hj] at h
  exact h
set_option maxRecDepth 100000 in
set_option maxHeartbeats 6400000 in
theorem rParseR_any (t : ByteArray) (w : World) (hs : t.size ≤ 1048576) : Calls Tryz.prog 31 #[.string t] w (RdPost2 w (docB t.data.toList)) := by
  have hl : t.data.toList.length = t.size := by simp
  have HP1 : Hid (∀ W, Calls Tryz.prog 65 #[.string t, .int .i64 0, .string ⟨#[123]⟩] W fun e w' => e = .returned (.bool (standZ t ⟨#[123]⟩ 0)) ∧ W = w') := Lib.hid (fun W => stands_any t ⟨#[123]⟩ 0 W (by omega) (by decide) (by decide))
  have e1 : standZ t ⟨#[123]⟩ 0 = Lib.hasPrefix t.data.toList [123] := standZ_zero _ _
  rw [e1] at HP1
  clear e1
  by_cases h1 : Lib.hasPrefix t.data.toList [123] = true
  rotate_left
  · have h1 : Lib.hasPrefix t.data.toList [123] = false := by simpa using h1
    have HR : Hid (docB t.data.toList = ([], 0)) := Lib.hid (by unfold docB; rw [if_neg (by rw [h1]; decide)])
    rw [h1] at HP1
    clear h1 hl
    go_enter Tryz.func31, Tryz.ntmps31
    go_wp2_with fail
    refine (HP1.out _).mono ?_
    rintro e w' ⟨rfl, rfl⟩
    go_wp2_with fail
    go_ret2
    rw [HR.out]
    exact rd_none _ _ (Below.refl _ _)
  have hpos : 1 ≤ t.size := by
    have := hasPrefix_len h1
    rw [hl] at this
    exact this
  have HP2 : Hid (∀ W, Calls Tryz.prog 65 #[.string t, .int .i64 1, .string ⟨#[125]⟩] W fun e w' => e = .returned (.bool (standZ t ⟨#[125]⟩ 1)) ∧ W = w') := Lib.hid (fun W => stands_any t ⟨#[125]⟩ 1 W (by omega) (by decide) (by decide))
  have e2 : standZ t ⟨#[125]⟩ 1 = Lib.hasPrefix (t.data.toList.drop 1) [125] := stand_pre _ _ _ hpos
  rw [e2] at HP2
  clear e2
  by_cases h2 : Lib.hasPrefix (t.data.toList.drop 1) [125] = true
  · have HR : Hid (docB t.data.toList = ([], 2)) := Lib.hid (by unfold docB; rw [if_pos h1, if_pos h2])
    rw [h1] at HP1
    rw [h2] at HP2
    clear h1 h2 hl
    go_enter Tryz.func31, Tryz.ntmps31
    go_wp2_with fail
    refine (HP1.out _).mono ?_
    rintro e w' ⟨rfl, rfl⟩
    go_wp2_with fail
    refine (HP2.out _).mono ?_
    rintro e w' ⟨rfl, rfl⟩
    go_wp2_with fail
    go_ret2
    rw [HR.out]
    exact ⟨none, 0, rfl, So.empty _ _ _ _ _, Below.refl _ _⟩
  have h2 : Lib.hasPrefix (t.data.toList.drop 1) [125] = false := by simpa using h2
  have HR : Hid (docB t.data.toList = docGo 17 (t.data.toList.drop 1) 1 []) := Lib.hid (by unfold docB; rw [if_pos h1, if_neg (by rw [h2]; decide)])
  rw [h1] at HP1
  rw [h2] at HP2
  generalize docB t.data.toList = R at *
  have HE := Lib.hid hl
  clear h1 h2 hl
  go_enter Tryz.func31, Tryz.ntmps31
  go_wp2_with fail
  refine (HP1.out _).mono ?_
  rintro e w' ⟨rfl, rfl⟩
  go_wp2_with fail
  refine (HP2.out _).mono ?_
  rintro e w' ⟨rfl, rfl⟩
  go_wp2_with fail
  clear HP1 HP2
  go_loopw [4, 5] (fun v i wr => ∃ (k n c : Nat) (A : Option Addr) (acc : List Rp), 1 ≤ k ∧ k ≤ t.size ∧ i = .int .i64 k ∧ v = .slice A n c ∧ n ≤ 17 ∧ Rd wr w.heap.size (.slice A n c) acc ∧ SmR acc ∧ Hid (R = docGo (17 - n) (t.data.toList.drop k) k acc) ∧ Below w.heap.size w wr) (fun _ i _ => t.size + 1 - (intOf i).toNat)
  case atStart => exact ⟨1, 0, 0, none, [], Nat.le_refl _, hpos, rfl, rfl, by omega, So.empty _ _ _ _ _, (fun x hx => by simp at hx), HR, Below.refl _ _⟩
  case round =>
    obtain ⟨k, n, c, A, acc, h1k, hk, rfl, rfl, hnk, hla, hsm, HT, hbl⟩ := hrel
    have z := hbl.size
    have hnl := (So.sr encR_len hla).2
    by_cases hn17 : n = 17
    · have HF : Hid (R = ([], 0)) := Lib.hid (by rw [HT.out, hn17]; rfl)
      subst hn17
      clear hnl
      go_wp2_with fail
      go_ret2
      rw [HF.out]
      exact rd_none _ _ hbl
    have hlt16 : n ≤ 16 := by omega
    have e17 : 17 - n = (17 - (n + 1)) + 1 := by omega
    have hgo := HT.out
    rw [e17, docGo] at hgo
    simp only [List.drop_drop] at hgo
    have HLT := Lib.hid (fun W => letters_any t k W (by omega) hk)
    have hll := letL_le (t.data.toList.drop k)
    rw [List.length_drop, HE.out] at hll
    have hNe : mkR ((t.data.toList.drop k).take (letL (t.data.toList.drop k))) = fun o v => (t.extract k (k + letL (t.data.toList.drop k)), o, ⟨v.toArray⟩) := by
      funext o v
      unfold mkR
      congr 1
      apply ByteArray.ext
      apply Array.toList_inj.1
      rw [Lib.extract_data, Nat.add_sub_cancel_left]
    rw [hNe] at hgo
    generalize letL (t.data.toList.drop k) = m at *
    have hNs : (t.extract k (k + m)).size ≤ t.size := by simp; omega
    have i1 : (k : Int) + m ≤ t.size := by omega
    have i2 : ((k : Int) + m).toNat = k + m := by omega
    have hko : k + m ≤ t.size := by omega
    have HST : Hid (∀ (p : ByteArray), p.size ≤ 2 → ∀ W, Calls Tryz.prog 65 #[.string t, .int .i64 ((k : Int) + m), .string p] W fun e w' => e = .returned (.bool (Lib.hasPrefix (t.data.toList.drop (k + m)) p.data.toList)) ∧ W = w') := Lib.hid (fun p hp W => by
      have h := stands_any t p (k + m) W (by omega) (by omega) (by omega)
      rw [stand_pre t p (k + m) hko, Int.natCast_add] at h
      exact h)
    have hol := opR_len (t.data.toList.drop (k + m))
    rw [List.length_drop, HE.out] at hol
    have hT5 := opTo_five (t.data.toList.drop (k + m))
    have HOT : Hid (∀ j : Nat, 1 ≤ j → opTo (t.data.toList.drop (k + m)) (j + 1) = if Lib.hasPrefix (t.data.toList.drop (k + m)) (sgB j) = true then (j : Int) else opTo (t.data.toList.drop (k + m)) j) := Lib.hid (fun j hj => by rw [opTo]; simp [hj])
    have HO1 : Hid (opTo (t.data.toList.drop (k + m)) 1 = 0) := Lib.hid (by simp [opTo])
    generalize opTo (t.data.toList.drop (k + m)) = ot at *
    generalize hpr : Lib.hasPrefix (t.data.toList.drop (k + m)) = pr at *
    clear hpr
    have HGO := Lib.hid hgo
    have HNL := Lib.hid hnl
    have HT5 := Lib.hid hT5
    have HM := Lib.hid hNe
    clear hgo hnl hT5 hNe e17
    have hla1 := hla
    have hbl0 := hbl
    clear hla hbl
    rename World => W0
    go_wp2_with (go_at_call 66; refine (HLT.out _).mono ?_; rintro e w' ⟨rfl, rfl⟩)
    go_loop [7, 8] (fun o i => ∃ j : Nat, 1 ≤ j ∧ j ≤ 5 ∧ i = .int .i64 j ∧ o = .int .i64 (ot j)) (fun _ i => 5 - (intOf i).toNat)
    case atStart => exact ⟨1, by decide, by decide, rfl, by rw [HO1.out]⟩
    case round =>
      obtain ⟨j, h1j, hj, rfl, rfl⟩ := hrel
      by_cases hj4 : j ≤ 4
      · have HS := Lib.hid (HST.out ⟨(sgB (j : Int)).toArray⟩ (by have := sgB_len (j : Int); simpa [ByteArray.size] using this))
        have hps : pr (⟨(sgB (j : Int)).toArray⟩ : ByteArray).data.toList = pr (sgB (j : Int)) := by simp
        rw [hps] at HS
        have hstep := HOT.out j h1j
        clear hps
        by_cases hb : pr (sgB (j : Int)) = true
        · rw [if_pos hb] at hstep
          have HN := Lib.hid hstep
          rw [hb] at HS
          clear hb hstep
          go_wp2_with fail
          refine (rSign_any _ _).mono ?_
          rintro e w' ⟨rfl, rfl⟩
          go_wp2_with fail
          refine (HS.out _).mono ?_
          rintro e w' ⟨rfl, rfl⟩
          go_wp2_with fail
          go_round
          case rel => exact ⟨j + 1, by omega, by omega, by go_num, by rw [HN.out]⟩
          case measure => simp [intOf]; omega
        · have hb : pr (sgB (j : Int)) = false := by simpa using hb
          rw [if_neg (by rw [hb]; decide)] at hstep
          have HN := Lib.hid hstep
          rw [hb] at HS
          clear hb hstep
          go_wp2_with fail
          refine (rSign_any _ _).mono ?_
          rintro e w' ⟨rfl, rfl⟩
          go_wp2_with fail
          refine (HS.out _).mono ?_
          rintro e w' ⟨rfl, rfl⟩
          go_wp2_with fail
          go_round
          case rel => exact ⟨j + 1, by omega, by omega, by go_num, by rw [HN.out]⟩
          case measure => simp [intOf]; omega
      · obtain rfl : j = 5 := by omega
        clear h1j hj hj4
        have h5 := HT5.out
        rw [h5]
        clear h5 HT5
        have hsl := sgB_len (opR (t.data.toList.drop (k + m)))
        have hgo := HGO.out
        clear HGO HOT HO1 HST
        generalize opR (t.data.toList.drop (k + m)) = o at *
        by_cases ho : o = 0
        · rw [if_pos ho] at hgo
          have HF := Lib.hid hgo
          subst ho
          clear hgo
          go_wp2_with fail
          go_ret2
          rw [HF.out]
          exact rd_none _ _ hbl0
        · rw [if_neg ho] at hgo
          have hsl2 : (⟨(sgB o).toArray⟩ : ByteArray).size = (sgB o).length := by simp [ByteArray.size]
          have hU : unqB (t.extract (k + m + (sgB o).length) t.size) = unqL (t.data.toList.drop (k + m + (sgB o).length)) := by
            unfold unqB
            rw [Lib.extract_data, List.take_of_length_le (by rw [List.length_drop]; simp)]
          have hu := fun W => rUnquote_any (t.extract (k + m + (sgB o).length) t.size) W (by simp; omega)
          rw [hU] at hu
          have hul := unqL_le (t.data.toList.drop (k + m + (sgB o).length))
          rw [List.length_drop, HE.out] at hul
          generalize unqL (t.data.toList.drop (k + m + (sgB o).length)) = u at *
          obtain ⟨uvl, un⟩ := u
          unfold UnqPost at hu
          simp only at hu hul hgo
          have hvs : (⟨uvl.toArray⟩ : ByteArray).size = uvl.length := by simp [ByteArray.size]
          have HSI := Lib.hid (fun W => rSign_any o W)
          generalize (⟨(sgB o).toArray⟩ : ByteArray) = sgs at *
          generalize (sgB o).length = sl at *
          subst hsl2
          generalize (⟨uvl.toArray⟩ : ByteArray) = uv at *
          have ea : k + (m + sgs.size + un) = k + m + sgs.size + un := by omega
          rw [ea] at hgo
          have HU := Lib.hid hu
          have c1 : (0 : Int) ≤ (k : Int) + m + sgs.size := by omega
          have c2 : (k : Int) + m + sgs.size ≤ t.size := by omega
          have c3 : ((k : Int) + m + sgs.size).toNat = k + m + sgs.size := by omega
          have c4 : (o == 0) = false := beq_eq_false_iff_ne.2 ho
          have hvz : uv.size ≤ t.size := by omega
          clear hu hU hvs ho HM hsl
          by_cases hun : un = 0
          · rw [if_pos hun] at hgo
            have HF := Lib.hid hgo
            subst hun
            clear hgo ea
            go_wp2_with fail
            refine (HSI.out _).mono ?_
            rintro e w' ⟨rfl, rfl⟩
            go_wp2_with fail
            refine (HU.out _).mono ?_
            rintro e w1 ⟨rfl, hb1⟩
            go_wp2_with fail
            go_ret2
            rw [HF.out]
            exact rd_none _ _ (hbl0.trans (hb1.mono z))
          · rw [if_neg hun] at hgo
            have hun1 : ((un : Int) == 0) = false := beq_eq_false_iff_ne.2 (by omega)
            have hle9 : k + m + sgs.size + un ≤ t.size := by omega
            have HSa := Lib.hid (fun W => stands_at t ⟨#[125]⟩ (k + m + sgs.size + un) ((k : Int) + m + sgs.size + un) W (by push_cast; rfl) hs (by decide) hle9)
            have HSb := Lib.hid (fun W => stands_at t ⟨#[44]⟩ (k + m + sgs.size + un) ((k : Int) + m + sgs.size + un) W (by push_cast; rfl) hs (by decide) hle9)
            have e3 : (⟨#[125]⟩ : ByteArray).data.toList = [125] := rfl
            have e4 : (⟨#[44]⟩ : ByteArray).data.toList = [44] := rfl
            rw [e3] at HSa
            rw [e4] at HSb
            have hsm2 : SmR (acc ++ [(t.extract k (k + m), o, uv)]) := fun x hx => by
              rcases List.mem_append.1 hx with h | h
              · exact hsm x h
              · simp at h; subst h; exact ⟨Nat.le_trans hNs hs, Nat.le_trans hvz hs⟩
            have hlen2 : (acc ++ [(t.extract k (k + m), o, uv)]).length = n + 1 := by rw [List.length_append, HNL.out]; rfl
            have HL2 := Lib.hid hlen2
            have HSM := Lib.hid hsm2
            have hrl : (t.data.toList.drop (k + m + sgs.size + un)).length = t.size - (k + m + sgs.size + un) := by rw [List.length_drop, HE.out]
            have d2 : (k : Int) + m + sgs.size + un ≤ t.size := by omega
            clear e3 e4 hsm2 hlen2 ea hun hsm
            by_cases hc : Lib.hasPrefix (t.data.toList.drop (k + m + sgs.size + un)) [125] = true
            · have hlt : k + m + sgs.size + un < t.size := by
                have := hasPrefix_len hc
                rw [hrl] at this
                simp at this
                omega
              rw [if_pos hc] at hgo
              rw [hc] at HSa
              clear hc hrl
              cases hr : rulesL (acc ++ [(t.extract k (k + m), o, uv)]) with
              | true =>
                rw [if_pos hr] at hgo
                have HF := Lib.hid hgo
                have HRL := Lib.hid hr
                clear hgo hr
                go_wp2_with fail
                refine (HSI.out _).mono ?_
                rintro e w' ⟨rfl, rfl⟩
                go_wp2_with fail
                refine (HU.out _).mono ?_
                rintro e w1 ⟨rfl, hb1⟩
                have B1 : Below w.heap.size w w1 := hbl0.trans (hb1.mono z)
                have z1 := B1.size
                have hla2 := So.below hla1 hb1
                clear hb1
                go_wp2_with (at_builtin; refine wpList_pushE Tryz.underlying22 info_dr rfl (by decide) w1 rfl (.tmp 51) (.tmp 61) rfl w.heap.size (.slice A n c) acc rfl hla2 (t.extract k (k + m), o, uv) _ rfl rfl (encR_one _) _ w1.heap.size rfl rfl (n + 1) (by rw [HNL.out]) (by unfold maxLen; omega) (by omega) (by omega) ?_; intro A3 c3 w3 hps3 hgrow3 hat3; have B3 : Below w.heap.size w w3 := grown_belowE B1 hgrow3 z1 (fun _ h => (hla2.lt _ h).1); clear hgrow3 hat3)
                refine (HSI.out _).mono ?_
                rintro e w' ⟨rfl, rfl⟩
                go_wp2_with fail
                refine (HSa.out _).mono ?_
                rintro e w' ⟨rfl, rfl⟩
                go_wp2_with fail
                have HC := Lib.hid (rRightR_any w3.heap.size A3 (n + 1) c3 (acc ++ [(t.extract k (k + m), o, uv)]) w3 HL2.out (So.sr encR_len hps3).1 (Nat.le_refl _) HSM.out)
                rw [HRL.out] at HC
                refine HC.out.mono ?_
                rintro e w4 ⟨rfl, hb4⟩
                have hps4 := So.below hps3 hb4
                have B4 := B3.trans (hb4.mono B3.size)
                go_wp2_with fail
                go_ret2
                rw [HF.out]
                refine ⟨A3, c3, ?_, ?_, B4⟩
                · rw [HL2.out]; exact ret_slc2 rfl (by push_cast; omega)
                · rw [HL2.out]; exact hps4
              | false =>
                rw [if_neg (by rw [hr]; decide)] at hgo
                have HF := Lib.hid hgo
                have HRL := Lib.hid hr
                clear hgo hr
                go_wp2_with fail
                refine (HSI.out _).mono ?_
                rintro e w' ⟨rfl, rfl⟩
                go_wp2_with fail
                refine (HU.out _).mono ?_
                rintro e w1 ⟨rfl, hb1⟩
                have B1 : Below w.heap.size w w1 := hbl0.trans (hb1.mono z)
                have z1 := B1.size
                have hla2 := So.below hla1 hb1
                clear hb1
                go_wp2_with (at_builtin; refine wpList_pushE Tryz.underlying22 info_dr rfl (by decide) w1 rfl (.tmp 51) (.tmp 61) rfl w.heap.size (.slice A n c) acc rfl hla2 (t.extract k (k + m), o, uv) _ rfl rfl (encR_one _) _ w1.heap.size rfl rfl (n + 1) (by rw [HNL.out]) (by unfold maxLen; omega) (by omega) (by omega) ?_; intro A3 c3 w3 hps3 hgrow3 hat3; have B3 : Below w.heap.size w w3 := grown_belowE B1 hgrow3 z1 (fun _ h => (hla2.lt _ h).1); clear hgrow3 hat3)
                refine (HSI.out _).mono ?_
                rintro e w' ⟨rfl, rfl⟩
                go_wp2_with fail
                refine (HSa.out _).mono ?_
                rintro e w' ⟨rfl, rfl⟩
                go_wp2_with fail
                have HC := Lib.hid (rRightR_any w3.heap.size A3 (n + 1) c3 (acc ++ [(t.extract k (k + m), o, uv)]) w3 HL2.out (So.sr encR_len hps3).1 (Nat.le_refl _) HSM.out)
                rw [HRL.out] at HC
                refine HC.out.mono ?_
                rintro e w4 ⟨rfl, hb4⟩
                have B4 := B3.trans (hb4.mono B3.size)
                go_wp2_with fail
                go_ret2
                rw [HF.out]
                exact rd_none _ _ B4
            · have hc : Lib.hasPrefix (t.data.toList.drop (k + m + sgs.size + un)) [125] = false := by simpa using hc
              rw [if_neg (by rw [hc]; decide)] at hgo
              rw [hc] at HSa
              clear hc
              by_cases hd : Lib.hasPrefix (t.data.toList.drop (k + m + sgs.size + un)) [44] = true
              · have hlt : k + m + sgs.size + un < t.size := by
                  have := hasPrefix_len hd
                  rw [hrl] at this
                  simp at this
                  omega
                rw [if_pos hd, show k + (m + sgs.size + un + 1) = k + m + sgs.size + un + 1 by omega] at hgo
                rw [hd] at HSb
                have HF := Lib.hid hgo
                clear hgo hd hrl
                go_wp2_with fail
                refine (HSI.out _).mono ?_
                rintro e w' ⟨rfl, rfl⟩
                go_wp2_with fail
                refine (HU.out _).mono ?_
                rintro e w1 ⟨rfl, hb1⟩
                have B1 : Below w.heap.size w w1 := hbl0.trans (hb1.mono z)
                have z1 := B1.size
                have hla2 := So.below hla1 hb1
                clear hb1
                go_wp2_with (at_builtin; refine wpList_pushE Tryz.underlying22 info_dr rfl (by decide) w1 rfl (.tmp 51) (.tmp 61) rfl w.heap.size (.slice A n c) acc rfl hla2 (t.extract k (k + m), o, uv) _ rfl rfl (encR_one _) _ w1.heap.size rfl rfl (n + 1) (by rw [HNL.out]) (by unfold maxLen; omega) (by omega) (by omega) ?_; intro A3 c3 w3 hps3 hgrow3 hat3; have B3 : Below w.heap.size w w3 := grown_belowE B1 hgrow3 z1 (fun _ h => (hla2.lt _ h).1); clear hgrow3 hat3)
                refine (HSI.out _).mono ?_
                rintro e w' ⟨rfl, rfl⟩
                go_wp2_with fail
                refine (HSa.out _).mono ?_
                rintro e w' ⟨rfl, rfl⟩
                go_wp2_with fail
                refine (HSb.out _).mono ?_
                rintro e w' ⟨rfl, rfl⟩
                go_wp2_with fail
                go_roundw
                case rel => exact ⟨k + m + sgs.size + un + 1, n + 1, c3, A3, _, by omega, by omega, by go_num, rfl, by omega, hps3, HSM.out, HF, B3⟩
                case measure => simp [intOf]; omega
              · have hd : Lib.hasPrefix (t.data.toList.drop (k + m + sgs.size + un)) [44] = false := by simpa using hd
                rw [if_neg (by rw [hd]; decide)] at hgo
                rw [hd] at HSb
                have HF := Lib.hid hgo
                clear hgo hd hrl
                go_wp2_with fail
                refine (HSI.out _).mono ?_
                rintro e w' ⟨rfl, rfl⟩
                go_wp2_with fail
                refine (HU.out _).mono ?_
                rintro e w1 ⟨rfl, hb1⟩
                have B1 : Below w.heap.size w w1 := hbl0.trans (hb1.mono z)
                have z1 := B1.size
                have hla2 := So.below hla1 hb1
                clear hb1
                go_wp2_with (at_builtin; refine wpList_pushE Tryz.underlying22 info_dr rfl (by decide) w1 rfl (.tmp 51) (.tmp 61) rfl w.heap.size (.slice A n c) acc rfl hla2 (t.extract k (k + m), o, uv) _ rfl rfl (encR_one _) _ w1.heap.size rfl rfl (n + 1) (by rw [HNL.out]) (by unfold maxLen; omega) (by omega) (by omega) ?_; intro A3 c3 w3 hps3 hgrow3 hat3; have B3 : Below w.heap.size w w3 := grown_belowE B1 hgrow3 z1 (fun _ h => (hla2.lt _ h).1); clear hgrow3 hat3)
                refine (HSI.out _).mono ?_
                rintro e w' ⟨rfl, rfl⟩
                go_wp2_with fail
                refine (HSa.out _).mono ?_
                rintro e w' ⟨rfl, rfl⟩
                go_wp2_with fail
                refine (HSb.out _).mono ?_
                rintro e w' ⟨rfl, rfl⟩
                go_wp2_with fail
                go_ret2
                rw [HF.out]
                exact rd_none _ _ B3
end Go.Proofs.YtcmpenmaphmifaaGreatDoor
