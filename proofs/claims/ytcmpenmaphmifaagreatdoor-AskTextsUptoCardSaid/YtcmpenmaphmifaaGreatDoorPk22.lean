/- The document's Stands, One and All. -/
import Derived.Test.YtcmpenmaphmifaaGreatDoorPk18
import Derived.Test.YtcmpenmaphmifaaGreatDoorPk21
import Derived.Test.YtcmpenmaphmifaaGreatDoorPk16
import Derived.Test.YtcmpenmaphmifaaGreatDoorPk6
import Derived.Test.YtcmpenmaphmifaaGreatDoorPk0
import Derived.Test.YtcmpenmaphmifaaGreatDoorPk5
import Derived.Test.YtcmpenmaphmifaaGreatDoorPk11
namespace Go.Proofs.YtcmpenmaphmifaaGreatDoor
open Go.RowKit Go.BigFrame

/-- A place in a text, or none. -/
def atI (x : Option Nat) : Int := match x with
  | none => -1
  | some k => (k : Int)
/-- The number behind a place, and the place behind it. -/
def numStep (T : List UInt8) (x : Option Nat) : Int × Option Nat := match x with
  | none => (0, none)
  | some k => match numZ (T.drop k) with
    | none => (0, none)
    | some (v, u) => (v, some (k + u))
theorem numberM_any (s : ByteArray) (M : Int) (w : World) (hM : (9223372036854775807 : Int) = M) : Calls Tryz.prog 69 #[.string s, .int .u64 M] w (NumPost w s.data.toList 9223372036854775807) := by
  have h := number_any s 9223372036854775807 w (Nat.le_refl _)
  have e : ((9223372036854775807 : Nat) : Int) = M := hM
  rw [e] at h
  exact h
theorem numOf_run_none {d : List UInt8} (hd : ∀ y ∈ d, 48 ≤ y.toNat ∧ y.toNat ≤ 57) (h : ∀ m, m ≤ 9223372036854775807 → d ≠ dec m) : numOf d = none := by
  cases hn : numOf d with
  | none => rfl
  | some v =>
    obtain ⟨e, _, v2, _⟩ := numOf_some hn
    have hv : 0 ≤ v := by
      rcases Int.lt_or_le v 0 with h9 | h9
      · rw [e, itoa_neg h9] at hd
        have := hd 45 List.mem_cons_self
        simp at this
      · exact h9
    obtain ⟨n, rfl⟩ := Int.eq_ofNat_of_zero_le hv
    rw [itoa_nat] at e
    exact absurd e (h n (by omega))
theorem runB_next {T : List UInt8} {e : Nat} (he : e < T.length) (hd : 48 ≤ (T[e]).toNat ∧ (T[e]).toNat ≤ 57) : runB (T.drop e) = T[e] :: runB (T.drop (e + 1)) := by
  rw [List.drop_eq_getElem_cons he]
  conv => lhs; unfold runB
  rw [if_pos hd]
theorem runB_end {T : List UInt8} {e : Nat} (h : T.length ≤ e ∨ ∃ he : e < T.length, ¬ (48 ≤ (T[e]).toNat ∧ (T[e]).toNat ≤ 57)) : runB (T.drop e) = [] := by
  rcases h with h | ⟨he, h⟩
  · rw [List.drop_eq_nil_of_le h]
    rfl
  · rw [List.drop_eq_getElem_cons he]
    unfold runB
    rw [if_neg h]
theorem byte_at (t : ByteArray) (k : Nat) (h : k < t.size) : t.data.toList[k]'(by simpa using h) = t[k] := by
  simp
  rfl
set_option maxRecDepth 100000 in
set_option maxHeartbeats 1600000 in
theorem rnumber_any (t : ByteArray) (x : Option Nat) (w : World) (hs : t.size ≤ 1048576) (hx : ∀ k, x = some k → k ≤ t.size) :
    Calls Tryz.prog 32 #[.string t, .int .i64 (atI x)] w fun e w' => e = .returned (.tuple #[.int .i64 (numStep t.data.toList x).1, .int .i64 (atI (numStep t.data.toList x).2)]) ∧ w = w' := by
  cases x with
  | none =>
    go_enter Tryz.func32, Tryz.ntmps32
    go_wp2
    go_ret2
    exact ⟨rfl, rfl⟩
  | some k =>
    have hk := hx k rfl
    have htl : t.data.toList.length = t.size := by simp
    clear hx
    obtain ⟨T, hT⟩ : ∃ T, T = t.data.toList := ⟨_, rfl⟩
    rw [← hT] at htl ⊢
    have e0 : decide ((k : Int) < 0) = false := by simp
    have i0 : 0 ≤ (k : Int) := by omega
    show Calls Tryz.prog 32 #[.string t, .int .i64 (k : Int)] w _
    by_cases h1 : k = t.size
    · have HF : Hid (numStep T (some k) = (0, none)) := Lib.hid (by unfold numStep; simp only; rw [List.drop_eq_nil_of_le (by omega)]; rfl)
      have e1 : decide ((t.size : Int) ≤ (k : Int)) = true := by simp; omega
      have e1n : decide (t.size ≤ k) = true := by simp; omega
      clear htl hT h1 hk
      go_enter Tryz.func32, Tryz.ntmps32
      go_wp2
      go_ret2
      exact ⟨by rw [HF.out]; rfl, rfl⟩
    · have hkl : k < t.size := by omega
      have e1 : decide ((t.size : Int) ≤ (k : Int)) = false := by simp; omega
      have e1n : decide (t.size ≤ k) = false := by simp; omega
      have i1 : (k : Int) < (t.size : Int) := by omega
      have hTk : T[k]'(by omega) = t[k] := by
        have := byte_at t k hkl
        simpa [hT] using this
      by_cases h2 : t[k] = 32
      · have e2 : (((t[k]).toNat : Int) != 32) = false := by rw [h2]; rfl
        have e2b : (((t[k]).toNat : Int) == 32) = true := by rw [h2]; rfl
        have hdr : T.drop k = 32 :: T.drop (k + 1) := by rw [List.drop_eq_getElem_cons (by omega), hTk, h2]
        have HNZ : Hid (numZ (T.drop k) = (numOf (runB (T.drop (k + 1)))).map fun v => (v, 1 + (runB (T.drop (k + 1))).length)) := Lib.hid (by
          rw [hdr]
          unfold numZ
          simp only
          rw [if_pos trivial])
        have HT := Lib.hid hT
        have HTL := Lib.hid htl
        have hks : (k : Int) < 1048577 := by omega
        have HSZ := Lib.hid hs
        clear hTk h2 hdr hT htl hk h1
        go_enter Tryz.func32, Tryz.ntmps32
        go_wp2_with fail
        go_loop [6] (fun i => ∃ f : Nat, i = .int .i64 (f : Int) ∧ k + 1 ≤ f ∧ f ≤ t.size ∧ Hid (runB (T.drop (k + 1)) = (T.drop (k + 1)).take (f - (k + 1)) ++ runB (T.drop f))) (fun i => t.size - (intOf i).toNat)
        case atStart => exact ⟨k + 1, by go_num, Nat.le_refl _, hkl, Lib.hid (by simp)⟩
        case round =>
          obtain ⟨f, rfl, hkf, hfs, HQ⟩ := hrel
          clear e0 e1 e1n e2 e2b
          have i2 : 0 ≤ (f : Int) := by omega
          by_cases hlt : f < t.size
          · have ilt : (f : Int) < (t.size : Int) := by omega
            have hTf : T[f]'(by have := HTL.out; omega) = t[f] := by
              have := byte_at t f hlt
              have h := HT.out
              simpa [h] using this
            by_cases hlo : (t[f]).toNat < 48
            · have q1 : decide ((48 : Int) ≤ ((t[f]).toNat : Int)) = false := decide_eq_false (by omega)
              have q1n : decide (48 ≤ (t[f]).toNat) = false := decide_eq_false (by omega)
              have HRUN : Hid (runB (T.drop (k + 1)) = (T.drop (k + 1)).take (f - (k + 1))) := Lib.hid (by
                have h := HQ.out
                rw [runB_end (T := T) (e := f) (.inr ⟨by have := HTL.out; omega, by rw [hTf]; omega⟩), List.append_nil] at h
                exact h)

              clear HQ hTf hlo
              have hde : (t.extract (k + 1) f).data.toList = runB (T.drop (k + 1)) := by rw [Lib.extract_data, ← HT.out, HRUN.out]
              have hrl : (runB (T.drop (k + 1))).length = f - (k + 1) := by
                rw [HRUN.out, List.length_take, List.length_drop]
                have := HTL.out
                omega
              have HDIG := Lib.hid (runB_dig (T.drop (k + 1)))
              have HC := Lib.hid (numberM_any (t.extract (k + 1) f) 9223372036854775807 w rfl)
              rw [hde] at HC
              generalize runB (T.drop (k + 1)) = d at HC HNZ HDIG hrl
              have i3 : (k : Int) + 1 ≤ (f : Int) := by omega
              have i4 : (f : Int) ≤ (t.size : Int) := by omega
              have HRL := Lib.hid hrl
              clear hde hrl HRUN
              go_wp2_with fail
              refine HC.out.mono ?_
              rintro e9 w' ⟨rfl, n, ok, rfl, hn⟩
              cases ok with
              | false =>
                have HF : Hid (numStep T (some k) = (0, none)) := Lib.hid (by
                  unfold numStep
                  simp only
                  rw [HNZ.out, numOf_run_none HDIG.out (hn.2 rfl)]
                  rfl)
                clear hn
                go_wp2
                go_ret2
                exact ⟨by rw [HF.out]; rfl, rfl⟩
              | true =>
                obtain ⟨hn1, hn2⟩ := hn.1 rfl
                have hw : IntKind.i64.wrap (n : Int) = (n : Int) := by
                  simp only [IntKind.wrap, IntKind.signed, IntKind.bits]
                  simp
                  omega
                have HF : Hid (numStep T (some k) = ((n : Int), some f)) := Lib.hid (by
                  unfold numStep
                  simp only
                  rw [HNZ.out, hn2, numOf_dec n hn1]
                  have h1 := HRL.out
                  rw [hn2] at h1
                  simp only [Option.map_some, Prod.mk.injEq, true_and, Option.some.injEq]
                  omega)
                clear hn hn1 hn2
                go_wp2
                go_ret2
                exact ⟨by rw [HF.out]; rfl, rfl⟩

            · by_cases hhi : 57 < (t[f]).toNat
              · have q1 : decide ((48 : Int) ≤ ((t[f]).toNat : Int)) = true := decide_eq_true (by omega)
                have q2 : decide (((t[f]).toNat : Int) ≤ 57) = false := decide_eq_false (by omega)
                have HRUN : Hid (runB (T.drop (k + 1)) = (T.drop (k + 1)).take (f - (k + 1))) := Lib.hid (by
                  have h := HQ.out
                  rw [runB_end (T := T) (e := f) (.inr ⟨by have := HTL.out; omega, by rw [hTf]; omega⟩), List.append_nil] at h
                  exact h)

                clear HQ hTf hlo hhi
                have hde : (t.extract (k + 1) f).data.toList = runB (T.drop (k + 1)) := by rw [Lib.extract_data, ← HT.out, HRUN.out]
                have hrl : (runB (T.drop (k + 1))).length = f - (k + 1) := by
                  rw [HRUN.out, List.length_take, List.length_drop]
                  have := HTL.out
                  omega
                have HDIG := Lib.hid (runB_dig (T.drop (k + 1)))
                have HC := Lib.hid (numberM_any (t.extract (k + 1) f) 9223372036854775807 w rfl)
                rw [hde] at HC
                generalize runB (T.drop (k + 1)) = d at HC HNZ HDIG hrl
                have i3 : (k : Int) + 1 ≤ (f : Int) := by omega
                have i4 : (f : Int) ≤ (t.size : Int) := by omega
                have HRL := Lib.hid hrl
                clear hde hrl HRUN
                go_wp2_with fail
                refine HC.out.mono ?_
                rintro e9 w' ⟨rfl, n, ok, rfl, hn⟩
                cases ok with
                | false =>
                  have HF : Hid (numStep T (some k) = (0, none)) := Lib.hid (by
                    unfold numStep
                    simp only
                    rw [HNZ.out, numOf_run_none HDIG.out (hn.2 rfl)]
                    rfl)
                  clear hn
                  go_wp2
                  go_ret2
                  exact ⟨by rw [HF.out]; rfl, rfl⟩
                | true =>
                  obtain ⟨hn1, hn2⟩ := hn.1 rfl
                  have hw : IntKind.i64.wrap (n : Int) = (n : Int) := by
                    simp only [IntKind.wrap, IntKind.signed, IntKind.bits]
                    simp
                    omega
                  have HF : Hid (numStep T (some k) = ((n : Int), some f)) := Lib.hid (by
                    unfold numStep
                    simp only
                    rw [HNZ.out, hn2, numOf_dec n hn1]
                    have h1 := HRL.out
                    rw [hn2] at h1
                    simp only [Option.map_some, Prod.mk.injEq, true_and, Option.some.injEq]
                    omega)
                  clear hn hn1 hn2
                  go_wp2
                  go_ret2
                  exact ⟨by rw [HF.out]; rfl, rfl⟩

              · have q1 : decide ((48 : Int) ≤ ((t[f]).toNat : Int)) = true := decide_eq_true (by omega)
                have q2 : decide (((t[f]).toNat : Int) ≤ 57) = true := decide_eq_true (by omega)
                have HQ2 : Hid (runB (T.drop (k + 1)) = (T.drop (k + 1)).take (f + 1 - (k + 1)) ++ runB (T.drop (f + 1))) := Lib.hid (by
                  have h := HQ.out
                  have hl := HTL.out
                  have hfl : f < T.length := by omega
                  rw [runB_next hfl (by rw [hTf]; omega)] at h
                  rw [h]
                  have e : f + 1 - (k + 1) = (f - (k + 1)) + 1 := by omega
                  have hg : f - (k + 1) < (T.drop (k + 1)).length := by rw [List.length_drop]; omega
                  rw [e, List.take_succ_eq_append_getElem hg]
                  simp only [List.getElem_drop, List.append_assoc, List.singleton_append]
                  congr 2
                  congr 1
                  omega)
                have hf2 : (f : Int) < 1048577 := by have := HSZ.out; omega
                clear HQ hTf hlo hhi
                go_wp2_with fail
                go_round
                case rel => exact ⟨f + 1, by go_num, by omega, hlt, HQ2⟩
                case measure => simp [intOf]; omega
          · have ilt : ¬ (f : Int) < (t.size : Int) := by omega
            have HRUN : Hid (runB (T.drop (k + 1)) = (T.drop (k + 1)).take (f - (k + 1))) := Lib.hid (by
              have h := HQ.out
              rw [runB_end (T := T) (e := f) (.inl (by have := HTL.out; omega)), List.append_nil] at h
              exact h)

            clear HQ
            have hde : (t.extract (k + 1) f).data.toList = runB (T.drop (k + 1)) := by rw [Lib.extract_data, ← HT.out, HRUN.out]
            have hrl : (runB (T.drop (k + 1))).length = f - (k + 1) := by
              rw [HRUN.out, List.length_take, List.length_drop]
              have := HTL.out
              omega
            have HDIG := Lib.hid (runB_dig (T.drop (k + 1)))
            have HC := Lib.hid (numberM_any (t.extract (k + 1) f) 9223372036854775807 w rfl)
            rw [hde] at HC
            generalize runB (T.drop (k + 1)) = d at HC HNZ HDIG hrl
            have i3 : (k : Int) + 1 ≤ (f : Int) := by omega
            have i4 : (f : Int) ≤ (t.size : Int) := by omega
            have HRL := Lib.hid hrl
            clear hde hrl HRUN
            go_wp2_with fail
            refine HC.out.mono ?_
            rintro e9 w' ⟨rfl, n, ok, rfl, hn⟩
            cases ok with
            | false =>
              have HF : Hid (numStep T (some k) = (0, none)) := Lib.hid (by
                unfold numStep
                simp only
                rw [HNZ.out, numOf_run_none HDIG.out (hn.2 rfl)]
                rfl)
              clear hn
              go_wp2
              go_ret2
              exact ⟨by rw [HF.out]; rfl, rfl⟩
            | true =>
              obtain ⟨hn1, hn2⟩ := hn.1 rfl
              have hw : IntKind.i64.wrap (n : Int) = (n : Int) := by
                simp only [IntKind.wrap, IntKind.signed, IntKind.bits]
                simp
                omega
              have HF : Hid (numStep T (some k) = ((n : Int), some f)) := Lib.hid (by
                unfold numStep
                simp only
                rw [HNZ.out, hn2, numOf_dec n hn1]
                have h1 := HRL.out
                rw [hn2] at h1
                simp only [Option.map_some, Prod.mk.injEq, true_and, Option.some.injEq]
                omega)
              clear hn hn1 hn2
              go_wp2
              go_ret2
              exact ⟨by rw [HF.out]; rfl, rfl⟩

      · have HF : Hid (numStep T (some k) = (0, none)) := Lib.hid (by
          unfold numStep
          simp only
          rw [List.drop_eq_getElem_cons (by omega), hTk]
          unfold numZ
          simp only
          rw [if_neg h2])
        have h3 : ((t[k]).toNat : Int) ≠ 32 := fun e => h2 (UInt8.toNat_inj.1 (by
          have h32 : (32 : UInt8).toNat = 32 := rfl
          rw [h32]
          omega))
        have e2 : (((t[k]).toNat : Int) != 32) = true := by simpa using h3
        have e2b : (((t[k]).toNat : Int) == 32) = false := by simpa using h3
        clear htl hT h1 h2 h3 hTk hk
        go_enter Tryz.func32, Tryz.ntmps32
        go_wp2
        go_ret2
        exact ⟨by rw [HF.out]; rfl, rfl⟩
end Go.Proofs.YtcmpenmaphmifaaGreatDoor
namespace Go.Proofs.YtcmpenmaphmifaaGreatDoor
open Go.RowKit

theorem nameB_one (t : ByteArray) (j : Nat) (h : j < t.size) : nameB (t.extract j (j + 1)) = letN ((t[j]).toNat : Int) := by
  have hl : (t.extract j (j + 1)).data.toList = [t[j]] := by
    rw [Lib.extract_data, Nat.add_sub_cancel_left, List.drop_eq_getElem_cons (by simpa using h)]
    rfl
  have hs : (t.extract j (j + 1)).size = 1 := by simp; omega
  unfold nameB
  rw [hs]
  have : byteAt (t.extract j (j + 1)) 0 = ((t[j]).toNat : Int) := by unfold byteAt; rw [hl]; rfl
  simp [nameTo, nameC, this]
theorem letL_cons (c : UInt8) (r : List UInt8) : letL (c :: r) = if nchB c = true then letL r + 1 else 0 := by
  unfold letL
  rw [List.takeWhile_cons]
  split <;> rfl
theorem letL_at {t : ByteArray} {j : Nat} (h : j < t.size) : letL (t.data.toList.drop j) = if nchB t[j] = true then letL (t.data.toList.drop (j + 1)) + 1 else 0 := by
  rw [drop_byte t j h, letL_cons]

set_option maxRecDepth 100000 in
set_option maxHeartbeats 1600000 in
theorem letters_any (t : ByteArray) (k : Nat) (w : World) (hs : t.size ≤ 4000000000) (hk : k ≤ t.size) : Calls Tryz.prog 66 #[.string t, .int .i64 (k : Int)] w fun e w' => e = .returned (.int .i64 (letL (t.data.toList.drop k) : Nat)) ∧ w = w' := by
  go_enter Tryz.func66, Tryz.ntmps66
  go_wp2
  go_loop [5] (fun i => ∃ n : Nat, k + n ≤ t.size ∧ i = .int .i64 n ∧ Hid (letL (t.data.toList.drop k) = n + letL (t.data.toList.drop (k + n)))) (fun i => t.size - k - (intOf i).toNat)
  case atStart => exact ⟨0, by omega, rfl, Lib.hid (by simp)⟩
  case round =>
    obtain ⟨n, hn, rfl, HT⟩ := hrel
    have i0 : (0 : Int) ≤ (k : Int) + n := by omega
    have i5 : (k : Int) + n + 1 ≤ 9223372036854775807 := by omega
    by_cases hlt : k + n < t.size
    · have i1 : (k : Int) + n < t.size := by omega
      have i2 : (k : Int) + n + 1 ≤ t.size := by omega
      have i3 : ((k : Int) + n).toNat = k + n := by omega
      have i4 : ((k : Int) + n + 1).toNat = k + n + 1 := by omega
      have hat := letL_at hlt
      have hch : nchB t[k + n] = (letN ((t[k + n]).toNat : Int) || digN ((t[k + n]).toNat : Int)) := rfl
      have HC := Lib.hid (fun W => rIsName_any (t.extract (k + n) (k + n + 1)) W (by simp [maxLen]; omega))
      rw [nameB_one t (k + n) hlt] at HC
      by_cases hl : letN ((t[k + n]).toNat : Int) = true
      · have HN : Hid (letL (t.data.toList.drop k) = n + 1 + letL (t.data.toList.drop (k + n + 1))) := Lib.hid (by
          rw [HT.out, hat, if_pos (by rw [hch, hl]; rfl)]; omega)
        rw [hl] at HC
        clear hat hch hl
        go_wp2_with (go_at_call 72; refine (HC.out _).mono ?_; rintro e w' ⟨rfl, rfl⟩)
        go_round
        case rel => exact ⟨n + 1, by omega, by go_num, HN⟩
        case measure => simp [intOf]; omega
      · have hl : letN ((t[k + n]).toNat : Int) = false := by simpa using hl
        rw [hl] at HC
        by_cases hd : digN ((t[k + n]).toNat : Int) = true
        · have HN : Hid (letL (t.data.toList.drop k) = n + 1 + letL (t.data.toList.drop (k + n + 1))) := Lib.hid (by
            rw [HT.out, hat, if_pos (by rw [hch, hd, Bool.or_true])]; omega)
          have d1 : 48 ≤ ((t[k + n]).toNat : Int) ∧ ((t[k + n]).toNat : Int) ≤ 57 := by simpa [digN] using hd
          obtain ⟨d1, d2⟩ := d1
          clear hat hch hl hd
          go_wp2_with (go_at_call 72; refine (HC.out _).mono ?_; rintro e w' ⟨rfl, rfl⟩)
          go_round
          case rel => exact ⟨n + 1, by omega, by go_num, HN⟩
          case measure => simp [intOf]; omega
        · have hd : digN ((t[k + n]).toNat : Int) = false := by simpa using hd
          have HF : Hid (letL (t.data.toList.drop k) = n) := Lib.hid (by
            rw [HT.out, hat, if_neg (by rw [hch, hl, hd]; decide)]; rfl)
          have d0 : ¬ (48 ≤ ((t[k + n]).toNat : Int) ∧ ((t[k + n]).toNat : Int) ≤ 57) := by simpa [digN] using hd
          clear hat hch hl hd
          by_cases d1 : 48 ≤ ((t[k + n]).toNat : Int)
          · have d2 : decide (((t[k + n]).toNat : Int) ≤ 57) = false := decide_eq_false (fun h => d0 ⟨d1, h⟩)
            have d3 : decide (48 ≤ ((t[k + n]).toNat : Int)) = true := decide_eq_true d1
            clear d0 d1
            go_wp2_with (go_at_call 72; refine (HC.out _).mono ?_; rintro e w' ⟨rfl, rfl⟩)
            go_ret
            exact ⟨by rw [HF.out]; rfl, rfl⟩
          · have d3 : decide (48 ≤ ((t[k + n]).toNat : Int)) = false := decide_eq_false d1
            clear d0 d1
            go_wp2_with (go_at_call 72; refine (HC.out _).mono ?_; rintro e w' ⟨rfl, rfl⟩)
            go_ret
            exact ⟨by rw [HF.out]; rfl, rfl⟩
    · have i1 : ¬ (k : Int) + n < t.size := by omega
      have HF : Hid (letL (t.data.toList.drop k) = n) := Lib.hid (by
        rw [HT.out, List.drop_of_length_le (by simp; omega)]; rfl)
      go_wp2_with fail
      go_ret
      exact ⟨by rw [HF.out]; rfl, rfl⟩
end Go.Proofs.YtcmpenmaphmifaaGreatDoor
namespace Go.Proofs.YtcmpenmaphmifaaGreatDoor
open Go.RowKit

def standZ (s p : ByteArray) (i : Nat) : Bool := decide (i + p.size ≤ s.size) && standB s.data.toList i p.data.toList
theorem standZ_in {s p : ByteArray} {i : Nat} (h : i ≤ s.size) : standZ s p i = standB s.data.toList i p.data.toList := by
  unfold standZ
  by_cases hl : i + p.size ≤ s.size
  · simp [hl]
  · have e1 : s.data.toList.length = s.size := by simp
    have e2 : p.data.toList.length = p.size := by simp
    rcases standB_long (s := s.data.toList) (p := p.data.toList) (i := i) (by omega) with h1 | h1
    · rw [h1]; simp
    · rw [h1] at e2
      exact absurd (show i + p.size ≤ s.size by rw [← e2]; simpa using h) hl
theorem standZ_zero (s p : ByteArray) : standZ s p 0 = Lib.hasPrefix s.data.toList p.data.toList := by
  rw [standZ_in (Nat.zero_le _), standB, List.drop_zero]; rfl
theorem ext_stand {s p : ByteArray} {i : Nat} (h : i + p.size ≤ s.size) : ((s.extract i (i + p.size)).toList == p.toList) = standZ s p i := by
  have e : i + p.size - i = p.data.toList.length := by simp
  rw [Lib.extract_toList, Lib.toList_data, e, standB_take]
  unfold standZ
  rw [decide_eq_true h]; rfl

set_option maxHeartbeats 1600000 in
theorem stands_any (s p : ByteArray) (i : Nat) (w : World) (hs : s.size ≤ 1000000000000) (hp : p.size ≤ 1000000000000) (hi : i ≤ 1000000000000) :
    Calls Tryz.prog 65 #[.string s, .int .i64 (i : Int), .string p] w fun e w' => e = .returned (.bool (standZ s p i)) ∧ w = w' := by
  by_cases h : i + p.size ≤ s.size
  · have HF := Lib.hid (ext_stand h)
    have i1 : (i : Int) ≤ (s.size : Int) - p.size := by omega
    have i2 : (i : Int) + p.size ≤ s.size := by omega
    have i3 : (0 : Int) ≤ (i : Int) + p.size := by omega
    have i4 : ((i : Int) + p.size).toNat = i + p.size := by omega
    go_enter Tryz.func65, Tryz.ntmps65
    go_wp2
    go_ret
    exact ⟨ret_bool HF.out, rfl⟩
  · have HF : Hid (standZ s p i = false) := Lib.hid (by unfold standZ; rw [decide_eq_false h]; rfl)
    have i1 : ¬ (i : Int) ≤ (s.size : Int) - p.size := by omega
    go_enter Tryz.func65, Tryz.ntmps65
    go_wp2
    go_ret
    exact ⟨ret_bool HF.out.symm, rfl⟩

theorem holdB_four {xv v : ByteArray} : holdB 4 xv v = standTo v.data.toList xv.data.toList (v.size + 1) := by
  have hl : v.data.toList.length = v.size := by simp
  simp only [holdB]
  rw [contains_stand, hl]; rfl

set_option maxHeartbeats 3200000 in
theorem one_any (K : Nat) (B : Option Addr) (m capb : Nat) (s : List Pp) (xn xv : ByteArray) (o : Int) (w : World) (hlm : s.length = m) (hq : Lr w K B capb s) (hK : K ≤ w.heap.size) (hS : Sm s) (hx : xv.size ≤ 1048576) :
    Calls Tryz.prog 89 #[.agg #[.string xn, .int .i64 o, .string xv], .slice B m capb] w fun e w' => e = .returned (.bool (holdB o xv (getL s xn))) ∧ Below w.heap.size w w' := by
  subst hlm
  have B0 : Below w.heap.size w (w.alloc (.cells #[.string xn, .int .i64 o, .string xv] 147)) := (Below.refl _ _).alloc (Nat.le_refl _) _
  have HG := Lib.hid (rGet_any K B s.length capb s xn _ rfl (hq.below (B0.mono hK)) (by simp; omega))
  have hgs := getL_sm hS xn
  generalize getL s xn = v at *
  have z1 : w.heap.size ≤ (w.alloc (.cells #[.string xn, .int .i64 o, .string xv] 147)).heap.size := by simp
  by_cases h1 : o = 1
  · have HF : Hid (holdB o xv v = (v.toList == xv.toList)) := Lib.hid (by simp [holdB, h1])
    subst h1
    go_enter Tryz.func89, Tryz.ntmps89
    go_wp2_with (go_at_call 119; refine HG.out.mono ?_; rintro e w1 ⟨rfl, hb1⟩; have m0 : w1.cell? ⟨w.heap.size, 0, none⟩ = some (.string xn) := kept hb1 (by simp); have m1 : w1.cell? ⟨w.heap.size, 1, none⟩ = some (.int .i64 1) := kept hb1 (by simp); have m2 : w1.cell? ⟨w.heap.size, 2, none⟩ = some (.string xv) := kept hb1 (by simp); have B2 := B0.trans (hb1.mono z1); clear hb1)
    go_ret
    exact ⟨ret_bool HF.out.symm, B2⟩
  by_cases h2 : o = 2
  · have HF : Hid (holdB o xv v = !(v.toList == xv.toList)) := Lib.hid (by simp [holdB, h2])
    subst h2
    clear h1
    go_enter Tryz.func89, Tryz.ntmps89
    go_wp2_with (go_at_call 119; refine HG.out.mono ?_; rintro e w1 ⟨rfl, hb1⟩; have m0 : w1.cell? ⟨w.heap.size, 0, none⟩ = some (.string xn) := kept hb1 (by simp); have m1 : w1.cell? ⟨w.heap.size, 1, none⟩ = some (.int .i64 2) := kept hb1 (by simp); have m2 : w1.cell? ⟨w.heap.size, 2, none⟩ = some (.string xv) := kept hb1 (by simp); have B2 := B0.trans (hb1.mono z1); clear hb1)
    go_ret
    exact ⟨ret_bool (by rw [HF.out]), B2⟩
  by_cases h3 : o = 3
  · have HF : Hid (holdB o xv v = standZ v xv 0) := Lib.hid (by simp [holdB, h3, standZ_zero])
    subst h3
    clear h1 h2
    have HC := Lib.hid (fun W => stands_any v xv 0 W (by omega) (by omega) (by omega))
    go_enter Tryz.func89, Tryz.ntmps89
    go_wp2_with (go_at_call 119; refine HG.out.mono ?_; rintro e w1 ⟨rfl, hb1⟩; have m0 : w1.cell? ⟨w.heap.size, 0, none⟩ = some (.string xn) := kept hb1 (by simp); have m1 : w1.cell? ⟨w.heap.size, 1, none⟩ = some (.int .i64 3) := kept hb1 (by simp); have m2 : w1.cell? ⟨w.heap.size, 2, none⟩ = some (.string xv) := kept hb1 (by simp); have B2 := B0.trans (hb1.mono z1); clear hb1)
    refine (HC.out _).mono ?_
    rintro e w' ⟨rfl, rfl⟩
    go_wp2_with fail
    go_ret
    exact ⟨ret_bool HF.out.symm, B2⟩
  by_cases h4 : o = 4
  · have HF : Hid (holdB o xv v = standTo v.data.toList xv.data.toList (v.size + 1)) := Lib.hid (by rw [h4]; exact holdB_four)
    have HC : Hid (∀ (k : Nat) W, k ≤ v.size → Calls Tryz.prog 65 #[.string v, .int .i64 (k : Int), .string xv] W fun e w' => e = .returned (.bool (standB v.data.toList k xv.data.toList)) ∧ W = w') := Lib.hid (fun k W h => by
      rw [← standZ_in h]
      exact stands_any v xv k W (by omega) (by omega) (by omega))
    have HY : Hid (∀ k : Nat, k ≤ v.size → standB v.data.toList k xv.data.toList = true → standTo v.data.toList xv.data.toList (v.size + 1) = true) := Lib.hid (fun k h hs => by
      rw [← holdB_four]
      have hl : v.data.toList.length = v.size := by simp
      show Lib.contains _ _ = true
      exact contains_yes (k := k) (by omega) hs)
    have HN : Hid (∀ k : Nat, standTo v.data.toList xv.data.toList (k + 1) = (standTo v.data.toList xv.data.toList k || standB v.data.toList k xv.data.toList)) := Lib.hid (fun k => standTo_succ _ _ k)
    have HZ : Hid (standTo v.data.toList xv.data.toList 0 = false) := Lib.hid (standTo_zero _ _)
    generalize standTo v.data.toList xv.data.toList = st at *
    generalize hsb : (fun k => standB v.data.toList k xv.data.toList) = sb at *
    have hsb2 : ∀ k, standB v.data.toList k xv.data.toList = sb k := fun k => by rw [← hsb]
    simp only [hsb2] at HC HY HN
    clear hsb hsb2
    subst h4
    clear h1 h2 h3
    go_enter Tryz.func89, Tryz.ntmps89
    go_wp2_with (go_at_call 119; refine HG.out.mono ?_; rintro e w1 ⟨rfl, hb1⟩; have m0 : w1.cell? ⟨w.heap.size, 0, none⟩ = some (.string xn) := kept hb1 (by simp); have m1 : w1.cell? ⟨w.heap.size, 1, none⟩ = some (.int .i64 4) := kept hb1 (by simp); have m2 : w1.cell? ⟨w.heap.size, 2, none⟩ = some (.string xv) := kept hb1 (by simp); have B2 := B0.trans (hb1.mono z1); clear hb1)
    go_loop [6] (fun i => ∃ k : Nat, k ≤ v.size + 1 ∧ i = .int .i64 k ∧ Hid (st k = false)) (fun i => v.size + 1 - (intOf i).toNat)
    case atStart => exact ⟨0, Nat.zero_le _, rfl, HZ⟩
    case round =>
      obtain ⟨k, hk, rfl, HT⟩ := hrel
      by_cases hlt : k ≤ v.size
      · by_cases hb : sb k = true
        · have HF2 : Hid (holdB 4 xv v = true) := Lib.hid (by rw [HF.out]; exact HY.out k hlt hb)
          have HCk := Lib.hid (fun W => HC.out k W hlt)
          rw [hb] at HCk
          clear hb
          go_wp2_with (go_at_call 65; refine (HCk.out _).mono ?_; rintro e w' ⟨rfl, rfl⟩)
          go_ret
          exact ⟨ret_bool HF2.out.symm, B2⟩
        · have hb : sb k = false := by simpa using hb
          have HN2 : Hid (st (k + 1) = false) := Lib.hid (by rw [HN.out, HT.out, hb]; rfl)
          have HCk := Lib.hid (fun W => HC.out k W hlt)
          rw [hb] at HCk
          clear hb
          go_wp2_with (go_at_call 65; refine (HCk.out _).mono ?_; rintro e w' ⟨rfl, rfl⟩)
          go_round
          case rel => exact ⟨k + 1, by omega, by go_num, HN2⟩
          case measure => simp [intOf]; omega
      · have hks : k = v.size + 1 := by omega
        have HF2 : Hid (holdB 4 xv v = false) := Lib.hid (by rw [HF.out, ← hks]; exact HT.out)
        clear hks
        go_wp2_with fail
        go_ret
        exact ⟨ret_bool HF2.out.symm, B2⟩
  · have HF : Hid (holdB o xv v = false) := Lib.hid (by simp [holdB, h1, h2, h3, h4])
    have e1 : (o == 1) = false := beq_eq_false_iff_ne.2 h1
    have e2 : (o == 2) = false := beq_eq_false_iff_ne.2 h2
    have e3 : (o == 3) = false := beq_eq_false_iff_ne.2 h3
    have e4 : (o != 4) = true := by simpa using h4
    clear h1 h2 h3 h4
    go_enter Tryz.func89, Tryz.ntmps89
    go_wp2_with (go_at_call 119; refine HG.out.mono ?_; rintro e w1 ⟨rfl, hb1⟩; have m0 : w1.cell? ⟨w.heap.size, 0, none⟩ = some (.string xn) := kept hb1 (by simp); have m1 : w1.cell? ⟨w.heap.size, 1, none⟩ = some (.int .i64 o) := kept hb1 (by simp); have m2 : w1.cell? ⟨w.heap.size, 2, none⟩ = some (.string xv) := kept hb1 (by simp); have B2 := B0.trans (hb1.mono z1); clear hb1)
    go_ret
    exact ⟨ret_bool HF.out.symm, B2⟩

set_option maxHeartbeats 3200000 in
theorem rAll_any (K : Nat) (A B : Option Addr) (n cap m capb : Nat) (l : List Rp) (s : List Pp) (w : World) (hln : l.length = n) (hlm : s.length = m) (hp : Rr w K A cap l) (hq : Lr w K B capb s) (hK : K ≤ w.heap.size) (hS : Sm s) (hR : SmR l) :
    Calls Tryz.prog 56 #[.slice A n cap, .slice B m capb] w fun e w' => e = .returned (.bool (allB s l)) ∧ Below w.heap.size w w' := by
  subst hln hlm
  have hle := hp.le
  have hmax := hp.max
  unfold maxLen at hmax
  go_enter Tryz.func56, Tryz.ntmps56
  go_wp2
  go_loopw [5] (fun i wr => ∃ k : Nat, k ≤ l.length ∧ i = .int .i64 k ∧ Hid (allTo s l k = true) ∧ Below w.heap.size w wr) (fun i _ => l.length - (intOf i).toNat)
  case atStart => exact ⟨0, Nat.zero_le _, rfl, Lib.hid (allTo_zero s l), Below.refl _ _⟩
  case round =>
    obtain ⟨k, hk, rfl, HT, hbl⟩ := hrel
    have z := hbl.size
    by_cases hlt : k < l.length
    · obtain ⟨ad, rfl, hadK, h1, h2, h3⟩ := rr_at (hp.below (hbl.mono hK)) hlt
      have hs := hR.at_ k
      have hnext := allTo_succ s hlt
      have hno : oneB s (l.getD k nilR) = false → allB s l = false := allB_no hlt
      have hone : oneB s (l.getD k nilR) = holdB (l.getD k nilR).2.1 (l.getD k nilR).2.2 (getL s (l.getD k nilR).1) := rfl
      generalize l.getD k nilR = x at *
      obtain ⟨xn, xo, xv⟩ := x
      simp only at h1 h2 h3 hone hs
      have HC := Lib.hid (one_any K B s.length capb s xn xv xo wr rfl (hq.below (hbl.mono hK)) (by omega) hS hs.2)
      by_cases hr : oneB s (xn, xo, xv) = true
      · have HN : Hid (allTo s l (k + 1) = true) := Lib.hid (by rw [hnext, HT.out, hr]; rfl)
        rw [← hone, hr] at HC
        clear hnext hno hr hone
        go_wp2_with (go_at_call 89; refine HC.out.mono ?_; rintro e w1 ⟨rfl, hb1⟩)
        go_roundw
        case rel => exact ⟨k + 1, by omega, by go_num, HN, hbl.trans (hb1.mono z)⟩
        case measure => simp [intOf]; omega
      · have hr : oneB s (xn, xo, xv) = false := by simpa using hr
        have HF : Hid (allB s l = false) := Lib.hid (hno hr)
        rw [← hone, hr] at HC
        clear hnext hno hr hone
        go_wp2_with (go_at_call 89; refine HC.out.mono ?_; rintro e w1 ⟨rfl, hb1⟩)
        go_ret
        exact ⟨ret_bool HF.out.symm, hbl.trans (hb1.mono z)⟩
    · have hks : k = l.length := by omega
      have HF : Hid (allB s l = true) := Lib.hid (by rw [← allTo_all, ← hks]; exact HT.out)
      clear hks
      go_wp2_with fail
      go_ret
      exact ⟨ret_bool HF.out.symm, hbl⟩
end Go.Proofs.YtcmpenmaphmifaaGreatDoor
