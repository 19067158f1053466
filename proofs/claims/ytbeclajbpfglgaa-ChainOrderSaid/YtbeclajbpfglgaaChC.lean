/- slices.Concat over chains: its contract, over the shelf's contract of slices.Grow. -/
import Derived.Shelf.Spec.SlicesGrow
import Derived.Shelf.SlGeneric
import Derived.Test.YtbeclajbpfglgaaChS
namespace Go.Proofs.Ytbeclajbpfglgaa
open Go.RowKit Go.Shelf

def sh_growA_ren : Go.Shelf.Ren := ⟨fun | 4 => 35 | n => n, fun | 22 => 35 | 25 => 31 | 3 => 3 | 4 => 4 | 9 => 9 | 20 => 20 | 0 => 0 | n => n, fun | n => n⟩
theorem sh_growA : Go.Proofs.Lays8.n4 Try.prog sh_growA_ren := {
  mixed := by kernel_rfl
  f4 := ⟨Try.f35.name, by decide, Try.func35.trans (congrArg some (by kernel_rfl))⟩
  t0 := Try.underlying0
  a0 := Try.isAgg0
  z0 := Try.sizeOf0
  v0 := Try.zeroValue0
  t3 := Try.underlying3
  a3 := Try.isAgg3
  z3 := Try.sizeOf3
  v3 := Try.zeroValue3
  t4 := Try.underlying4
  a4 := Try.isAgg4
  z4 := Try.sizeOf4
  v4 := Try.zeroValue4
  t9 := Try.underlying9
  a9 := Try.isAgg9
  z9 := Try.sizeOf9
  v9 := Try.zeroValue9
  t20 := Try.underlying20
  a20 := Try.isAgg20
  z20 := Try.sizeOf20
  v20 := Try.zeroValue20
  t22 := Try.underlying35
  a22 := Try.isAgg35
  z22 := Try.sizeOf35
  v22 := Try.zeroValue35 }

theorem info_cv : (Try.prog.info? 31).map (fun i => (i.zero, i.size, i.bytes)) = some (some (.agg #[.int .i64 0, .int .u32 0, .int .u32 0, .int .i64 0, .int .i64 0, .string ⟨#[]⟩]), 6, 48) := by kernel_rfl
theorem grown_belowE {W w w1 : World} {v : Value} {B : Nat} (h : Below B W w) (hg : w.grownBy w1 v.ownBlock) (hB : B ≤ w.heap.size) (ho : ∀ k, v.ownBlock = some k → B ≤ k) : Below B W w1 := h.grown hg hB ho

theorem grow_nil (n : Nat) (hn : n ≤ 2000000) (w : World) : Calls Try.prog 35 #[.slice none 0 0, .int .i64 (n : Int)] w fun e w' =>
    ∃ A c, e = .returned (.slice A 0 c) ∧ So encV 6 w' w.heap.size 31 (.slice A 0 c) [] ∧ Below w.heap.size w w' := by
  rcases Nat.eq_zero_or_pos n with rfl | hp
  · have h := Any8.slices_Grow_room sh_growA none 0 0 0 w (Nat.le_refl _) (by omega) (by omega) (Nat.le_refl _)
    refine Calls.mono h ?_
    rintro e w' ⟨rfl, rfl⟩
    exact ⟨none, 0, rfl, So.empty _ _ _ _ _, Below.refl _ _⟩
  · obtain ⟨i0, hi, hz0, hz1, hz2⟩ := info_parts info_cv
    have h := Any8.slices_Grow_grow sh_growA i0 _ hi hz0 (by omega) none 0 0 n [] w (Nat.le_refl _) (by omega) (by rw [hz2]; omega) (by omega) (by simp) (fun _ => rfl) (fun _ h => by cases h)
    refine Calls.mono h ?_
    rintro e w' ⟨rfl, rfl⟩
    have hG : 0 + n ≤ grownCap w (0 + n) 0 31 := grownCap_ge w _ _ _
    have hM : grownCap w (0 + n) 0 31 ≤ maxLen := grownCap_le_maxLen w _ _ _ (by unfold maxLen; omega)
    refine ⟨some ⟨w.heap.size, 0, none⟩, grownCap w (0 + n) 0 31, rfl, ⟨rfl, .inr ⟨w.heap.size, _, _, rfl, Nat.le_refl _, heap_alloc_new w.drew _, Nat.zero_le _, hM, ?_, by simp⟩⟩, (Tn.drew (P := fun _ => False) w).below (Nat.le_refl _) (fun _ _ h => h.elim) |>.alloc (Nat.le_refl _) _⟩
    rw [Nat.zero_add] at hG
    have e25 : sh_growA_ren.t 25 = 31 := rfl
    simp [size_zeroCells, Value.cells, e25]
    omega

/-- A row of slices of versions, in a block of its own. -/
structure Ss (w : World) (K b : Nat) (ls : List (List Ve)) : Prop where
  at_ : ∀ i (h : i < ls.length), ∃ A cap, w.cell? ⟨b, i, none⟩ = some (.slice A ls[i].length cap) ∧ Sr encV 6 w K A cap ls[i]
theorem Ss.below {w w' : World} {K b : Nat} {ls : List (List Ve)} (h : Ss w K b ls) {B : Nat} (hb : Below B w w') (hK : K ≤ B) (hbK : b < B) : Ss w' K b ls :=
  ⟨fun i hi => by
    obtain ⟨A, cap, h1, h2⟩ := h.at_ i hi
    exact ⟨A, cap, (hb.cell hbK).trans h1, h2.below (hb.mono hK)⟩⟩
theorem flat_take {ls : List (List Ve)} {i : Nat} (h : i < ls.length) : (ls.take (i + 1)).flatten = (ls.take i).flatten ++ ls[i] := by
  rw [List.take_succ_eq_append_getElem h, List.flatten_append]; simp
theorem flat_le {ls : List (List Ve)} {i : Nat} : (ls.take i).flatten.length ≤ ls.flatten.length := by
  have h := congrArg (fun l : List (List Ve) => l.flatten.length) (List.take_append_drop i ls)
  simp only [List.flatten_append, List.length_append] at h
  omega
set_option maxHeartbeats 1600000 in
theorem concat_any {w : World} {K b : Nat} {ls : List (List Ve)} (h : Ss w K b ls) (hK : K ≤ w.heap.size) (hb : b < w.heap.size) (hl : ls.length ≤ 10) (hm : ls.flatten.length ≤ 1000000) :
    Calls Try.prog 31 #[.slice (some ⟨b, 0, none⟩) ls.length ls.length] w fun e w' =>
      ∃ A c, e = .returned (.slice A ls.flatten.length c) ∧ So encV 6 w' w.heap.size 31 (.slice A ls.flatten.length c) ls.flatten ∧ Below w.heap.size w w' := by
  have HH := Lib.hid h
  clear h
  go_enter Try.func31, Try.ntmps31
  go_wp2_with fail
  go_loopw [3, 11] (fun sv iv wr => ∃ i : Nat, i ≤ ls.length ∧ iv = .int .i64 (i : Int) ∧ sv = .int .i64 ((ls.take i).flatten.length : Nat) ∧ wr = w) (fun _ iv _ => ls.length - (intOf iv).toNat)
  case atStart => exact ⟨0, Nat.zero_le _, rfl, rfl, rfl⟩
  case round =>
    obtain ⟨i, hi, rfl, rfl, rfl⟩ := hrel
    by_cases hlt : i < ls.length
    · obtain ⟨A, cap, hc, hs⟩ := HH.out.at_ i hlt
      have e1 := flat_take hlt
      have e2 := @flat_le ls (i + 1)
      have e3 := congrArg List.length e1
      rw [List.length_append] at e3
      have hsle := hs.le
      have hsm := hs.max
      unfold maxLen at hsm
      generalize ls[i] = l at *
      have hn : ((ls.take i).flatten.length : Int) + (l.length : Int) ≤ 1000000 := by omega
      have E3 := Lib.hid e3
      clear e1 e3 hs
      generalize (ls.take i).flatten.length = m at *
      have hm0 : ¬ ((m : Int) + (l.length : Int) < 0) := by omega
      go_wp2
      go_roundw
      case rel => exact ⟨i + 1, by omega, by go_num, by rw [E3.out]; rfl, by trivial⟩
      case measure => simp [intOf]; omega
    · obtain rfl : i = ls.length := by omega
      rw [List.take_length]
      obtain ⟨n, hn⟩ : ∃ n, n = ls.flatten.length := ⟨_, rfl⟩
      rw [← hn] at hm ⊢
      have HGn := Lib.hid (fun w => grow_nil n (by omega) w)
      have Hm := Lib.hid hm
      have Hn := Lib.hid hn
      clear hm hn
      go_wp2_with fail
      refine (HGn.out _).mono ?_
      rintro e w1 ⟨A1, c1, rfl, so1, b1⟩
      have HB := Lib.hid (HH.out.below b1 hK hb)
      have z1 := b1.size
      go_wp2_with fail
      go_loopw [6, 27] (fun v iv wx => ∃ (i : Nat) (B : Option Addr) (c m : Nat), i ≤ ls.length ∧ iv = .int .i64 (i : Int) ∧ v = .slice B m c ∧ So encV 6 wx wr.heap.size 31 v (ls.take i).flatten ∧ m = (ls.take i).flatten.length ∧ Below wr.heap.size wr wx) (fun _ iv _ => ls.length - (intOf iv).toNat)
      case atStart => exact ⟨0, A1, c1, 0, Nat.zero_le _, rfl, rfl, by simpa using so1, rfl, b1⟩
      case round =>
        obtain ⟨i, B, c, m, hi2, rfl, rfl, so2, hm2, bl⟩ := hrel
        rename World => wx
        have z := bl.size
        by_cases hlt2 : i < ls.length
        · obtain ⟨A, cap, hc, hs⟩ := (HH.out.below bl hK hb).at_ i hlt2
          have e1 := flat_take hlt2
          have e2 := @flat_le ls (i + 1)
          rw [e1, List.length_append] at e2
          generalize ls[i] = l at *
          have hle : m + l.length ≤ 1000000 := by have := Hm.out; rw [Hn.out] at this; omega
          have E1 := Lib.hid e1
          have E2 := Lib.hid hm2
          have HS := Lib.hid hs
          have HO := Lib.hid so2
          have HL := Lib.hid bl
          clear e1 e2 hm2 hs so2 bl
          go_wp2_with (at_builtin; refine wpList_appE Try.underlying35 info_cv rfl (by decide) encV_len encV_one _ rfl (.tmp 31) (.tmp 32) rfl wr.heap.size (.slice B m c) _ rfl HO.out A l.length cap l rfl rfl K HS.out (m + l.length) (by rw [E2.out]) (by unfold maxLen; omega) (by omega) z ?_; intro A2 cap2 w2 hown2 hgrow2 hat2; have B2 : Below wr.heap.size wr w2 := grown_belowE HL.out hgrow2 z (fun _ h => (HO.out.lt _ h).1))
          go_roundw
          case rel => exact ⟨i + 1, A2, cap2, m + l.length, by omega, by go_num, rfl, by rw [E1.out]; exact hown2, by rw [E1.out, List.length_append, E2.out], B2⟩
          case measure => simp [intOf]; omega
        · obtain rfl : i = ls.length := by omega
          rw [List.take_length] at so2 hm2
          subst hm2
          go_wp2
          go_ret
          exact ⟨B, c, rfl, so2, bl⟩
end Go.Proofs.Ytbeclajbpfglgaa
