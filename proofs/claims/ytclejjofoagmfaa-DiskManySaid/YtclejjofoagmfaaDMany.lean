/- The law DiskMany: its walk. -/
import Derived.Test.YtclejjofoagmfaaDkW
namespace Go.Proofs.Ytclejjofoagmfaa
open Go.RowKit Go.Maps Go.BigFrame

def mkA (i : Nat) : List As := (List.range i).map fun j : Nat => ⟨2 * (j : Int) + 1, [], 0, false⟩
theorem putA_last (n : Int) (p : List UInt8) : ∀ L : List As, (∀ x ∈ L, x.n < n) → putA n p L = L ++ [⟨n, p, 0, false⟩]
  | [], _ => rfl
  | x :: r, h => by
    have hx := h x (List.mem_cons_self ..)
    unfold putA
    rw [if_neg (by omega), if_neg (by omega), putA_last n p r fun y hy => h y (List.mem_cons_of_mem _ hy)]
    rfl
theorem mkA_lt {i : Nat} {x : As} (h : x ∈ mkA i) : x.n < 2 * (i : Int) + 1 ∧ x.b = [] := by
  obtain ⟨j, hj, rfl⟩ := List.mem_map.1 h
  have := List.mem_range.1 hj
  exact ⟨by show 2 * (j : Int) + 1 < _; omega, rfl⟩
theorem mkA_len (i : Nat) : (mkA i).length = i := by simp [mkA]
theorem sum_zero : ∀ L : List As, (∀ x ∈ L, x.b = []) → sumA L = 0
  | [], _ => rfl
  | x :: r, h => by
    have hx := h x (List.mem_cons_self ..)
    simp only [sumA, hx, sum_zero r fun y hy => h y (List.mem_cons_of_mem _ hy)]; rfl
theorem mkA_step {i : Nat} (hi : i < 1024) : appD ⟨1, -1, false, mkA i⟩ (2 * (i : Int) + 1) [] = (0, ⟨1, -1, false, mkA (i + 1)⟩) := by
  have hs : sumA (mkA i) = 0 := sum_zero _ fun x hx => (mkA_lt hx).2
  have hl := mkA_len i
  have hput : putA (2 * (i : Int) + 1) [] (mkA i) = mkA (i + 1) := by
    rw [putA_last _ _ _ fun x hx => (mkA_lt hx).1]
    unfold mkA
    rw [List.range_succ, List.map_append]
    rfl
  unfold appD
  simp only
  rw [if_neg (by simp), if_neg (by omega), hs, if_neg (by simp), if_neg (by omega), if_neg (by decide), hput]
  rfl
def a0 : Ad := ⟨1, -1, false, mkA 1024⟩
def a1 : Ad := (appD a0 1 [120]).2
def a2 : Ad := (opD dropA a1 3).2
def a3 : Ad := (appD a2 2 []).2
theorem r0 : appD a0 2 [] = (4, a0) := by
  have e1 : (appD a0 2 []).1 = 4 := by decide +kernel
  unfold appD at e1 ⊢
  split
  · rename_i h; exact absurd h (by decide)
  · split
    · rename_i h; exact absurd h (by decide)
    · split
      · rfl
      · split
        · rfl
        · rename_i h1 h2 h3 h4
          rw [if_neg h1, if_neg h2, if_neg h3, if_neg h4] at e1
          split at e1 <;> cases e1
theorem pair_eq {p : Int × Ad} {r : Int} (h : p.1 = r) : p = (r, p.2) := by cases p; cases h; rfl
theorem r1 : appD a0 1 [120] = (0, a1) := by rw [a1]; exact pair_eq (by decide +kernel)
theorem r2 : opD dropA a1 3 = (0, a2) := by rw [a2]; exact pair_eq (by decide +kernel)
theorem r3 : appD a2 2 [] = (0, a3) := by rw [a3]; exact pair_eq (by decide +kernel)
theorem r4 : appD a3 1 [120] = (4, (appD a3 1 [120]).2) := pair_eq (by decide +kernel)
theorem bs_nil (w : World) (K : Nat) : Bs w K none 0 [] := ⟨Nat.le_refl _, Nat.zero_le _, fun _ => rfl, fun h => absurd h (by simp)⟩
structure Dm1 (w wr : World) (i : Nat) : Prop where
  out : ∃ B, DD wr B (w.heap.size + 1) ⟨1, -1, false, mkA i⟩ ∧ ∀ k, B k → w.heap.size ≤ k
  lt : w.heap.size + 1 < wr.heap.size
  below : Below w.heap.size w wr
set_option maxRecDepth 100000 in
set_option maxHeartbeats 3200000 in
theorem dmany_any (w : World) : Calls Try.prog 5 #[] w (Ok0 w) := by
  have kc := fun (w : World) (C : Array Value) (n c : Nat) => Lib.run_convert_bytes_const (P := Try.prog) w 30 5 C n c Try.underlying30 Try.underlying5
  go_enter Try.func5, Try.ntmps5
  go_wp2_with fail
  refine (new_DD 1 (by decide) (by decide) w).mono ?_
  rintro e w1 ⟨rfl, ⟨B1, D1, hB1⟩, b1⟩
  have z1 := D1.lt.1
  have zz := b1.size
  go_wp2_with fail
  refine (dawake_any w1).mono ?_
  rintro e w2 ⟨rfl, b2⟩
  have C0 : Dm1 w w2 0 := ⟨⟨B1, D1.below b2, hB1⟩, Nat.lt_of_lt_of_le z1 b2.size, b1.trans (b2.mono zz)⟩
  clear D1 hB1 b1 b2 z1 zz
  go_wp2_with fail
  go_loopw [14] (fun iv wr => ∃ i : Nat, i ≤ 1024 ∧ iv = .int .i64 (i : Int) ∧ Dm1 w wr i) (fun iv _ => 1024 - (intOf iv).toNat)
  case atStart => exact ⟨0, by omega, rfl, C0⟩
  case round =>
    obtain ⟨i, hi, rfl, C⟩ := hrel
    rename World => W0
    have hz := C.lt
    by_cases hlt : i < 1024
    · obtain ⟨B, D, hB⟩ := C.out
      have HC := Lib.hid (app_DD (n := 2 * (i : Int) + 1) D (by omega) (bs_nil W0 0) rfl (fun h => absurd h (by simp)) (mkA_step hlt))
      have HBB := Lib.hid C.below
      have HB := Lib.hid hB
      clear C D hB
      go_wp2_with (go_at_call 16; refine HC.out.mono ?_; rintro e W2 ⟨rfl, B', D', T', hB'⟩; have HC2 := Lib.hid (⟨⟨B', D', up hB' HB.out (Nat.le_of_lt (by omega))⟩, Nat.lt_of_lt_of_le hz T'.size, T'.bel HBB.out HB.out (Nat.le_refl _)⟩ : Dm1 w W2 (i + 1)); clear D' T' hB')
      go_roundw
      case rel => exact ⟨i + 1, by omega, by go_num, HC2.out⟩
      case measure => simp [intOf]; omega
    · obtain rfl : i = 1024 := by omega
      obtain ⟨B, D, hB⟩ := C.out
      have b3 := C.below
      have D0 : DD W0 B (w.heap.size + 1) a0 := D
      clear C D hlt hi
      go_wp2_with fail
      refine (app_DD D0 (by decide) (bs_nil W0 0) rfl (fun h => absurd h (by simp)) r0).mono ?_
      rintro e w4 ⟨rfl, B4, D4, T4, hB4⟩
      have b4 := T4.bel b3 hB (Nat.le_refl _)
      have hB4' := up hB4 hB b3.size
      clear D0 T4 hB4 hB b3
      have z4 := D4.lt.1
      go_wp2_with fail
      refine (app_DD (K' := w4.heap.size + 1) (p := [120]) (D4.alloc _) (by decide) (lit_bsF w4 _ _ _ rfl #[.int .u8 120] 1 [120] rfl rfl (by decide)) rfl (fun _ ad e hb => ?_) r1).mono ?_
      · cases e
        exact Nat.lt_irrefl _ (D4.bt _ hb)
      rintro e w5 ⟨rfl, B5, D5, T5, hB5⟩
      have b5 := T5.bel (b4.alloc b4.size _) hB4' (Nat.le_refl _)
      have hB5' := up hB5 hB4' (by simp; have := b4.size; omega)
      clear D4 T5 hB5 hB4' b4
      have z5 := D5.lt.1
      go_wp2_with fail
      refine (drop_DD D5 (by decide) (by decide) r2).mono ?_
      rintro e w6 ⟨rfl, B6, D6, T6, hB6⟩
      have b6 := T6.bel b5 hB5' (Nat.le_refl _)
      have hB6' := up hB6 hB5' b5.size
      clear D5 T6 hB6 hB5' b5
      have z6 := D6.lt.1
      go_wp2_with fail
      refine (app_DD D6 (by decide) (bs_nil w6 0) rfl (fun h => absurd h (by simp)) r3).mono ?_
      rintro e w7 ⟨rfl, B7, D7, T7, hB7⟩
      have b7 := T7.bel b6 hB6' (Nat.le_refl _)
      have hB7' := up hB7 hB6' b6.size
      clear D6 T7 hB7 hB6' b6
      have z7 := D7.lt.1
      go_wp2_with fail
      refine (app_DD (K' := w7.heap.size + 1) (p := [120]) (D7.alloc _) (by decide) (lit_bsF w7 _ _ _ rfl #[.int .u8 120] 1 [120] rfl rfl (by decide)) rfl (fun _ ad e hb => ?_) r4).mono ?_
      · cases e
        exact Nat.lt_irrefl _ (D7.bt _ hb)
      rintro e w8 ⟨rfl, B8, D8, T8, hB8⟩
      have b8 := T8.bel (b7.alloc b7.size _) hB7' (Nat.le_refl _)
      clear D7 D8 T8 hB8 hB7' b7
      go_wp2_with fail
      go_ret
      exact ⟨rfl, b8⟩
end Go.Proofs.Ytclejjofoagmfaa
