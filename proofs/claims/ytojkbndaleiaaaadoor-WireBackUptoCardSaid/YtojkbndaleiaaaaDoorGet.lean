/- stamp.Get. -/
import Derived.Test.YtojkbndaleiaaaaDoorRefGet
import Derived.Test.YtojkbndaleiaaaaDoorPut
import Derived.BigRegion
import Derived.Laws.BitsLemmas
namespace Go.Proofs.YtojkbndaleiaaaaDoor
open Go.RowKit

theorem keptF {W w1 : World} {p : Addr} (hb : Below W.heap.size W w1) (hp : p.block < W.heap.size) (h : W.frozen? p = false) : w1.frozen? p = false := (hb.frozen hp).trans h

theorem three {X : World} {b : Nat} {r0 r1 r2 : Value} (h0 : X.cell? ⟨b, 0, none⟩ = some r0) (h1 : X.cell? ⟨b, 1, none⟩ = some r1) (h2 : X.cell? ⟨b, 2, none⟩ = some r2) :
    (∀ u, (X.setCell ⟨b, 0, none⟩ u).cell? ⟨b, 0, none⟩ = some u) ∧ (∀ u v, ((X.setCell ⟨b, 0, none⟩ u).setCell ⟨b, 1, none⟩ v).cell? ⟨b, 1, none⟩ = some v) ∧
    (∀ u v y, (((X.setCell ⟨b, 0, none⟩ u).setCell ⟨b, 1, none⟩ v).setCell ⟨b, 2, none⟩ y).cell? ⟨b, 2, none⟩ = some y) := by
  have g1 : ∀ u, (X.setCell ⟨b, 0, none⟩ u).cell? ⟨b, 1, none⟩ = some r1 := fun u => by
    rw [World.cell?_setCell_other]
    · exact h1
    · simp
  have g2 : ∀ u v, ((X.setCell ⟨b, 0, none⟩ u).setCell ⟨b, 1, none⟩ v).cell? ⟨b, 2, none⟩ = some r2 := fun u v => by
    rw [World.cell?_setCell_other]
    · rw [World.cell?_setCell_other]
      · exact h2
      · simp
    · simp
  exact ⟨fun u => World.cell?_setCell_same (w := X) (a := ⟨b, 0, none⟩) (v := u) h0, fun u v => World.cell?_setCell_same (w := X.setCell ⟨b, 0, none⟩ u) (a := ⟨b, 1, none⟩) (v := v) (g1 u), fun u v y => World.cell?_setCell_same (w := (X.setCell ⟨b, 0, none⟩ u).setCell ⟨b, 1, none⟩ v) (a := ⟨b, 2, none⟩) (v := y) (g2 u v)⟩

theorem get_short (A : Option Addr) (cap n : Nat) (l : List UInt8) (w : World) (hn : l.length = n) (h : n ≠ 16) (hm : n ≤ 9223372036854775807) :
    Calls Tryd.prog 39 #[.slice A n cap] w (GetPost w l) := by
  have HM := Lib.hid hm
  clear hm
  have hp : ∀ w', Below w.heap.size w w' → GetPost w l (.returned (.tuple #[stv 0 0 0, .int .i64 9])) w' := fun w' hb => ⟨by rw [getB_short (by omega)], hb⟩
  have HP := Lib.hid hp
  clear hp hn
  have hne : ((n : Int) != 16) = true := by rw [bne_iff_ne]; omega
  go_enter Tryd.func39, Tryd.ntmps39
  go_wp2
  exact bodyPost_ret (v := .tuple #[stv 0 0 0, .int .i64 9]) (by simp [results, Tryd.results39, go_sem]) rfl (HP.out _ (by go_grown))

def sg (v : Nat) : Int := if v < 9223372036854775808 then v else v - 18446744073709551616
theorem sg_low {v : Nat} (h : v < 9223372036854775808) : sg v = v := if_pos h
theorem or_sg {x b : Nat} (hx : x < 72057594037927936) (hb : b < 256) : bits .or .i64 (IntKind.i64.wrap ((x : Int) * 256)) (b : Int) = sg (x * 256 + b) := by
  have hw : (BitVec.ofInt 64 (IntKind.i64.wrap ((x : Int) * 256))).toNat = x * 256 := by
    rw [IntKind.wrap_i64, BitVec.toNat_ofInt]; omega
  have hb' : (BitVec.ofInt 64 (b : Int)).toNat = b := by rw [BitVec.toNat_ofInt]; omega
  show IntKind.i64.wrap ((BitVec.ofInt 64 (IntKind.i64.wrap ((x : Int) * 256)) ||| BitVec.ofInt 64 (b : Int)).toNat : Int) = _
  rw [BitVec.toNat_or, hw, hb', nat_join 8 (x * 256) b (by omega) (by omega), IntKind.wrap_i64]
  unfold sg; split <;> omega

/-- What is known of the call's own memory in Get's loops: its result's variable, and its three parts. -/
structure GetW (w : World) (x0 x1 x2 : Int) (wr : World) : Prop where
  bl : Below w.heap.size w wr
  sz : w.heap.size + 2 ≤ wr.heap.size
  r0 : wr.cell? ⟨w.heap.size, 0, none⟩ = some (.int .i64 0)
  r1 : wr.cell? ⟨w.heap.size, 1, none⟩ = some (.int .u32 0)
  r2 : wr.cell? ⟨w.heap.size, 2, none⟩ = some (.int .u32 0)
  rf : ∀ i, wr.frozen? ⟨w.heap.size, i, none⟩ = false
  p0 : wr.cell? ⟨w.heap.size + 1, 0, none⟩ = some (.int .i64 x0)
  p1 : wr.cell? ⟨w.heap.size + 1, 1, none⟩ = some (.int .i64 x1)
  p2 : wr.cell? ⟨w.heap.size + 1, 2, none⟩ = some (.int .i64 x2)
  pf : ∀ i, wr.frozen? ⟨w.heap.size + 1, i, none⟩ = false

theorem or_sg64 {x b : Nat} (hx : x < 72057594037927936) (hb : b < 256) : bits .or .i64 (wrap64 ((x : Int) * 256)) (b : Int) = sg (x * 256 + b) := by
  have : wrap64 ((x : Int) * 256) = IntKind.i64.wrap ((x : Int) * 256) := by rw [IntKind.wrap_i64]; unfold wrap64; omega
  rw [this]; exact or_sg hx hb
section
variable {w wr : World} {x0 x1 x2 y : Int}
theorem GetW.set_ (J : GetW w x0 x1 x2 wr) (i : Nat) (y : Int) : Below w.heap.size w (wr.setCell ⟨w.heap.size + 1, i, none⟩ (.int .i64 y)).drew ∧ w.heap.size + 2 ≤ (wr.setCell ⟨w.heap.size + 1, i, none⟩ (.int .i64 y)).drew.heap.size ∧
    (∀ b j v, (b ≠ w.heap.size + 1 ∨ j ≠ i) → wr.cell? ⟨b, j, none⟩ = some v → (wr.setCell ⟨w.heap.size + 1, i, none⟩ (.int .i64 y)).drew.cell? ⟨b, j, none⟩ = some v) ∧
    (∀ v, wr.cell? ⟨w.heap.size + 1, i, none⟩ = some v → (wr.setCell ⟨w.heap.size + 1, i, none⟩ (.int .i64 y)).drew.cell? ⟨w.heap.size + 1, i, none⟩ = some (.int .i64 y)) ∧
    (∀ b j, wr.frozen? ⟨b, j, none⟩ = false → (wr.setCell ⟨w.heap.size + 1, i, none⟩ (.int .i64 y)).drew.frozen? ⟨b, j, none⟩ = false) := by
  refine ⟨(J.bl.setCell (by simp) _).drew, by simpa using J.sz, fun b j v hne h => ?_, fun v h => ?_, fun b j h => ?_⟩
  · show (wr.setCell ⟨w.heap.size + 1, i, none⟩ (.int .i64 y)).cell? _ = _
    rw [World.cell?_setCell_other]
    · exact h
    · intro e
      injection e with e1 e2
      rcases hne with h' | h'
      · exact h' e1.symm
      · exact h' e2.symm
  · show (wr.setCell ⟨w.heap.size + 1, i, none⟩ (.int .i64 y)).cell? _ = _
    exact World.cell?_setCell_same (w := wr) (a := ⟨w.heap.size + 1, i, none⟩) (v := .int .i64 y) h
  · simpa using h
theorem GetW.set0 (J : GetW w x0 x1 x2 wr) (y : Int) : GetW w y x1 x2 (wr.setCell ⟨w.heap.size + 1, 0, none⟩ (.int .i64 y)).drew := by
  obtain ⟨h1, h2, h3, h4, h5⟩ := J.set_ 0 y
  exact ⟨h1, h2, h3 _ _ _ (.inl (by omega)) J.r0, h3 _ _ _ (.inl (by omega)) J.r1, h3 _ _ _ (.inl (by omega)) J.r2, fun i => h5 _ _ (J.rf i), h4 _ J.p0, h3 _ _ _ (.inr (by omega)) J.p1, h3 _ _ _ (.inr (by omega)) J.p2, fun i => h5 _ _ (J.pf i)⟩
theorem GetW.set1 (J : GetW w x0 x1 x2 wr) (y : Int) : GetW w x0 y x2 (wr.setCell ⟨w.heap.size + 1, 1, none⟩ (.int .i64 y)).drew := by
  obtain ⟨h1, h2, h3, h4, h5⟩ := J.set_ 1 y
  exact ⟨h1, h2, h3 _ _ _ (.inl (by omega)) J.r0, h3 _ _ _ (.inl (by omega)) J.r1, h3 _ _ _ (.inl (by omega)) J.r2, fun i => h5 _ _ (J.rf i), h3 _ _ _ (.inr (by omega)) J.p0, h4 _ J.p1, h3 _ _ _ (.inr (by omega)) J.p2, fun i => h5 _ _ (J.pf i)⟩
theorem GetW.set2 (J : GetW w x0 x1 x2 wr) (y : Int) : GetW w x0 x1 y (wr.setCell ⟨w.heap.size + 1, 2, none⟩ (.int .i64 y)).drew := by
  obtain ⟨h1, h2, h3, h4, h5⟩ := J.set_ 2 y
  exact ⟨h1, h2, h3 _ _ _ (.inl (by omega)) J.r0, h3 _ _ _ (.inl (by omega)) J.r1, h3 _ _ _ (.inl (by omega)) J.r2, fun i => h5 _ _ (J.rf i), h3 _ _ _ (.inr (by omega)) J.p0, h3 _ _ _ (.inr (by omega)) J.p1, h4 _ J.p2, fun i => h5 _ _ (J.pf i)⟩
end

theorem stamp_parts (x y z : Int) (w : World) (hy : 0 ≤ y ∧ y ≤ 4294967295) (hz : 0 ≤ z ∧ z ≤ 4294967295) :
    Calls Tryd.prog 49 #[.agg #[.int .i64 x, .int .i64 y, .int .i64 z]] w fun e w' => e = .returned (stv x y z) ∧ Below w.heap.size w w' := by
  obtain ⟨y0, y1⟩ := hy
  obtain ⟨z0, z1⟩ := hz
  go_enter Tryd.func49, Tryd.ntmps49
  go_wp2
  exact bodyPost_ret (v := stv x y z) (by simp [results, Tryd.results49, go_sem]) rfl ⟨rfl, by go_grown⟩

set_option maxRecDepth 100000 in
set_option maxHeartbeats 3200000 in
theorem get_full (K : Nat) (ad : Addr) (cap : Nat) (l : List UInt8) (w : World) (hb : Bs w K (some ad) cap l) (h16 : l.length = 16) (hw : Wid w) :
    Calls Tryd.prog 39 #[.slice (some ad) 16 cap] w (GetPost w l) := by
  have hl : ∀ (o j : Nat), o + j < 16 → ∃ b : Nat, b < 256 ∧ w.cell? (ad.add (o + j)) = some (.int .u8 b) ∧ cutN l o (j + 1) = cutN l o j * 256 + b := fun o j h => by
    obtain ⟨ad', e, _, hc⟩ := hb.get (k := o + j) (by omega)
    cases e
    exact ⟨_, (l[o + j]).toNat_lt, hc, cutN_succ (by omega)⟩
  have HL := Lib.hid hl
  have H16 := Lib.hid h16
  have hcap := hb.le
  have hmax := hb.max
  rw [h16] at hcap
  unfold maxLen at hmax
  have k0 := hw.c0
  have k1 := hw.c1
  have k2 := hw.c2
  have hz : 0 < w.heap.size := World.block_lt_of_cell? w _ k0
  have hz1 : 0 < w.heap.size + 1 := by omega
  have hp1 : 4611686018427387904 < getA l → ∀ w', Below w.heap.size w w' → GetPost w l (.returned (.tuple #[stv 0 0 0, .int .i64 10])) w' := fun h w' hb => ⟨by rw [getB_form h16 h], hb⟩
  have hp2 : getA l ≤ 4611686018427387904 → ∀ w', Below w.heap.size w w' → GetPost w l (.returned (.tuple #[stv (getA l) (getT l) (getM l), .int .i64 0])) w' := fun h w' hb => ⟨by rw [getB_ok h16 h], hb⟩
  have HP1 := Lib.hid hp1
  have HP2 := Lib.hid hp2
  clear hl h16 hp1 hp2
  go_enter Tryd.func39, Tryd.ntmps39
  go_wp2
  clear k0 k1 k2 hz hz1
  have J0 : GetW w (sg 0) (sg 0) (sg 0) ((w.alloc (.cells #[.int .i64 0, .int .u32 0, .int .u32 0] 45)).alloc (.cells #[.int .i64 0, .int .i64 0, .int .i64 0] 81)) :=
    ⟨by go_grown, by simp, by simp, by simp, by simp, by simp, by simp [sg], by simp [sg], by simp [sg], by simp⟩
  go_loopw [5, 14] (fun at_ i wr => ∃ k j x0 x1 x2 : Nat, k ≤ 3 ∧ i = .int .i64 k ∧ at_ = .int .i64 j ∧ GetW w (sg x0) (sg x1) (sg x2) wr ∧ j = (match k with | 0 => 0 | 1 => 8 | 2 => 12 | _ => 16) ∧ x0 = (if 0 < k then getA l else 0) ∧ x1 = (if 1 < k then getT l else 0) ∧ x2 = (if 2 < k then getM l else 0)) (fun _ i _ => 3 - (intOf i).toNat)
  case atStart => exact ⟨0, 0, 0, 0, 0, by omega, rfl, rfl, J0, rfl, rfl, rfl, rfl⟩
  case round =>
    obtain ⟨k, j, x0, x1, x2, hk, rfl, rfl, J, hj, hx0, hx1, hx2⟩ := hrel
    rcases (show k = 0 ∨ k = 1 ∨ k = 2 ∨ k = 3 by omega) with rfl | rfl | rfl | rfl
    · obtain rfl : j = 0 := hj
      obtain rfl : x0 = 0 := by simpa using hx0
      clear hx0
      obtain rfl : x1 = 0 := by simpa using hx1
      clear hx1
      obtain rfl : x2 = 0 := by simpa using hx2
      clear hx2
      have ix : ∀ W, (Instr.index 82 (.agg #[.int .i64 8, .int .i64 4, .int .i64 4]) (.int .i64 0)).run Tryd.prog W = .ok (.int .i64 8) W := fun W => by kernel_rfl
      clear J0
      go_wp2
      clear ix
      go_loopw [5, 19] (fun at_ i wr => ∃ (q : Nat) (z : Int), q ≤ 8 ∧ i = .int .i64 q ∧ at_ = .int .i64 ((0 + q : Nat) : Int) ∧ GetW w (sg (cutN l 0 q)) (sg 0) (sg 0) wr ∧ z = 0) (fun _ i _ => 8 - (intOf i).toNat)
      case atStart => exact ⟨0, 0, by omega, rfl, rfl, by rw [cutN_zero]; exact J, rfl⟩
      case round =>
        obtain ⟨q, z, hq, rfl, rfl, J5, rfl⟩ := hrel
        by_cases hlt : q < 8
        · obtain ⟨b, hb8, hc, hs⟩ := HL.out 0 q (by omega)
          have hx : cutN l 0 q < 72057594037927936 := Nat.lt_of_lt_of_le (cutN_lt l 0 q) (Nat.le_trans (Nat.pow_le_pow_right (by omega) (show q ≤ 7 by omega)) (by decide))
          have hcr := J5.bl.cell (World.block_lt_of_cell? w _ hc)
          rw [hc] at hcr
          have e0 := sg_low (v := cutN l 0 q) (by omega)
          have e1 := or_sg64 hx hb8
          rw [e0] at J5
          rw [← hs] at e1
          generalize cutN l 0 q = x at *
          have c0 := J5.p0
          have c1 := J5.p1
          have c2 := J5.p2
          have f0 := J5.pf 0
          rw [Nat.zero_add] at hcr
          have i0 : (0 : Int) ≤ (q : Int) := by omega
          have i1 : (q : Int) < 16 := by omega
          have J6 := J5.set0 (bits .or .i64 (wrap64 ((x : Int) * 256)) (b : Int))
          rw [e1] at J6
          have HE := Lib.hid e1
          clear e1 e0 J J5 hs hx
          go_wp2
          go_region
          go_wp2
          go_roundw
          case rel => exact ⟨q + 1, 0, by omega, by go_num, by go_num, by rw [HE.out]; exact J6, rfl⟩
          case measure => simp [intOf]; omega
        · have hqe : q = 8 := by omega
          subst hqe
          go_wp2
          go_roundw
          case rel => exact ⟨0 + 1, 0 + 8, cutN l 0 8, 0, 0, by omega, by go_num, by go_num, J5, rfl, rfl, rfl, rfl⟩
          case measure => simp [intOf]
    · obtain rfl : j = 8 := hj
      obtain rfl : x1 = 0 := by simpa using hx1
      clear hx1
      obtain rfl : x2 = 0 := by simpa using hx2
      clear hx2
      have hy0 : x0 = getA l := by simpa using hx0
      have HX0 := Lib.hid hy0
      clear hx0 hy0
      have ix : ∀ W, (Instr.index 82 (.agg #[.int .i64 8, .int .i64 4, .int .i64 4]) (.int .i64 1)).run Tryd.prog W = .ok (.int .i64 4) W := fun W => by kernel_rfl
      clear J0
      go_wp2
      clear ix
      go_loopw [5, 19] (fun at_ i wr => ∃ (q : Nat) (z : Int), q ≤ 4 ∧ i = .int .i64 q ∧ at_ = .int .i64 ((8 + q : Nat) : Int) ∧ GetW w (sg x0) (sg (cutN l 8 q)) (sg 0) wr ∧ z = 0) (fun _ i _ => 4 - (intOf i).toNat)
      case atStart => exact ⟨0, 0, by omega, rfl, rfl, by rw [cutN_zero]; exact J, rfl⟩
      case round =>
        obtain ⟨q, z, hq, rfl, rfl, J5, rfl⟩ := hrel
        by_cases hlt : q < 4
        · obtain ⟨b, hb8, hc, hs⟩ := HL.out 8 q (by omega)
          have hx : cutN l 8 q < 72057594037927936 := Nat.lt_of_lt_of_le (cutN_lt l 8 q) (Nat.le_trans (Nat.pow_le_pow_right (by omega) (show q ≤ 7 by omega)) (by decide))
          have hcr := J5.bl.cell (World.block_lt_of_cell? w _ hc)
          rw [hc] at hcr
          have e0 := sg_low (v := cutN l 8 q) (by omega)
          have e1 := or_sg64 hx hb8
          rw [e0] at J5
          rw [← hs] at e1
          generalize cutN l 8 q = x at *
          have c0 := J5.p0
          have c1 := J5.p1
          have c2 := J5.p2
          have f0 := J5.pf 1
          have i0 : (0 : Int) ≤ 8 + (q : Int) := by omega
          have i1 : 8 + (q : Int) < 16 := by omega
          have J6 := J5.set1 (bits .or .i64 (wrap64 ((x : Int) * 256)) (b : Int))
          rw [e1] at J6
          have HE := Lib.hid e1
          clear e1 e0 J J5 hs hx
          go_wp2
          go_region
          go_wp2
          go_roundw
          case rel => exact ⟨q + 1, 0, by omega, by go_num, by go_num, by rw [HE.out]; exact J6, rfl⟩
          case measure => simp [intOf]; omega
        · have hqe : q = 4 := by omega
          subst hqe
          go_wp2
          go_roundw
          case rel => exact ⟨1 + 1, 8 + 4, x0, cutN l 8 4, 0, by omega, by go_num, by go_num, J5, rfl, (by rw [HX0.out]; rfl), rfl, rfl⟩
          case measure => simp [intOf]
    · obtain rfl : j = 12 := hj
      obtain rfl : x2 = 0 := by simpa using hx2
      clear hx2
      have hy0 : x0 = getA l := by simpa using hx0
      have HX0 := Lib.hid hy0
      clear hx0 hy0
      have hy1 : x1 = getT l := by simpa using hx1
      have HX1 := Lib.hid hy1
      clear hx1 hy1
      have ix : ∀ W, (Instr.index 82 (.agg #[.int .i64 8, .int .i64 4, .int .i64 4]) (.int .i64 2)).run Tryd.prog W = .ok (.int .i64 4) W := fun W => by kernel_rfl
      clear J0
      go_wp2
      clear ix
      go_loopw [5, 19] (fun at_ i wr => ∃ (q : Nat) (z : Int), q ≤ 4 ∧ i = .int .i64 q ∧ at_ = .int .i64 ((12 + q : Nat) : Int) ∧ GetW w (sg x0) (sg x1) (sg (cutN l 12 q)) wr ∧ z = 0) (fun _ i _ => 4 - (intOf i).toNat)
      case atStart => exact ⟨0, 0, by omega, rfl, rfl, by rw [cutN_zero]; exact J, rfl⟩
      case round =>
        obtain ⟨q, z, hq, rfl, rfl, J5, rfl⟩ := hrel
        by_cases hlt : q < 4
        · obtain ⟨b, hb8, hc, hs⟩ := HL.out 12 q (by omega)
          have hx : cutN l 12 q < 72057594037927936 := Nat.lt_of_lt_of_le (cutN_lt l 12 q) (Nat.le_trans (Nat.pow_le_pow_right (by omega) (show q ≤ 7 by omega)) (by decide))
          have hcr := J5.bl.cell (World.block_lt_of_cell? w _ hc)
          rw [hc] at hcr
          have e0 := sg_low (v := cutN l 12 q) (by omega)
          have e1 := or_sg64 hx hb8
          rw [e0] at J5
          rw [← hs] at e1
          generalize cutN l 12 q = x at *
          have c0 := J5.p0
          have c1 := J5.p1
          have c2 := J5.p2
          have f0 := J5.pf 2
          have i0 : (0 : Int) ≤ 12 + (q : Int) := by omega
          have i1 : 12 + (q : Int) < 16 := by omega
          have J6 := J5.set2 (bits .or .i64 (wrap64 ((x : Int) * 256)) (b : Int))
          rw [e1] at J6
          have HE := Lib.hid e1
          clear e1 e0 J J5 hs hx
          go_wp2
          go_region
          go_wp2
          go_roundw
          case rel => exact ⟨q + 1, 0, by omega, by go_num, by go_num, by rw [HE.out]; exact J6, rfl⟩
          case measure => simp [intOf]; omega
        · have hqe : q = 4 := by omega
          subst hqe
          go_wp2
          go_roundw
          case rel => exact ⟨2 + 1, 12 + 4, x0, x1, cutN l 12 4, by omega, by go_num, by go_num, J5, rfl, (by rw [HX0.out]; rfl), (by rw [HX1.out]; rfl), rfl⟩
          case measure => simp [intOf]
    · have hy0 : x0 = getA l := by simpa using hx0
      have hy1 : x1 = getT l := by simpa using hx1
      have hy2 : x2 = getM l := by simpa using hx2
      subst hy0 hy1 hy2
      clear hx0 hx1 hx2 hj J0
      have hA := getA_lt l
      have hT := getT_lt l
      have hM := getM_lt l
      have e1 : sg (getT l) = (getT l : Int) := sg_low (by omega)
      have e2 : sg (getM l) = (getM l : Int) := sg_low (by omega)
      rw [e1, e2] at J
      generalize getT l = xt at *
      generalize getM l = xm at *
      have r0 := J.r0
      have r1 := J.r1
      have r2 := J.r2
      have rf0 := J.rf 0
      have rf1 := J.rf 1
      have rf2 := J.rf 2
      have p0 := J.p0
      have p1 := J.p1
      have p2 := J.p2
      have sz := J.sz
      have bl := J.bl
      have hs1 : w.heap.size < wr.heap.size := by omega
      have hs2 : w.heap.size + 1 < wr.heap.size := by omega
      clear e1 e2 J
      by_cases hbig : 4611686018427387904 < getA l
      · have hnr : rightB (sg (getA l)) = false := by
          unfold rightB sg; split <;> simp <;> omega
        have hfin := HP1.out hbig
        have HF := Lib.hid hfin
        clear hfin hbig hA
        generalize sg (getA l) = xa at *
        go_wp2_with (first
          | (go_at_call 49; refine (stamp_parts xa (xt : Int) (xm : Int) _ ⟨by omega, by omega⟩ ⟨by omega, by omega⟩).mono ?_; rintro e w2 ⟨rfl, hb2⟩; have B2 := bl.trans (hb2.mono (Nat.le_of_lt hs1)); have z2 := hb2.size; have R0 := kept hb2 r0; have R1 := kept hb2 r1; have R2 := kept hb2 r2; have F0 := keptF hb2 hs1 rf0; have F1 := keptF hb2 hs1 rf1; have F2 := keptF hb2 hs1 rf2)
          | (go_at_call 50; refine (right_any xa (xt : Int) (xm : Int) _).mono ?_; rw [hnr]; rintro e w3 ⟨rfl, hb3⟩; have z3 := hb3.size; have B23 : Below w2.heap.size w2 w3 := ((Below.refl _ _).alloc (Nat.le_refl _) _).trans (hb3.mono (by simp)); have B3 : Below w.heap.size w w3 := B2.trans (B23.mono (by omega)); have U0 : w3.cell? ⟨w2.heap.size, 0, none⟩ = some (.int .i64 xa) := kept hb3 (by simp); have U1 : w3.cell? ⟨w2.heap.size, 1, none⟩ = some (.int .u32 (xt : Int)) := kept hb3 (by simp); have U2 : w3.cell? ⟨w2.heap.size, 2, none⟩ = some (.int .u32 (xm : Int)) := kept hb3 (by simp); have S0 := kept B23 R0; have S1 := kept B23 R1; have S2 := kept B23 R2; have G0 := keptF B23 (show w.heap.size < w2.heap.size by omega) F0; have G1 := keptF B23 (show w.heap.size < w2.heap.size by omega) F1; have G2 := keptF B23 (show w.heap.size < w2.heap.size by omega) F2; obtain ⟨t0, t1, t2⟩ := three S0 S1 S2))
        exact bodyPost_ret (v := .tuple #[stv 0 0 0, .int .i64 10]) (by simp [results, Tryd.results39, go_sem, t0, t1, t2]) rfl (HF.out _ (by go_grown))
      · have hyr : rightB (sg (getA l)) = true := by
          rw [sg_low (by omega)]; unfold rightB; simp; omega
        have hfin := HP2.out (by omega)
        rw [← sg_low (v := getA l) (by omega)] at hfin
        have HF := Lib.hid hfin
        clear hfin hbig hA
        generalize sg (getA l) = xa at *
        go_wp2_with (first
          | (go_at_call 49; refine (stamp_parts xa (xt : Int) (xm : Int) _ ⟨by omega, by omega⟩ ⟨by omega, by omega⟩).mono ?_; rintro e w2 ⟨rfl, hb2⟩; have B2 := bl.trans (hb2.mono (Nat.le_of_lt hs1)); have z2 := hb2.size; have R0 := kept hb2 r0; have R1 := kept hb2 r1; have R2 := kept hb2 r2; have F0 := keptF hb2 hs1 rf0; have F1 := keptF hb2 hs1 rf1; have F2 := keptF hb2 hs1 rf2)
          | (go_at_call 50; refine (right_any xa (xt : Int) (xm : Int) _).mono ?_; rw [hyr]; rintro e w3 ⟨rfl, hb3⟩; have z3 := hb3.size; have B23 : Below w2.heap.size w2 w3 := ((Below.refl _ _).alloc (Nat.le_refl _) _).trans (hb3.mono (by simp)); have B3 : Below w.heap.size w w3 := B2.trans (B23.mono (by omega)); have U0 : w3.cell? ⟨w2.heap.size, 0, none⟩ = some (.int .i64 xa) := kept hb3 (by simp); have U1 : w3.cell? ⟨w2.heap.size, 1, none⟩ = some (.int .u32 (xt : Int)) := kept hb3 (by simp); have U2 : w3.cell? ⟨w2.heap.size, 2, none⟩ = some (.int .u32 (xm : Int)) := kept hb3 (by simp); have S0 := kept B23 R0; have S1 := kept B23 R1; have S2 := kept B23 R2; have G0 := keptF B23 (show w.heap.size < w2.heap.size by omega) F0; have G1 := keptF B23 (show w.heap.size < w2.heap.size by omega) F1; have G2 := keptF B23 (show w.heap.size < w2.heap.size by omega) F2; obtain ⟨t0, t1, t2⟩ := three S0 S1 S2))
        exact bodyPost_ret (v := .tuple #[stv xa (xt : Int) (xm : Int), .int .i64 0]) (by simp [results, Tryd.results39, go_sem, t0, t1, t2]) rfl (HF.out _ (by go_grown))
end Go.Proofs.YtojkbndaleiaaaaDoor
