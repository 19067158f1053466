/- stamp.Put. -/
import Derived.Test.YtojkbndaleiaaaaDoorByW
import Derived.Test.YtojkbndaleiaaaaDoorPutM
import Derived.Test.YtojkbndaleiaaaaDoorClone
import Derived.LoopTactic
namespace Go.Proofs.YtojkbndaleiaaaaDoor
open Go.RowKit

/-- The program's widths lie in their variable. -/
structure Wid (w : World) : Prop where
  c0 : w.cell? ⟨0, 0, none⟩ = some (.int .i64 8)
  c1 : w.cell? ⟨0, 1, none⟩ = some (.int .i64 4)
  c2 : w.cell? ⟨0, 2, none⟩ = some (.int .i64 4)
theorem Wid.below {w w' : World} (h : Wid w) (hb : Below w.heap.size w w') : Wid w' := ⟨kept hb h.c0, kept hb h.c1, kept hb h.c2⟩

def preB (a b c : Int) : Nat → List UInt8
  | 0 => []
  | 1 => beN (u64N a) 8
  | 2 => beN (u64N a) 8 ++ beN (u64N b) 4
  | _ => putB a b c

theorem parts_any (a b c : Int) (w : World) (hb : 0 ≤ b ∧ b ≤ 4294967295) (hc : 0 ≤ c ∧ c ≤ 4294967295) :
    Calls Tryd.prog 52 #[.agg #[.int .i64 a, .int .u32 b, .int .u32 c]] w fun e w' => e = .returned (.agg #[.int .i64 a, .int .i64 b, .int .i64 c]) ∧ Below w.heap.size w w' := by
  obtain ⟨b0, b1⟩ := hb
  obtain ⟨c0, c1⟩ := hc
  go_enter Tryd.func52, Tryd.ntmps52
  go_wp2
  exact bodyPost_ret (v := .agg #[.int .i64 a, .int .i64 b, .int .i64 c]) (by simp [results, Tryd.results52, go_sem]) rfl ⟨rfl, by go_grown⟩

theorem shift_cell (n sI : Int) (j wd : Nat) (hw : wd ≤ 8) (hj : j < wd) (h1 : sI ≤ 8 * (wd : Int) - 8 - 8 * (j : Int)) (h2 : 8 * (wd : Int) - 8 - 8 * (j : Int) ≤ sI) :
    n / 2 ^ sI.toNat % 256 = ((UInt8.ofNat (u64N n / 256 ^ (wd - 1 - j))).toNat : Int) := by
  have e : sI.toNat = 8 * (wd - 1 - j) := by omega
  rw [e]
  exact byte_shift n _ (by omega)

set_option maxRecDepth 100000 in
set_option maxHeartbeats 3200000 in
theorem put_any (a b c : Int) (w : World) (hb : 0 ≤ b ∧ b ≤ 4294967295) (hc : 0 ≤ c ∧ c ≤ 4294967295) (hw : Wid w) :
    Calls Tryd.prog 46 #[.agg #[.int .i64 a, .int .u32 b, .int .u32 c]] w (NewBytes w (putB a b c)) := by
  obtain ⟨i0, hi, hz0, hz1, hz2⟩ := info_parts info_u8
  go_enter Tryd.func46, Tryd.ntmps46
  go_wp2_with (first
    | (at_make; refine wpList_make_own _ rfl _ _ 23 rfl w.heap.size 5 i0 (.int .u8 0) 1 Tryd.underlying23 hi hz0 hz1 _ _ _ 16 rfl rfl rfl (by rw [hz2]; omega) (by unfold maxLen; omega) (by simp) ?_; intro w1 hown1 hgrow1; have B0 : Below (w.heap.size + 1) (w.alloc (.cells #[.int .i64 a, .int .u32 b, .int .u32 c] 45)) w1 := (Below.refl _ _).grown hgrow1 (by simp) (by simp); have m0 : w1.cell? ⟨w.heap.size, 0, none⟩ = some (.int .i64 a) := (B0.cell (p := ⟨w.heap.size, 0, none⟩) (by simp)).trans (by simp); have m1 : w1.cell? ⟨w.heap.size, 1, none⟩ = some (.int .u32 b) := (B0.cell (p := ⟨w.heap.size, 1, none⟩) (by simp)).trans (by simp); have m2 : w1.cell? ⟨w.heap.size, 2, none⟩ = some (.int .u32 c) := (B0.cell (p := ⟨w.heap.size, 2, none⟩) (by simp)).trans (by simp); have B1 : Below w.heap.size w w1 := ((Below.refl _ w).alloc (Nat.le_refl _) _).trans (B0.mono (by omega)); have z1 := B1.size)
    | (go_at_call 52; refine (parts_any a b c _ hb hc).mono ?_; rintro e w2 ⟨rfl, hb2⟩; have B2 : Below w.heap.size w w2 := B1.trans (hb2.mono z1); have z2 := B2.size; have ho2 := (Ob.made hown1).below hb2))
  clear m0 m1 m2 B0 hown1 hgrow1 hb2
  obtain ⟨b0, b1⟩ := hb
  obtain ⟨c0, c1⟩ := hc
  go_loopw [3, 10] (fun v i wr => ∃ (k n5 cp : Nat) (AP : Option Addr), k ≤ 3 ∧ i = .int .i64 k ∧ v = .slice AP n5 cp ∧ Ob wr w.heap.size (.slice AP n5 cp) (preB a b c k) ∧ Below w.heap.size w wr) (fun _ i _ => 3 - (intOf i).toNat)
  case atStart => exact ⟨0, 0, 16, _, by omega, rfl, rfl, by (show Ob w2 w.heap.size _ []); simpa using ho2, B2⟩
  case round =>
    obtain ⟨k, n5, cp, AP, hk, rfl, rfl, hob, hbl⟩ := hrel
    have hn5 := hob.bs.2
    have HN5 := Lib.hid hn5
    clear ho2 hn5
    rcases (show k = 0 ∨ k = 1 ∨ k = 2 ∨ k = 3 by omega) with rfl | rfl | rfl | rfl
    · have kk := (hw.below (hbl.mono (Nat.le_refl _))).c0
      have ix : ∀ W, (Instr.index 81 (.agg #[.int .i64 a, .int .i64 b, .int .i64 c]) (.int .i64 0)).run Tryd.prog W = .ok (.int .i64 a) W := fun W => by kernel_rfl
      go_wp2
      clear ix kk
      go_loopw [3, 6] (fun v s wr => ∃ (j nn c5 : Nat) (A5 : Option Addr) (sI : Int), j ≤ 8 ∧ s = .int .i64 sI ∧ sI ≤ 8 * ((8 : Nat) : Int) - 8 - 8 * (j : Int) ∧ 8 * ((8 : Nat) : Int) - 8 - 8 * (j : Int) ≤ sI ∧ v = .slice A5 nn c5 ∧ Ob wr w.heap.size (.slice A5 nn c5) (preB a b c 0 ++ beTo (u64N a) 8 j) ∧ Below w.heap.size w wr) (fun _ s _ => (intOf s + 8).toNat)
      case atStart => exact ⟨0, n5, cp, AP, _, by omega, rfl, by omega, by omega, rfl, by rw [beTo_zero, List.append_nil]; exact hob, hbl⟩
      case round =>
        obtain ⟨j, nn, c5, A5, sI, hj, rfl, hs1, hs2, rfl, hob5, hbl5⟩ := hrel
        have z5 := hbl5.size
        have hnn := hob5.bs.2
        have hnb : nn ≤ 16 := by
          rw [hnn]; simp [preB, beTo_length] <;> omega
        have HNN := Lib.hid hnn
        clear hnn hob
        by_cases hlt : j < 8
        · have q0 : (0 : Int) ≤ sI := by omega
          have q1 : sI ≤ 56 := by omega
          have hsc := shift_cell a sI j 8 (by omega) hlt hs1 hs2
          have HSC := Lib.hid hsc
          clear hsc
          go_wp2_with (at_builtin; refine wpList_app _ rfl (.tmp 23) (.tmp 28) rfl w.heap.size (.slice A5 nn c5) (preB a b c 0 ++ beTo (u64N a) 8 j) rfl (hob5.alloc _) (some ⟨wr.heap.size, 0, none⟩) 1 1 [UInt8.ofNat (u64N a / 256 ^ (8 - 1 - j))] rfl rfl _ (lit_bsH wr _ wr.heap.size rfl _ 1 _ (show [Value.int .u8 (a / 2 ^ sI.toNat % 256)] = _ by rw [HSC.out]; rfl) rfl (by decide)) (nn + 1) (by rw [← HNN.out]; rfl) (by rw [← HNN.out]; simp; omega) (by simp; omega) ?_; intro A6 c6 w6 hown6 hgrow6 hat6; have B6 : Below w.heap.size w w6 := grown_below (hbl5.alloc z5 _) hgrow6 (by simp; omega) (fun _ h => (hob5.lt _ h).1))
          go_roundw
          case rel => first | exact ⟨j + 1, nn + 1, c6, A6, _, by omega, rfl, by omega, by omega, rfl, by rw [beTo_succ, ← List.append_assoc]; exact hown6, B6⟩ | ((repeat apply Exists.intro); exact ⟨⟨j + 1, nn + 1, c6, A6, sI - 8, by omega, rfl, by omega, by omega, rfl, by rw [beTo_succ, ← List.append_assoc]; exact hown6, B6⟩, rfl⟩)
          case measure => simp [intOf]; omega
        · have hj8 : j = 8 := by omega
          subst hj8
          have q0 : sI < 0 := by omega
          go_wp2
          go_roundw
          case rel => exact ⟨0 + 1, nn, c5, A5, by omega, rfl, rfl, by rw [beTo_all] at hob5; exact hob5, hbl5⟩
          case measure => simp [intOf]
    · have kk := (hw.below (hbl.mono (Nat.le_refl _))).c1
      have ix : ∀ W, (Instr.index 81 (.agg #[.int .i64 a, .int .i64 b, .int .i64 c]) (.int .i64 1)).run Tryd.prog W = .ok (.int .i64 b) W := fun W => by kernel_rfl
      go_wp2
      clear ix kk
      go_loopw [3, 6] (fun v s wr => ∃ (j nn c5 : Nat) (A5 : Option Addr) (sI : Int), j ≤ 4 ∧ s = .int .i64 sI ∧ sI ≤ 8 * ((4 : Nat) : Int) - 8 - 8 * (j : Int) ∧ 8 * ((4 : Nat) : Int) - 8 - 8 * (j : Int) ≤ sI ∧ v = .slice A5 nn c5 ∧ Ob wr w.heap.size (.slice A5 nn c5) (preB a b c 1 ++ beTo (u64N b) 4 j) ∧ Below w.heap.size w wr) (fun _ s _ => (intOf s + 8).toNat)
      case atStart => exact ⟨0, n5, cp, AP, _, by omega, rfl, by omega, by omega, rfl, by rw [beTo_zero, List.append_nil]; exact hob, hbl⟩
      case round =>
        obtain ⟨j, nn, c5, A5, sI, hj, rfl, hs1, hs2, rfl, hob5, hbl5⟩ := hrel
        have z5 := hbl5.size
        have hnn := hob5.bs.2
        have hnb : nn ≤ 16 := by
          rw [hnn]; simp [preB, beTo_length, beN_length] <;> omega
        have HNN := Lib.hid hnn
        clear hnn hob
        by_cases hlt : j < 4
        · have q0 : (0 : Int) ≤ sI := by omega
          have q1 : sI ≤ 56 := by omega
          have hsc := shift_cell b sI j 4 (by omega) hlt hs1 hs2
          have HSC := Lib.hid hsc
          clear hsc
          go_wp2_with (at_builtin; refine wpList_app _ rfl (.tmp 23) (.tmp 28) rfl w.heap.size (.slice A5 nn c5) (preB a b c 1 ++ beTo (u64N b) 4 j) rfl (hob5.alloc _) (some ⟨wr.heap.size, 0, none⟩) 1 1 [UInt8.ofNat (u64N b / 256 ^ (4 - 1 - j))] rfl rfl _ (lit_bsH wr _ wr.heap.size rfl _ 1 _ (show [Value.int .u8 (b / 2 ^ sI.toNat % 256)] = _ by rw [HSC.out]; rfl) rfl (by decide)) (nn + 1) (by rw [← HNN.out]; rfl) (by rw [← HNN.out]; simp; omega) (by simp; omega) ?_; intro A6 c6 w6 hown6 hgrow6 hat6; have B6 : Below w.heap.size w w6 := grown_below (hbl5.alloc z5 _) hgrow6 (by simp; omega) (fun _ h => (hob5.lt _ h).1))
          go_roundw
          case rel => first | exact ⟨j + 1, nn + 1, c6, A6, _, by omega, rfl, by omega, by omega, rfl, by rw [beTo_succ, ← List.append_assoc]; exact hown6, B6⟩ | ((repeat apply Exists.intro); exact ⟨⟨j + 1, nn + 1, c6, A6, sI - 8, by omega, rfl, by omega, by omega, rfl, by rw [beTo_succ, ← List.append_assoc]; exact hown6, B6⟩, rfl⟩)
          case measure => simp [intOf]; omega
        · have hj8 : j = 4 := by omega
          subst hj8
          have q0 : sI < 0 := by omega
          go_wp2
          go_roundw
          case rel => exact ⟨1 + 1, nn, c5, A5, by omega, rfl, rfl, by rw [beTo_all] at hob5; exact hob5, hbl5⟩
          case measure => simp [intOf]
    · have kk := (hw.below (hbl.mono (Nat.le_refl _))).c2
      have ix : ∀ W, (Instr.index 81 (.agg #[.int .i64 a, .int .i64 b, .int .i64 c]) (.int .i64 2)).run Tryd.prog W = .ok (.int .i64 c) W := fun W => by kernel_rfl
      go_wp2
      clear ix kk
      go_loopw [3, 6] (fun v s wr => ∃ (j nn c5 : Nat) (A5 : Option Addr) (sI : Int), j ≤ 4 ∧ s = .int .i64 sI ∧ sI ≤ 8 * ((4 : Nat) : Int) - 8 - 8 * (j : Int) ∧ 8 * ((4 : Nat) : Int) - 8 - 8 * (j : Int) ≤ sI ∧ v = .slice A5 nn c5 ∧ Ob wr w.heap.size (.slice A5 nn c5) (preB a b c 2 ++ beTo (u64N c) 4 j) ∧ Below w.heap.size w wr) (fun _ s _ => (intOf s + 8).toNat)
      case atStart => exact ⟨0, n5, cp, AP, _, by omega, rfl, by omega, by omega, rfl, by rw [beTo_zero, List.append_nil]; exact hob, hbl⟩
      case round =>
        obtain ⟨j, nn, c5, A5, sI, hj, rfl, hs1, hs2, rfl, hob5, hbl5⟩ := hrel
        have z5 := hbl5.size
        have hnn := hob5.bs.2
        have hnb : nn ≤ 16 := by
          rw [hnn]; simp [preB, beTo_length, beN_length] <;> omega
        have HNN := Lib.hid hnn
        clear hnn hob
        by_cases hlt : j < 4
        · have q0 : (0 : Int) ≤ sI := by omega
          have q1 : sI ≤ 56 := by omega
          have hsc := shift_cell c sI j 4 (by omega) hlt hs1 hs2
          have HSC := Lib.hid hsc
          clear hsc
          go_wp2_with (at_builtin; refine wpList_app _ rfl (.tmp 23) (.tmp 28) rfl w.heap.size (.slice A5 nn c5) (preB a b c 2 ++ beTo (u64N c) 4 j) rfl (hob5.alloc _) (some ⟨wr.heap.size, 0, none⟩) 1 1 [UInt8.ofNat (u64N c / 256 ^ (4 - 1 - j))] rfl rfl _ (lit_bsH wr _ wr.heap.size rfl _ 1 _ (show [Value.int .u8 (c / 2 ^ sI.toNat % 256)] = _ by rw [HSC.out]; rfl) rfl (by decide)) (nn + 1) (by rw [← HNN.out]; rfl) (by rw [← HNN.out]; simp; omega) (by simp; omega) ?_; intro A6 c6 w6 hown6 hgrow6 hat6; have B6 : Below w.heap.size w w6 := grown_below (hbl5.alloc z5 _) hgrow6 (by simp; omega) (fun _ h => (hob5.lt _ h).1))
          go_roundw
          case rel => first | exact ⟨j + 1, nn + 1, c6, A6, _, by omega, rfl, by omega, by omega, rfl, by rw [beTo_succ, ← List.append_assoc]; exact hown6, B6⟩ | ((repeat apply Exists.intro); exact ⟨⟨j + 1, nn + 1, c6, A6, sI - 8, by omega, rfl, by omega, by omega, rfl, by rw [beTo_succ, ← List.append_assoc]; exact hown6, B6⟩, rfl⟩)
          case measure => simp [intOf]; omega
        · have hj8 : j = 4 := by omega
          subst hj8
          have q0 : sI < 0 := by omega
          go_wp2
          go_roundw
          case rel => exact ⟨2 + 1, nn, c5, A5, by omega, rfl, rfl, by rw [beTo_all] at hob5; exact hob5, hbl5⟩
          case measure => simp [intOf]
    · go_wp2
      go_ret
      refine ⟨AP, cp, ?_, ?_, hbl⟩
      · rw [show (putB a b c).length = n5 from HN5.out.symm]; rfl
      · rw [show (putB a b c).length = n5 from HN5.out.symm]; exact hob
end Go.Proofs.YtojkbndaleiaaaaDoor
