/- The document's Put. -/
import Derived.Test.YtojkbndaleiaaaaDoorPut
namespace Go.Proofs.YtojkbndaleiaaaaDoor
open Go.RowKit

/-- The first loop has laid the places from i + 1 on; the second one those of the two halves. -/
def HalfA (a : Int) (i : Nat) (m : List UInt8) : Prop := m.length = 16 ∧ ∀ q, i ≤ q → q < 8 → m[q]? = some (UInt8.ofNat (u64N a / 256 ^ (7 - q)))
def HalfB (a b c : Int) (i : Nat) (m : List UInt8) : Prop := m.length = 16 ∧ (∀ q, q < 8 → m[q]? = some (UInt8.ofNat (u64N a / 256 ^ (7 - q)))) ∧
  (∀ q, i ≤ q → q < 4 → m[8 + q]? = some (UInt8.ofNat (u64N b / 256 ^ (3 - q)))) ∧ (∀ q, i ≤ q → q < 4 → m[12 + q]? = some (UInt8.ofNat (u64N c / 256 ^ (3 - q))))
theorem HalfA.set {a : Int} {i : Nat} {m : List UInt8} (h : HalfA a (i + 1) m) (hi : i < 8) : HalfA a i (m.set i (UInt8.ofNat (u64N a / 256 ^ (7 - i)))) := by
  refine ⟨by rw [List.length_set]; exact h.1, fun q h1 h2 => ?_⟩
  by_cases e : q = i
  · subst e; rw [List.getElem?_set_self (by rw [h.1]; omega)]
  · rw [List.getElem?_set_ne (by omega)]; exact h.2 q (by omega) h2
theorem HalfA.full {a b c : Int} {m : List UInt8} (h : HalfA a 0 m) : HalfB a b c 4 m := ⟨h.1, fun q hq => h.2 q (by omega) hq, fun q h1 h2 => absurd h1 (by omega), fun q h1 h2 => absurd h1 (by omega)⟩
theorem HalfB.set {a b c : Int} {i : Nat} {m : List UInt8} (h : HalfB a b c (i + 1) m) (hi : i < 4) : HalfB a b c i ((m.set (8 + i) (UInt8.ofNat (u64N b / 256 ^ (3 - i)))).set (12 + i) (UInt8.ofNat (u64N c / 256 ^ (3 - i)))) := by
  obtain ⟨h0, h1, h2, h3⟩ := h
  refine ⟨by rw [List.length_set, List.length_set]; exact h0, fun q hq => ?_, fun q q1 q2 => ?_, fun q q1 q2 => ?_⟩
  · rw [List.getElem?_set_ne (by omega), List.getElem?_set_ne (by omega)]; exact h1 q hq
  · rw [List.getElem?_set_ne (by omega)]
    by_cases e : q = i
    · subst e; rw [List.getElem?_set_self (by omega)]
    · rw [List.getElem?_set_ne (by omega)]; exact h2 q (by omega) q2
  · by_cases e : q = i
    · subst e; rw [List.getElem?_set_self (by rw [List.length_set]; omega)]
    · rw [List.getElem?_set_ne (by omega), List.getElem?_set_ne (by omega)]; exact h3 q (by omega) q2
theorem HalfB.full {a b c : Int} {m : List UInt8} (h : HalfB a b c 0 m) : m = putB a b c := by
  obtain ⟨h0, h1, h2, h3⟩ := h
  apply List.ext_getElem?
  intro q
  rcases Nat.lt_or_ge q 8 with hq | hq
  · rw [h1 q hq, putB, List.append_assoc, List.getElem?_append_left (by rw [beN_length]; exact hq)]
    simp [beN, hq]
  rcases Nat.lt_or_ge q 12 with hq2 | hq2
  · have := h2 (q - 8) (by omega) (by omega)
    rw [show 8 + (q - 8) = q by omega] at this
    rw [this, putB, List.append_assoc, List.getElem?_append_right (by rw [beN_length]; omega), beN_length, List.getElem?_append_left (by rw [beN_length]; omega)]
    simp [beN, show q - 8 < 4 by omega]
  rcases Nat.lt_or_ge q 16 with hq3 | hq3
  · have := h3 (q - 12) (by omega) (by omega)
    rw [show 12 + (q - 12) = q by omega] at this
    rw [this, putB, List.getElem?_append_right (by rw [List.length_append, beN_length, beN_length]; omega), List.length_append, beN_length, beN_length]
    simp [beN, show q - (8 + 4) < 4 by omega]
  · rw [List.getElem?_eq_none (by omega), List.getElem?_eq_none (by rw [putB_length]; omega)]

theorem u64_wrap (a : Int) : IntKind.u64.wrap a = (u64N a : Int) := by
  have : IntKind.u64.wrap a = a % 18446744073709551616 := by simp [IntKind.wrap, IntKind.bits, IntKind.signed]
  rw [this]; unfold u64N; omega
theorem u64_in {x : Nat} (h : x < 18446744073709551616) : IntKind.u64.wrap ((x : Int) / 256) = (x : Int) / 256 := by
  have : IntKind.u64.wrap ((x : Int) / 256) = (x : Int) / 256 % 18446744073709551616 := by simp [IntKind.wrap, IntKind.bits, IntKind.signed]
  rw [this]; omega
theorem mod_byte (x : Nat) : (x : Int) % 256 = ((UInt8.ofNat x).toNat : Int) := by simp
theorem u64N_nat {b : Int} (h0 : 0 ≤ b) (h1 : b ≤ 4294967295) : b = (u64N b : Int) := by unfold u64N; omega
theorem div_step (x k : Nat) : x / 256 ^ k / 256 = x / 256 ^ (k + 1) := by rw [Nat.div_div_eq_div_mul, Nat.pow_succ]
theorem half_made {w1 : World} {K : Nat} {v : Value} {a : Int} (h : w1.ownsRow K 5 1 v 16 (madeCells (Value.int .u8 0).cells (16 * 1)).toList) : ∃ m, Ob w1 K v m ∧ HalfA a 8 m :=
  ⟨List.replicate 16 0, by
    unfold Ob
    have e : (madeCells (Value.int .u8 0).cells (16 * 1)).toList = (List.replicate 16 (0 : UInt8)).map bv := by
      show (madeCells #[Value.int .u8 0] 16).toList = _
      rw [toList_madeCells_one]
      rfl
    rw [← e]
    exact h, by simp, fun q h1 h2 => absurd h2 (by omega)⟩

set_option maxRecDepth 100000 in
set_option maxHeartbeats 3200000 in
theorem refPut_any (a b c : Int) (w : World) (hb : 0 ≤ b ∧ b ≤ 4294967295) (hc : 0 ≤ c ∧ c ≤ 4294967295) :
    Calls Tryd.prog 47 #[.agg #[.int .i64 a, .int .u32 b, .int .u32 c]] w (NewBytes w (putB a b c)) := by
  obtain ⟨i0, hi, hz0, hz1, hz2⟩ := info_parts info_u8
  have hu := u64_wrap a
  have hbn := u64N_nat hb.1 hb.2
  have hcn := u64N_nat hc.1 hc.2
  have hul := u64N_lt a
  have hbl : u64N b < 4294967296 := by omega
  have hcl : u64N c < 4294967296 := by omega
  generalize hua : u64N a = ua at *
  generalize hub : u64N b = ub at *
  generalize huc : u64N c = uc at *
  subst hbn hcn
  have HUA := Lib.hid hua
  have HUB := Lib.hid hub
  have HUC := Lib.hid huc
  have HUL := Lib.hid hul
  clear hb hc hua hub huc hul
  go_enter Tryd.func47, Tryd.ntmps47
  go_wp2_with (at_make; refine wpList_make_full _ rfl _ _ 23 rfl w.heap.size 5 i0 (.int .u8 0) 1 Tryd.underlying23 hi hz0 hz1 _ _ _ _ 16 rfl rfl rfl rfl (by rw [hz2]; omega) (by unfold maxLen; omega) (by simp) ?_; intro w1 hown1 hgrow1; have B0 : Below (w.heap.size + 1) (w.alloc (.cells #[.int .i64 a, .int .u32 ub, .int .u32 uc] 37)) w1 := (Below.refl _ _).grown hgrow1 (by simp) (by simp); have m0 : w1.cell? ⟨w.heap.size, 0, none⟩ = some (.int .i64 a) := (B0.cell (p := ⟨w.heap.size, 0, none⟩) (by simp)).trans (by simp); have m1 : w1.cell? ⟨w.heap.size, 1, none⟩ = some (.int .u32 ub) := (B0.cell (p := ⟨w.heap.size, 1, none⟩) (by simp)).trans (by simp); have m2 : w1.cell? ⟨w.heap.size, 2, none⟩ = some (.int .u32 uc) := (B0.cell (p := ⟨w.heap.size, 2, none⟩) (by simp)).trans (by simp))
  clear m0 m1 m2 hu hgrow1
  have B1 : Below w.heap.size w w1 := ((Below.refl _ w).alloc (Nat.le_refl _) _).trans (B0.mono (by omega))
  rw [World.size_alloc] at hown1
  obtain ⟨m0, hob0, hh0⟩ := half_made (a := a) hown1
  clear hown1 B0
  go_loopw [4, 7] (fun x i wr => ∃ (r : Nat) (iI : Int) (m : List UInt8), r ≤ 8 ∧ i = .int .i64 iI ∧ iI ≤ (r : Int) - 1 ∧ (r : Int) - 1 ≤ iI ∧ x = .int .u64 ((ua / 256 ^ (8 - r) : Nat) : Int) ∧ HalfA a r m ∧ Ob wr w.heap.size (.slice (some ⟨w.heap.size + 1, 0, none⟩) 16 16) m ∧ Below w.heap.size w wr) (fun _ i _ => (intOf i + 1).toNat)
  case atStart => exact ⟨8, _, m0, by omega, rfl, by omega, by omega, by simp, hh0, hob0, B1⟩
  case round =>
    obtain ⟨r, iI, m, hr, rfl, hi1, hi2, rfl, hh, hob, hbl5⟩ := hrel
    cases r with
    | succ q =>
      have hiq : iI = (q : Int) := by omega
      subst hiq
      have hq8 : q < 8 := by omega
      obtain ⟨s1, s2, _⟩ := hob.slot (k := q) (by rw [hh.1]; omega)
      generalize m[q]'_ = v0 at s1
      have hst := hob.stored q (UInt8.ofNat (ua / 256 ^ (7 - q)))
      have hh2 := hh.set hq8
      rw [HUA.out] at hh2
      have e8 : 8 - (q + 1) = 7 - q := by omega
      have e9 : ua / 256 ^ (7 - q) / 256 = ua / 256 ^ (8 - q) := by rw [div_step]; congr 2; omega
      have hxl : ua / 256 ^ (7 - q) < 18446744073709551616 := Nat.lt_of_le_of_lt (Nat.div_le_self _ _) HUL.out
      rw [e8]
      generalize ua / 256 ^ (7 - q) = x at *
      have hst' : Ob (wr.setCell ⟨w.heap.size + 1, q, none⟩ (.int .u8 ((x : Int) % 256))) w.heap.size (.slice (some ⟨w.heap.size + 1, 0, none⟩) 16 16) (m.set q (UInt8.ofNat x)) := by rw [mod_byte]; exact hst
      have HST := Lib.hid hst'
      have HH := Lib.hid hh2
      have E9 := Lib.hid e9
      have HXL := Lib.hid hxl
      clear hst hst' hh2 e8 e9 hh hob hi1 hi2 hxl hob0 hh0
      go_wp2
      go_roundw
      case rel => exact ⟨q, _, m.set q (UInt8.ofNat x), by omega, rfl, by omega, by omega, by rw [← E9.out, u64_in HXL.out]; simp, HH.out, HST.out, hbl5.setCell (by simp) _⟩
      case measure => simp [intOf] <;> omega
    | zero =>
      have hneg : iI < 0 := by omega
      have hh4 := hh.full (b := (ub : Int)) (c := (uc : Int))
      generalize hx0 : ua / 256 ^ (8 - 0) = x0
      clear hi1 hi2 hob0 hh0 hh hx0
      go_wp2
      go_loopw [5, 6, 8] (fun x y i wr => ∃ (r : Nat) (iI : Int) (m : List UInt8), r ≤ 4 ∧ i = .int .i64 iI ∧ iI ≤ (r : Int) - 1 ∧ (r : Int) - 1 ≤ iI ∧ x = .int .u32 ((ub / 256 ^ (4 - r) : Nat) : Int) ∧ y = .int .u32 ((uc / 256 ^ (4 - r) : Nat) : Int) ∧ HalfB a ub uc r m ∧ Ob wr w.heap.size (.slice (some ⟨w.heap.size + 1, 0, none⟩) 16 16) m ∧ Below w.heap.size w wr) (fun _ _ i _ => (intOf i + 1).toNat)
      case atStart => exact ⟨4, _, m, by omega, rfl, by omega, by omega, by simp, by simp, hh4, hob, hbl5⟩
      case round =>
        obtain ⟨r, iI, m, hr, rfl, hi1, hi2, rfl, rfl, hh, hob, hbl6⟩ := hrel
        clear hh4 hneg
        cases r with
        | succ q =>
          have hiq : iI = (q : Int) := by omega
          subst hiq
          have hq4 : q < 4 := by omega
          have hml := hh.1
          obtain ⟨s1, s2, _⟩ := hob.slot (k := 8 + q) (by omega)
          obtain ⟨s3, s4, _⟩ := hob.slot (k := 12 + q) (by omega)
          generalize m[8 + q]'_ = v0 at s1
          generalize m[12 + q]'_ = v1 at s3
          have hst := (hob.stored (8 + q) (UInt8.ofNat (ub / 256 ^ (3 - q)))).stored (12 + q) (UInt8.ofNat (uc / 256 ^ (3 - q)))
          have hh2 := hh.set hq4
          rw [HUB.out, HUC.out] at hh2
          have e8 : 4 - (q + 1) = 3 - q := by omega
          have e9 : ub / 256 ^ (3 - q) / 256 = ub / 256 ^ (4 - q) := by rw [div_step]; congr 2; omega
          have e10 : uc / 256 ^ (3 - q) / 256 = uc / 256 ^ (4 - q) := by rw [div_step]; congr 2; omega
          have hxl : ub / 256 ^ (3 - q) < 4294967296 := Nat.lt_of_le_of_lt (Nat.div_le_self _ _) hbl
          have hyl : uc / 256 ^ (3 - q) < 4294967296 := Nat.lt_of_le_of_lt (Nat.div_le_self _ _) hcl
          rw [e8]
          generalize ub / 256 ^ (3 - q) = x at *
          generalize uc / 256 ^ (3 - q) = y at *
          have hst' : Ob ((wr.setCell ⟨w.heap.size + 1, 8 + q, none⟩ (.int .u8 ((x : Int) % 256))).setCell ⟨w.heap.size + 1, 12 + q, none⟩ (.int .u8 ((y : Int) % 256))) w.heap.size (.slice (some ⟨w.heap.size + 1, 0, none⟩) 16 16) ((m.set (8 + q) (UInt8.ofNat x)).set (12 + q) (UInt8.ofNat y)) := by rw [mod_byte, mod_byte]; exact hst
          have HST := Lib.hid hst'
          have HH := Lib.hid hh2
          have E9 := Lib.hid e9
          have E10 := Lib.hid e10
          have s5 : (wr.setCell ⟨w.heap.size + 1, 8 + q, none⟩ (.int .u8 ((x : Int) % 256))).cell? ⟨w.heap.size + 1, 12 + q, none⟩ = some (bv v1) := (World.cell?_setCell_other _ _ _ _ (by simp)).trans s3
          clear hst hst' hh2 e8 e9 e10 hh hob hi1 hi2 hml s3
          go_wp2
          go_roundw
          case rel => exact ⟨q, _, _, by omega, rfl, by omega, by omega, by rw [← E9.out]; go_num, by rw [← E10.out]; go_num, HH.out, HST.out, (hbl6.setCell (by simp) _).setCell (by simp) _⟩
          case measure => simp [intOf] <;> omega
        | zero =>
          have hneg : iI < 0 := by omega
          have hfull := hh.full
          subst hfull
          clear hi1 hi2 hh
          generalize ub / 256 ^ (4 - 0) = x0
          generalize uc / 256 ^ (4 - 0) = y0
          go_wp2
          go_ret
          exact ⟨_, 16, by rw [putB_length]; rfl, by rw [putB_length]; exact hob, hbl6⟩
end Go.Proofs.YtojkbndaleiaaaaDoor
