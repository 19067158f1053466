/- append onto an empty slice of the call's own makes new memory alone. -/
import Derived.Test.YtpnhdocimjkakaaPn6
import Derived.Test.YtpnhdocimjkakaaPn8
import Derived.BigRegion
import Derived.Laws.BitsLemmas
import Derived.Test.YtpnhdocimjkakaaPn2
import Derived.Test.YtpnhdocimjkakaaPn1
import Derived.Maps.Range
import Derived.Laws.CopyRow
namespace Go.Proofs.Ytpnhdocimjkakaa
open Go.RowKit

theorem keptF {W w1 : World} {p : Addr} (hb : Below W.heap.size W w1) (hp : p.block < W.heap.size) (h : W.frozen? p = false) : w1.frozen? p = false := (hb.frozen hp).trans h

theorem three {X : World} {b : Nat} {r0 r1 r2 : Value} (h0 : X.cell? ⟨b, 0, none⟩ = some r0) (h1 : X.cell? ⟨b, 1, none⟩ = some r1) (h2 : X.cell? ⟨b, 2, none⟩ = some r2) :
    (∀ u, (X.setCell ⟨b, 0, none⟩ u).cell? ⟨b, 0, none⟩ = some u) ∧ (∀ u v, ((X.setCell ⟨b, 0, none⟩ u).setCell ⟨b, 1, none⟩ v).cell? ⟨b, 1, none⟩ = some v) ∧
    (∀ u v y, (((X.setCell ⟨b, 0, none⟩ u).setCell ⟨b, 1, none⟩ v).setCell ⟨b, 2, none⟩ y).cell? ⟨b, 2, none⟩ = some y) := by
  have g1 : ∀ u, (X.setCell ⟨b, 0, none⟩ u).cell? ⟨b, 1, none⟩ = some r1 := fun u => by
    rw [World.cell?_setCell_other]
    · exact h1
    · simp
  have g2 : ∀ u v, ((X.setCell ⟨b, 0, none⟩ u).setCell ⟨b, 1, none⟩ v).cell? ⟨b, 2, none⟩ = some r2 := fun u v => by
    rw [World.cell?_setCell_other]
    · rw [World.cell?_setCell_other]
      · exact h2
      · simp
    · simp
  exact ⟨fun u => World.cell?_setCell_same (w := X) (a := ⟨b, 0, none⟩) (v := u) h0, fun u v => World.cell?_setCell_same (w := X.setCell ⟨b, 0, none⟩ u) (a := ⟨b, 1, none⟩) (v := v) (g1 u), fun u v y => World.cell?_setCell_same (w := (X.setCell ⟨b, 0, none⟩ u).setCell ⟨b, 1, none⟩ v) (a := ⟨b, 2, none⟩) (v := y) (g2 u v)⟩

def sg (v : Nat) : Int := if v < 9223372036854775808 then v else v - 18446744073709551616
theorem sg_low {v : Nat} (h : v < 9223372036854775808) : sg v = v := if_pos h
theorem or_sg {x b : Nat} (hx : x < 72057594037927936) (hb : b < 256) : bits .or .i64 (IntKind.i64.wrap ((x : Int) * 256)) (b : Int) = sg (x * 256 + b) := by
  have hw : (BitVec.ofInt 64 (IntKind.i64.wrap ((x : Int) * 256))).toNat = x * 256 := by
    rw [IntKind.wrap_i64, BitVec.toNat_ofInt]; omega
  have hb' : (BitVec.ofInt 64 (b : Int)).toNat = b := by rw [BitVec.toNat_ofInt]; omega
  show IntKind.i64.wrap ((BitVec.ofInt 64 (IntKind.i64.wrap ((x : Int) * 256)) ||| BitVec.ofInt 64 (b : Int)).toNat : Int) = _
  rw [BitVec.toNat_or, hw, hb', nat_join 8 (x * 256) b (by omega) (by omega), IntKind.wrap_i64]
  unfold sg; split <;> omega

/-- What is known of the call's own memory in Get's loops: its result's variable, and its three parts. -/
structure GetW (w : World) (x0 x1 x2 : Int) (wr : World) : Prop where
  bl : Below w.heap.size w wr
  sz : w.heap.size + 2 ≤ wr.heap.size
  r0 : wr.cell? ⟨w.heap.size, 0, none⟩ = some (.int .i64 0)
  r1 : wr.cell? ⟨w.heap.size, 1, none⟩ = some (.int .u32 0)
  r2 : wr.cell? ⟨w.heap.size, 2, none⟩ = some (.int .u32 0)
  rf : ∀ i, wr.frozen? ⟨w.heap.size, i, none⟩ = false
  p0 : wr.cell? ⟨w.heap.size + 1, 0, none⟩ = some (.int .i64 x0)
  p1 : wr.cell? ⟨w.heap.size + 1, 1, none⟩ = some (.int .i64 x1)
  p2 : wr.cell? ⟨w.heap.size + 1, 2, none⟩ = some (.int .i64 x2)
  pf : ∀ i, wr.frozen? ⟨w.heap.size + 1, i, none⟩ = false

theorem or_sg64 {x b : Nat} (hx : x < 72057594037927936) (hb : b < 256) : bits .or .i64 (wrap64 ((x : Int) * 256)) (b : Int) = sg (x * 256 + b) := by
  have : wrap64 ((x : Int) * 256) = IntKind.i64.wrap ((x : Int) * 256) := by rw [IntKind.wrap_i64]; unfold wrap64; omega
  rw [this]; exact or_sg hx hb
section
variable {w wr : World} {x0 x1 x2 y : Int}
theorem GetW.set_ (J : GetW w x0 x1 x2 wr) (i : Nat) (y : Int) : Below w.heap.size w (wr.setCell ⟨w.heap.size + 1, i, none⟩ (.int .i64 y)).drew ∧ w.heap.size + 2 ≤ (wr.setCell ⟨w.heap.size + 1, i, none⟩ (.int .i64 y)).drew.heap.size ∧
    (∀ b j v, (b ≠ w.heap.size + 1 ∨ j ≠ i) → wr.cell? ⟨b, j, none⟩ = some v → (wr.setCell ⟨w.heap.size + 1, i, none⟩ (.int .i64 y)).drew.cell? ⟨b, j, none⟩ = some v) ∧
    (∀ v, wr.cell? ⟨w.heap.size + 1, i, none⟩ = some v → (wr.setCell ⟨w.heap.size + 1, i, none⟩ (.int .i64 y)).drew.cell? ⟨w.heap.size + 1, i, none⟩ = some (.int .i64 y)) ∧
    (∀ b j, wr.frozen? ⟨b, j, none⟩ = false → (wr.setCell ⟨w.heap.size + 1, i, none⟩ (.int .i64 y)).drew.frozen? ⟨b, j, none⟩ = false) := by
  refine ⟨(J.bl.setCell (by simp) _).drew, by simpa using J.sz, fun b j v hne h => ?_, fun v h => ?_, fun b j h => ?_⟩
  · show (wr.setCell ⟨w.heap.size + 1, i, none⟩ (.int .i64 y)).cell? _ = _
    rw [World.cell?_setCell_other]
    · exact h
    · intro e
      injection e with e1 e2
      rcases hne with h' | h'
      · exact h' e1.symm
      · exact h' e2.symm
  · show (wr.setCell ⟨w.heap.size + 1, i, none⟩ (.int .i64 y)).cell? _ = _
    exact World.cell?_setCell_same (w := wr) (a := ⟨w.heap.size + 1, i, none⟩) (v := .int .i64 y) h
  · simpa using h
theorem GetW.set0 (J : GetW w x0 x1 x2 wr) (y : Int) : GetW w y x1 x2 (wr.setCell ⟨w.heap.size + 1, 0, none⟩ (.int .i64 y)).drew := by
  obtain ⟨h1, h2, h3, h4, h5⟩ := J.set_ 0 y
  exact ⟨h1, h2, h3 _ _ _ (.inl (by omega)) J.r0, h3 _ _ _ (.inl (by omega)) J.r1, h3 _ _ _ (.inl (by omega)) J.r2, fun i => h5 _ _ (J.rf i), h4 _ J.p0, h3 _ _ _ (.inr (by omega)) J.p1, h3 _ _ _ (.inr (by omega)) J.p2, fun i => h5 _ _ (J.pf i)⟩
theorem GetW.set1 (J : GetW w x0 x1 x2 wr) (y : Int) : GetW w x0 y x2 (wr.setCell ⟨w.heap.size + 1, 1, none⟩ (.int .i64 y)).drew := by
  obtain ⟨h1, h2, h3, h4, h5⟩ := J.set_ 1 y
  exact ⟨h1, h2, h3 _ _ _ (.inl (by omega)) J.r0, h3 _ _ _ (.inl (by omega)) J.r1, h3 _ _ _ (.inl (by omega)) J.r2, fun i => h5 _ _ (J.rf i), h3 _ _ _ (.inr (by omega)) J.p0, h4 _ J.p1, h3 _ _ _ (.inr (by omega)) J.p2, fun i => h5 _ _ (J.pf i)⟩
theorem GetW.set2 (J : GetW w x0 x1 x2 wr) (y : Int) : GetW w x0 x1 y (wr.setCell ⟨w.heap.size + 1, 2, none⟩ (.int .i64 y)).drew := by
  obtain ⟨h1, h2, h3, h4, h5⟩ := J.set_ 2 y
  exact ⟨h1, h2, h3 _ _ _ (.inl (by omega)) J.r0, h3 _ _ _ (.inl (by omega)) J.r1, h3 _ _ _ (.inl (by omega)) J.r2, fun i => h5 _ _ (J.rf i), h3 _ _ _ (.inr (by omega)) J.p0, h3 _ _ _ (.inr (by omega)) J.p1, h4 _ J.p2, fun i => h5 _ _ (J.pf i)⟩
end

end Go.Proofs.Ytpnhdocimjkakaa
namespace Go.Proofs.Ytpnhdocimjkakaa
open Go.RowKit

/-- The first loop has laid the places from i + 1 on; the second one those of the two halves. -/
def HalfA (a : Int) (i : Nat) (m : List UInt8) : Prop := m.length = 16 ∧ ∀ q, i ≤ q → q < 8 → m[q]? = some (UInt8.ofNat (u64N a / 256 ^ (7 - q)))
def HalfB (a b c : Int) (i : Nat) (m : List UInt8) : Prop := m.length = 16 ∧ (∀ q, q < 8 → m[q]? = some (UInt8.ofNat (u64N a / 256 ^ (7 - q)))) ∧
  (∀ q, i ≤ q → q < 4 → m[8 + q]? = some (UInt8.ofNat (u64N b / 256 ^ (3 - q)))) ∧ (∀ q, i ≤ q → q < 4 → m[12 + q]? = some (UInt8.ofNat (u64N c / 256 ^ (3 - q))))
theorem HalfA.set {a : Int} {i : Nat} {m : List UInt8} (h : HalfA a (i + 1) m) (hi : i < 8) : HalfA a i (m.set i (UInt8.ofNat (u64N a / 256 ^ (7 - i)))) := by
  refine ⟨by rw [List.length_set]; exact h.1, fun q h1 h2 => ?_⟩
  by_cases e : q = i
  · subst e; rw [List.getElem?_set_self (by rw [h.1]; omega)]
  · rw [List.getElem?_set_ne (by omega)]; exact h.2 q (by omega) h2
theorem HalfA.full {a b c : Int} {m : List UInt8} (h : HalfA a 0 m) : HalfB a b c 4 m := ⟨h.1, fun q hq => h.2 q (by omega) hq, fun q h1 h2 => absurd h1 (by omega), fun q h1 h2 => absurd h1 (by omega)⟩
theorem HalfB.set {a b c : Int} {i : Nat} {m : List UInt8} (h : HalfB a b c (i + 1) m) (hi : i < 4) : HalfB a b c i ((m.set (8 + i) (UInt8.ofNat (u64N b / 256 ^ (3 - i)))).set (12 + i) (UInt8.ofNat (u64N c / 256 ^ (3 - i)))) := by
  obtain ⟨h0, h1, h2, h3⟩ := h
  refine ⟨by rw [List.length_set, List.length_set]; exact h0, fun q hq => ?_, fun q q1 q2 => ?_, fun q q1 q2 => ?_⟩
  · rw [List.getElem?_set_ne (by omega), List.getElem?_set_ne (by omega)]; exact h1 q hq
  · rw [List.getElem?_set_ne (by omega)]
    by_cases e : q = i
    · subst e; rw [List.getElem?_set_self (by omega)]
    · rw [List.getElem?_set_ne (by omega)]; exact h2 q (by omega) q2
  · by_cases e : q = i
    · subst e; rw [List.getElem?_set_self (by rw [List.length_set]; omega)]
    · rw [List.getElem?_set_ne (by omega), List.getElem?_set_ne (by omega)]; exact h3 q (by omega) q2
theorem HalfB.full {a b c : Int} {m : List UInt8} (h : HalfB a b c 0 m) : m = putB a b c := by
  obtain ⟨h0, h1, h2, h3⟩ := h
  apply List.ext_getElem?
  intro q
  rcases Nat.lt_or_ge q 8 with hq | hq
  · rw [h1 q hq, putB, List.append_assoc, List.getElem?_append_left (by rw [beN_length]; exact hq)]
    simp [beN, hq]
  rcases Nat.lt_or_ge q 12 with hq2 | hq2
  · have := h2 (q - 8) (by omega) (by omega)
    rw [show 8 + (q - 8) = q by omega] at this
    rw [this, putB, List.append_assoc, List.getElem?_append_right (by rw [beN_length]; omega), beN_length, List.getElem?_append_left (by rw [beN_length]; omega)]
    simp [beN, show q - 8 < 4 by omega]
  rcases Nat.lt_or_ge q 16 with hq3 | hq3
  · have := h3 (q - 12) (by omega) (by omega)
    rw [show 12 + (q - 12) = q by omega] at this
    rw [this, putB, List.getElem?_append_right (by rw [List.length_append, beN_length, beN_length]; omega), List.length_append, beN_length, beN_length]
    simp [beN, show q - (8 + 4) < 4 by omega]
  · rw [List.getElem?_eq_none (by omega), List.getElem?_eq_none (by rw [putB_length]; omega)]

theorem u64_wrap (a : Int) : IntKind.u64.wrap a = (u64N a : Int) := by
  have : IntKind.u64.wrap a = a % 18446744073709551616 := by simp [IntKind.wrap, IntKind.bits, IntKind.signed]
  rw [this]; unfold u64N; omega
theorem u64_in {x : Nat} (h : x < 18446744073709551616) : IntKind.u64.wrap ((x : Int) / 256) = (x : Int) / 256 := by
  have : IntKind.u64.wrap ((x : Int) / 256) = (x : Int) / 256 % 18446744073709551616 := by simp [IntKind.wrap, IntKind.bits, IntKind.signed]
  rw [this]; omega
theorem mod_byte (x : Nat) : (x : Int) % 256 = ((UInt8.ofNat x).toNat : Int) := by simp
theorem u64N_nat {b : Int} (h0 : 0 ≤ b) (h1 : b ≤ 4294967295) : b = (u64N b : Int) := by unfold u64N; omega
theorem div_step (x k : Nat) : x / 256 ^ k / 256 = x / 256 ^ (k + 1) := by rw [Nat.div_div_eq_div_mul, Nat.pow_succ]
theorem half_made {w1 : World} {K : Nat} {v : Value} {a : Int} (h : w1.ownsRow K 5 1 v 16 (madeCells (Value.int .u8 0).cells (16 * 1)).toList) : ∃ m, Ob w1 K v m ∧ HalfA a 8 m :=
  ⟨List.replicate 16 0, by
    unfold Ob
    have e : (madeCells (Value.int .u8 0).cells (16 * 1)).toList = (List.replicate 16 (0 : UInt8)).map bv := by
      show (madeCells #[Value.int .u8 0] 16).toList = _
      rw [toList_madeCells_one]
      rfl
    rw [← e]
    exact h, by simp, fun q h1 h2 => absurd h2 (by omega)⟩

end Go.Proofs.Ytpnhdocimjkakaa
namespace Go.Proofs.Ytpnhdocimjkakaa
open Go.RowKit

theorem behind_any (n : Nat) (w : World) (h1 : n ≤ 18446744073709551615) :
    Calls Try.prog 127 #[.int .u64 (n : Int)] w fun e w' => e = .returned (.int .i64 (kN n : Int)) ∧ w = w' := by
  have hc := len64_any n w h1
  have HC := Lib.hid hc
  have hb := bitLen_le n
  by_cases h : n ≤ 247
  · have hk := kN_low h
    rw [hk]
    clear hc hk hb
    go_enter Try.func127, Try.ntmps127
    go_wp2_with fail
    go_ret
    exact ⟨rfl, rfl⟩
  · have hk := kN_high (n := n) (by omega)
    rw [hk]
    clear hc hk
    generalize Lib.bitLen n = b at *
    have hn : ¬ ((n : Int) ≤ 247) := by omega
    go_enter Try.func127, Try.ntmps127
    go_wp2_with (go_at_call 135; refine HC.out.mono ?_; rintro e w' ⟨rfl, rfl⟩)
    go_ret
    exact ⟨ret_int (by omega), rfl⟩

/-- What an append did: the old row may have grown in place, or the new one is new. -/
structure Gr (w w' : World) (v v' : Value) : Prop where
  g : w.grownBy w' v.ownBlock
  o : v'.ownBlock = v.ownBlock ∨ ∃ j, v'.ownBlock = some j ∧ w.heap.size ≤ j
theorem Gr.refl (w : World) (v : Value) : Gr w w v v := ⟨⟨rfl, rfl, rfl, Nat.le_refl _, fun _ _ _ => rfl⟩, .inl rfl⟩
theorem Gr.step {w w1 w2 : World} {v v1 v2 : Value} (h : Gr w w1 v v1) (o : Obj) (k : (w1.alloc o).grownBy w2 v1.ownBlock) (ho : v2.ownBlock = v1.ownBlock ∨ v2.ownBlock = some (w1.alloc o).heap.size) : Gr w w2 v v2 := by
  have h1 : w.grownBy (w1.alloc o) v.ownBlock := h.g.andThen (World.grownBy_alloc w1 o none) (fun _ e => by cases e)
  refine ⟨h1.andThen k fun j hj => ?_, ?_⟩
  · rcases h.o with e | ⟨i, e, hi⟩
    · exact .inr (e ▸ hj)
    · rw [e] at hj; cases hj; exact .inl hi
  · rcases ho with e | e
    · rw [e]; exact h.o
    · exact .inr ⟨_, e, h1.size⟩
def App (w : World) (K : Nat) (v : Value) (l : List UInt8) (e : Ending) (w' : World) : Prop :=
  ∃ A' c', e = .returned (.slice A' l.length c') ∧ Ob w' K (.slice A' l.length c') l ∧ Gr w w' v (.slice A' l.length c')

set_option maxHeartbeats 1600000 in
theorem appendNum_low (n : Nat) (h1 : n ≤ 247) (K : Nat) (A : Option Addr) (n0 cap : Nat) (l : List UInt8) (w : World) (ho : Ob w K (.slice A n0 cap) l) (hK : K ≤ w.heap.size) (hsz : l.length + 9 ≤ 140737488355328) :
    Calls Try.prog 128 #[.slice A n0 cap, .int .u64 (n : Int)] w (App w K (.slice A n0 cap) (l ++ numB n)) := by
  have hc := behind_any n w (by omega)
  rw [kN_low h1] at hc
  rw [numB_low h1]
  have HC := Lib.hid hc
  clear hc
  have hcell : [Value.int .u8 (n : Int)] = [UInt8.ofNat n].map bv := by simp [bv]; omega
  have HCELL := Lib.hid hcell
  clear hcell
  have hn0 := ho.bs.2
  have HN0 := Lib.hid hn0
  clear hn0
  go_enter Try.func128, Try.ntmps128
  go_wp2_with (first
    | (go_at_call 127; refine HC.out.mono ?_; rintro e w' ⟨rfl, rfl⟩)
    | (at_builtin; refine wpList_app _ rfl (.tmp 11) (.tmp 14) rfl K (.slice A n0 cap) l rfl (ho.alloc _) (some ⟨w.heap.size, 0, none⟩) 1 1 [UInt8.ofNat n] rfl rfl _ (lit_bsH w _ w.heap.size rfl _ 1 _ (show [Value.int .u8 (n : Int)] = _ from HCELL.out) rfl (by decide)) (l ++ [UInt8.ofNat n]).length (by simp) (by simp; omega) (by simp; omega) ?_; intro A6 c6 w6 hown6 hgrow6 hat6))
  go_ret
  exact ⟨A6, c6, by rw [List.length_append]; rfl, hown6, (Gr.refl _ _).step _ hgrow6 hat6⟩
end Go.Proofs.Ytpnhdocimjkakaa
namespace Go.Proofs.Ytpnhdocimjkakaa
open Go.RowKit

set_option maxHeartbeats 800000 in
theorem run_app0 (w : World) (ty : TypeId) {K K' g : Nat} (hown : So encI 1 w K 3 (.slice (some ⟨g, 0, none⟩) 0 0) []) {A : Option Addr} {cap : Nat} {m : List Int} (hsrc : Sr encI 1 w K' A cap m) (hm : m.length ≤ 1048576) (hbase : K ≤ w.heap.size) :
    ∃ A' cap' w', (Builtin.append_ #[29, 29] ty #[.slice (some ⟨g, 0, none⟩) 0 0, .slice A m.length cap]).run Try.prog w = .ok (.slice A' m.length cap') w' ∧ So encI 1 w' K 3 (.slice A' m.length cap') m ∧ Below w.heap.size w w' := by
  obtain ⟨i0, hi, hz0, hz1, hz2⟩ := info_parts info_i64
  by_cases h0 : m = []
  · subst h0
    rcases A with _ | ad
    · have hc := hsrc.nil rfl
      subst hc
      have hrun := run_append_owned_none (P := Try.prog) w K 29 ty 3 i0 1 Try.underlying29 hi _ _ _ hown
      exact ⟨_, _, w, hrun, hown, Below.refl _ _⟩
    · rcases hown.2 with ⟨he, _⟩ | ⟨g', cap', cur, he, hb, hblk, hn, hc, hs, ht⟩
      · cases he
      · injection he with e1 e2 e3
        injection e1 with e1
        injection e1 with e1
        subst e1 e3
        have hrun := run_append_room (P := Try.prog) (w := w) 29 ty 3 i0 Try.underlying29 hi g 0 0 cur hblk ad 0 cap [] (by simp) (fun j u hj => by simp at hj) (fun u hu => by cases hu) (by omega) (by simp)
        have e9 : (cur.toList.take (0 * i0.size) ++ [] ++ cur.toList.drop (0 * i0.size + ([] : List Value).length)).toArray = cur := by simp
        rw [e9, setRow_self w g cur _ _ hblk] at hrun
        exact ⟨_, _, w, hrun, hown, Below.refl _ _⟩
  · have hl : 0 < m.length := List.length_pos_iff.2 h0
    obtain ⟨ad, rfl, _, hcell⟩ := hsrc.at_ hl
    obtain ⟨A', cap', w', hr, h2, _, _⟩ := run_appE (P := Try.prog) (enc := encI) Try.underlying29 info_i64 (by kernel_rfl) (by decide) encI_len encI_one w ty hown hsrc (by unfold maxLen; simp; omega) (by simp; omega) hbase
    have hfl : (m.flatMap encI).length = m.length * i0.size := by rw [flatMap_len encI_len, hz1]
    have hgrow := run_append_grow (P := Try.prog) (w := w) 29 ty 3 i0 (.int .i64 0) Try.underlying29 hi hz0 ⟨g, 0, none⟩ 0 0 [] (by simp) (fun j v hj => by simp at hj) ad m.length cap (m.flatMap encI) hfl (fun j u hj => by
      obtain ⟨i, x, q, e1, e2, e3⟩ := flatMap_split encI_len m j u hj
      rw [e3]
      exact hcell i x e1 q u e2) (by omega) (by omega) (by rw [hz2]; exact growslice_fits (by omega) (by omega))
    rw [List.length_nil] at hr
    rw [hr] at hgrow
    injection hgrow with e1 e2
    refine ⟨A', cap', w', by rw [hr]; simp, by simpa using h2, ?_⟩
    rw [e2]
    exact (show Below w.heap.size w w.drew from ⟨rfl, rfl, rfl, Nat.le_refl _, fun _ _ => rfl⟩).alloc (Nat.le_refl _) _
end Go.Proofs.Ytpnhdocimjkakaa
