/- A law for a statement whose order is open, with two calls that turn memory: of each value a predicate that both leave. -/
import Derived.Test.YtcgkbpjfbahleaaChA
import Derived.Test.YtcgkbpjfbahleaaChZ
import Derived.IntWalk
import Derived.LoopTactic
import Derived.Deep.QuietTactic
import Derived.BigQuiet
import Derived.Test.YtcgkbpjfbahleaaChB
import Derived.Deep.RegionLaw
namespace Go.Proofs.Ytcgkbpjfbahleaa
open Go.RowKit

/-- The first loop has laid the places from i + 1 on; the second one those of the two halves. -/
def HalfA (a : Int) (i : Nat) (m : List UInt8) : Prop := m.length = 16 ∧ ∀ q, i ≤ q → q < 8 → m[q]? = some (UInt8.ofNat (u64N a / 256 ^ (7 - q)))
def HalfB (a b c : Int) (i : Nat) (m : List UInt8) : Prop := m.length = 16 ∧ (∀ q, q < 8 → m[q]? = some (UInt8.ofNat (u64N a / 256 ^ (7 - q)))) ∧
  (∀ q, i ≤ q → q < 4 → m[8 + q]? = some (UInt8.ofNat (u64N b / 256 ^ (3 - q)))) ∧ (∀ q, i ≤ q → q < 4 → m[12 + q]? = some (UInt8.ofNat (u64N c / 256 ^ (3 - q))))
theorem HalfA.set {a : Int} {i : Nat} {m : List UInt8} (h : HalfA a (i + 1) m) (hi : i < 8) : HalfA a i (m.set i (UInt8.ofNat (u64N a / 256 ^ (7 - i)))) := by
  refine ⟨by rw [List.length_set]; exact h.1, fun q h1 h2 => ?_⟩
  by_cases e : q = i
  · subst e; rw [List.getElem?_set_self (by rw [h.1]; omega)]
  · rw [List.getElem?_set_ne (by omega)]; exact h.2 q (by omega) h2
theorem HalfA.full {a b c : Int} {m : List UInt8} (h : HalfA a 0 m) : HalfB a b c 4 m := ⟨h.1, fun q hq => h.2 q (by omega) hq, fun q h1 h2 => absurd h1 (by omega), fun q h1 h2 => absurd h1 (by omega)⟩
theorem HalfB.set {a b c : Int} {i : Nat} {m : List UInt8} (h : HalfB a b c (i + 1) m) (hi : i < 4) : HalfB a b c i ((m.set (8 + i) (UInt8.ofNat (u64N b / 256 ^ (3 - i)))).set (12 + i) (UInt8.ofNat (u64N c / 256 ^ (3 - i)))) := by
  obtain ⟨h0, h1, h2, h3⟩ := h
  refine ⟨by rw [List.length_set, List.length_set]; exact h0, fun q hq => ?_, fun q q1 q2 => ?_, fun q q1 q2 => ?_⟩
  · rw [List.getElem?_set_ne (by omega), List.getElem?_set_ne (by omega)]; exact h1 q hq
  · rw [List.getElem?_set_ne (by omega)]
    by_cases e : q = i
    · subst e; rw [List.getElem?_set_self (by omega)]
    · rw [List.getElem?_set_ne (by omega)]; exact h2 q (by omega) q2
  · by_cases e : q = i
    · subst e; rw [List.getElem?_set_self (by rw [List.length_set]; omega)]
    · rw [List.getElem?_set_ne (by omega), List.getElem?_set_ne (by omega)]; exact h3 q (by omega) q2
theorem HalfB.full {a b c : Int} {m : List UInt8} (h : HalfB a b c 0 m) : m = putB a b c := by
  obtain ⟨h0, h1, h2, h3⟩ := h
  apply List.ext_getElem?
  intro q
  rcases Nat.lt_or_ge q 8 with hq | hq
  · rw [h1 q hq, putB, List.append_assoc, List.getElem?_append_left (by rw [beN_length]; exact hq)]
    simp [beN, hq]
  rcases Nat.lt_or_ge q 12 with hq2 | hq2
  · have := h2 (q - 8) (by omega) (by omega)
    rw [show 8 + (q - 8) = q by omega] at this
    rw [this, putB, List.append_assoc, List.getElem?_append_right (by rw [beN_length]; omega), beN_length, List.getElem?_append_left (by rw [beN_length]; omega)]
    simp [beN, show q - 8 < 4 by omega]
  rcases Nat.lt_or_ge q 16 with hq3 | hq3
  · have := h3 (q - 12) (by omega) (by omega)
    rw [show 12 + (q - 12) = q by omega] at this
    rw [this, putB, List.getElem?_append_right (by rw [List.length_append, beN_length, beN_length]; omega), List.length_append, beN_length, beN_length]
    simp [beN, show q - (8 + 4) < 4 by omega]
  · rw [List.getElem?_eq_none (by omega), List.getElem?_eq_none (by rw [putB_length]; omega)]

theorem u64_wrap (a : Int) : IntKind.u64.wrap a = (u64N a : Int) := by
  have : IntKind.u64.wrap a = a % 18446744073709551616 := by simp [IntKind.wrap, IntKind.bits, IntKind.signed]
  rw [this]; unfold u64N; omega
theorem u64_in {x : Nat} (h : x < 18446744073709551616) : IntKind.u64.wrap ((x : Int) / 256) = (x : Int) / 256 := by
  have : IntKind.u64.wrap ((x : Int) / 256) = (x : Int) / 256 % 18446744073709551616 := by simp [IntKind.wrap, IntKind.bits, IntKind.signed]
  rw [this]; omega
theorem mod_byte (x : Nat) : (x : Int) % 256 = ((UInt8.ofNat x).toNat : Int) := by simp
theorem u64N_nat {b : Int} (h0 : 0 ≤ b) (h1 : b ≤ 4294967295) : b = (u64N b : Int) := by unfold u64N; omega
theorem div_step (x k : Nat) : x / 256 ^ k / 256 = x / 256 ^ (k + 1) := by rw [Nat.div_div_eq_div_mul, Nat.pow_succ]
theorem half_made {w1 : World} {K : Nat} {v : Value} {a : Int} (h : w1.ownsRow K 5 1 v 16 (madeCells (Value.int .u8 0).cells (16 * 1)).toList) : ∃ m, Ob w1 K v m ∧ HalfA a 8 m :=
  ⟨List.replicate 16 0, by
    unfold Ob
    have e : (madeCells (Value.int .u8 0).cells (16 * 1)).toList = (List.replicate 16 (0 : UInt8)).map bv := by
      show (madeCells #[Value.int .u8 0] 16).toList = _
      rw [toList_madeCells_one]
      rfl
    rw [← e]
    exact h, by simp, fun q h1 h2 => absurd h2 (by omega)⟩

end Go.Proofs.Ytcgkbpjfbahleaa
namespace Go.Proofs.Ytcgkbpjfbahleaa
open Go.RowKit

set_option maxHeartbeats 800000 in
theorem refInt_any (n : Int) (h0 : -9223372036854775808 ≤ n) (h1 : n ≤ 9223372036854775807) (K : Nat) (A : Option Addr) (n0 cap : Nat) (l : List UInt8) (w : World) (ho : Ob w K (.slice A n0 cap) l) (hK : K ≤ w.heap.size) (hsz : l.length + 9 ≤ 140737488355328) :
    Calls Try.prog 45 #[.slice A n0 cap, .int .i64 n] w (App w K (.slice A n0 cap) (l ++ numB (zz n))) := by
  have hN := refNum_any (zz n) (zz_le h0 h1) K A n0 cap l w ho hK hsz
  clear ho hK hsz
  generalize l ++ numB (zz n) = m at *
  by_cases hn : 0 ≤ n
  · have e : ((zz n : Nat) : Int) = 2 * n := by unfold zz; rw [if_pos hn]; omega
    rw [e] at hN
    have HN := Lib.hid hN
    clear hN e
    go_enter Try.func45, Try.ntmps45
    go_wp2_with (go_at_call 46; refine HN.out.mono ?_; rintro e w1 ⟨A1, c1, rfl, ho1, hg1⟩)
    go_ret
    exact ⟨A1, c1, rfl, ho1, hg1⟩
  · have e : ((zz n : Nat) : Int) = 2 * -(n + 1) + 1 := by unfold zz; rw [if_neg hn]; omega
    rw [e] at hN
    have HN := Lib.hid hN
    clear hN e
    go_enter Try.func45, Try.ntmps45
    go_wp2_with (go_at_call 46; refine HN.out.mono ?_; rintro e w1 ⟨A1, c1, rfl, ho1, hg1⟩)
    go_ret
    exact ⟨A1, c1, rfl, ho1, hg1⟩

theorem takeB_succ (t : ByteArray) (q : Nat) (h : q < t.size) : t.data.toList.take (q + 1) = t.data.toList.take q ++ [t[q]] := by
  rw [List.take_add_one, List.getElem?_eq_getElem (by simpa using h)]
  rfl
end Go.Proofs.Ytcgkbpjfbahleaa
namespace Go.Proofs.Ytcgkbpjfbahleaa
open Go.RowKit Go.BigFrame

def numsB (l : List Int) : List UInt8 := l.flatMap fun n => numB (zz n)
def putV (e p : Int) (ms : List Int) : List UInt8 := numB (zz e) ++ numB (zz p) ++ numB ms.length ++ numsB ms
theorem numsB_snoc (l : List Int) (j : Nat) (h : j < l.length) : numsB (l.take (j + 1)) = numsB (l.take j) ++ numB (zz l[j]) := by
  unfold numsB
  rw [take_snocI l j h, List.flatMap_append]
  simp
theorem numsB_len : ∀ l : List Int, (numsB l).length ≤ 9 * l.length
  | [] => by simp [numsB]
  | x :: l => by
    have := numsB_len l
    unfold numsB at this ⊢
    rw [List.flatMap_cons, List.length_append, numB_length, List.length_cons]
    have := kN_le (zz x)
    omega
theorem Ob.moreB {w : World} {K K' : Nat} {v : Value} {l : List UInt8} (h : Ob w K v l) (hK : K' ≤ K) : Ob w K' v l := by
  rcases h.2 with ⟨he, h0⟩ | ⟨g, cap', cur, he, hb, hg⟩
  · exact ⟨h.1, .inl ⟨he, h0⟩⟩
  · exact ⟨h.1, .inr ⟨g, cap', cur, he, by omega, hg⟩⟩
theorem Gr.below9 {w w' : World} {v v' : Value} {K : Nat} {l : List UInt8} (h : Gr w w' v v') (ho : Ob w K v l) (hK : K ≤ w.heap.size) : Below K w w' :=
  h.tn (b := w.heap.size) |>.below hK fun k hk e => by
    rcases e with e | e
    · omega
    · exact (ho.lt k e).1
inductive Vy where
  | v (u : Value)
  | s (l : List UInt8)
def HB (K : Nat) : Vy → Value → World → Prop
  | .v x, u, _ => u = x
  | .s l, u, w => ∃ A c, u = .slice A l.length c ∧ Ob w K (.slice A l.length c) l
theorem HB.mono {K : Nat} {x : Vy} {u : Value} {w w' : World} (h : HB K x u w) (hb : Below w.heap.size w w') : HB K x u w' := by
  cases x with
  | v y => exact h
  | s l =>
    obtain ⟨A, c, e, r⟩ := h
    exact ⟨A, c, e, (Tn.ofNew (P := fun _ => False) hb).ob r fun _ _ => id⟩
/-- What the document's Put gives. -/
def RPutP (w : World) (e p : Int) (ms : List Int) (en : Ending) (w' : World) : Prop := ∃ A n c, en = .returned (.slice A n c) ∧ n = (putV e p ms).length ∧ Ob w' w.heap.size (.slice A n c) (putV e p ms) ∧ Below w.heap.size w w'
set_option maxRecDepth 100000 in
set_option maxHeartbeats 3200000 in
theorem rput_any (e p : Int) (he : -9223372036854775808 ≤ e ∧ e ≤ 9223372036854775807) (hp : -9223372036854775808 ≤ p ∧ p ≤ 9223372036854775807) (K : Nat) (A : Option Addr) (n cap : Nat) (ms : List Int) (w : World) (hn : ms.length = n) (hs : Sr encI 1 w K A cap ms) (hK : K ≤ w.heap.size)
    (hr : ∀ x ∈ ms, -9223372036854775808 ≤ x ∧ x ≤ 9223372036854775807) (hl : ms.length ≤ 1048576) :
    Calls Try.prog 29 #[.slice none 0 0, .agg #[.int .i64 e, .int .i64 p, .slice A n cap]] w (RPutP w e p ms) := by
  subst hn
  have hle := hs.le
  have hmx := hs.max
  unfold maxLen at hmx
  obtain ⟨W1, hW1⟩ : ∃ W1, W1 = w.alloc (.cells #[.int .i64 e, .int .i64 p, .slice A ms.length cap] 29) := ⟨_, rfl⟩
  have HX0 : Hid (W1.cell? ⟨w.heap.size, 0, none⟩ = some (.int .i64 e)) := Lib.hid (by rw [hW1]; simp [go_sem])
  have HX1 : Hid (W1.cell? ⟨w.heap.size, 1, none⟩ = some (.int .i64 p)) := Lib.hid (by rw [hW1]; simp [go_sem])
  have HX2 : Hid (W1.cell? ⟨w.heap.size, 2, none⟩ = some (.slice A ms.length cap)) := Lib.hid (by rw [hW1]; simp [go_sem])
  have HZ : Hid (w.heap.size < W1.heap.size) := Lib.hid (by rw [hW1]; simp)
  have HZ2 : Hid (w.heap.size ≤ W1.heap.size) := Lib.hid (by rw [hW1]; simp)
  have HW1 : Hid (Below w.heap.size w W1) := Lib.hid (by rw [hW1]; exact (Below.refl _ _).alloc (Nat.le_refl _) _)
  have HSR : Hid (Sr encI 1 W1 W1.heap.size A cap ms) := Lib.hid (by rw [hW1]; exact (hs.alloc hK _).more (by simp; omega))
  have HWQ := Lib.hid hW1
  have HE := Lib.hid he
  have HP := Lib.hid hp
  clear hs hW1 he hp
  obtain ⟨m9, hm9⟩ : ∃ m9, m9 = numB (zz e) ++ numB (zz p) := ⟨_, rfl⟩
  have HM9 := Lib.hid hm9
  have hl9 : m9.length ≤ 18 := by rw [hm9, List.length_append, numB_length, numB_length]; have := kN_le (zz e); have := kN_le (zz p); omega
  obtain ⟨m10, hm10⟩ : ∃ m10, m10 = m9 ++ numB ms.length := ⟨_, rfl⟩
  have HM10 := Lib.hid hm10
  have hl10 : m10.length ≤ 27 := by rw [hm10, List.length_append, numB_length]; have := kN_le ms.length; omega
  clear hm9 hm10
  have HI1 : Hid (∀ W, Below W1.heap.size W1 W → Calls Try.prog 45 #[.slice none 0 0, .int .i64 e] W (App W W1.heap.size (.slice none 0 0) (numB (zz e)))) := Lib.hid fun W h => refInt_any e HE.out.1 HE.out.2 W1.heap.size none 0 0 [] W (Ob.empty _ _) h.size (by simp)
  have HI2 : Hid (∀ W A9 n9 c9, Ob W W1.heap.size (.slice A9 n9 c9) (numB (zz e)) → Below W1.heap.size W1 W → Calls Try.prog 45 #[.slice A9 n9 c9, .int .i64 p] W (App W W1.heap.size (.slice A9 n9 c9) m9)) := Lib.hid fun W A9 n9 c9 ho h => by rw [HM9.out]; exact refInt_any p HP.out.1 HP.out.2 W1.heap.size A9 n9 c9 _ W ho h.size (by have := numB_length (zz e); have := kN_le (zz e); omega)
  go_enter Try.func29, Try.ntmps29
  go_upto_region 1 with fail
  rw [← HWQ.out]
  clear HWQ
  have x0 := HX0.out
  have x1 := HX1.out
  have hbw : Below W1.heap.size W1 W1.drew := ⟨rfl, rfl, rfl, Nat.le_refl _, fun _ _ => rfl⟩
  go_region_held3 (fun w' => w'.cell? ⟨w.heap.size, 0, none⟩ = some (.int .i64 e) ∧ w'.cell? ⟨w.heap.size, 1, none⟩ = some (.int .i64 p) ∧ Below W1.heap.size W1 w')
    (((try dsimp only); go_split_ands; (repeat' apply And.intro) <;> first | assumption | (apply kk; assumption) | (apply kb; assumption)))
    ((go_at_call 45; (try go_split_ands); (first
      | ((with_reducible refine (HI1.out _ (by assumption)).mono ?_); rintro en w9 ⟨A9, c9, rfl, ho9, hg9⟩; have hb9 := hg9.belowNil; have kk : ∀ j u, World.cell? _ ⟨w.heap.size, j, none⟩ = some u → w9.cell? ⟨w.heap.size, j, none⟩ = some u := (fun j u h => kept hb9 h); have kb : Below W1.heap.size W1 _ → Below W1.heap.size W1 w9 := (fun h => h.trans (hb9.mono h.size)))
      | ((with_reducible refine (HI2.out _ _ _ _ ho9 (by assumption)).mono ?_); rintro en w8 ⟨A8, c8, rfl, ho8, hg8⟩; have hb8 := Gr.below9 hg8 ho9 (Below.size (by assumption)); have kk : ∀ j u, w9.cell? ⟨w.heap.size, j, none⟩ = some u → w8.cell? ⟨w.heap.size, j, none⟩ = some u := (fun j u h => (hb8.cell (p := ⟨w.heap.size, j, none⟩) HZ.out).trans h); have kb : Below W1.heap.size W1 w9 → Below W1.heap.size W1 w8 := (fun h => h.trans hb8)))))
  go_split_ands
  have hb : Below W1.heap.size W1 w8 := by assumption
  clear kk kb hb8 hg8 hb9 hg9 ho9
  have h2 := hb.cell (p := ⟨w.heap.size, 2, none⟩) HZ.out
  rw [HX2.out] at h2
  have HSO := Lib.hid ho8
  have HB2 := Lib.hid hb
  have hz2 := hb.size
  clear ho8 hb
  have HI3 : Hid (Calls Try.prog 46 #[.slice A8 m9.length c8, .int .u64 (ms.length : Int)] w8 (App w8 W1.heap.size (.slice A8 m9.length c8) m10)) := Lib.hid (by rw [HM10.out]; exact refNum_any ms.length (by omega) W1.heap.size A8 _ c8 m9 w8 HSO.out hz2 (by omega))
  go_wp2_with fail
  go_at_call 46
  refine HI3.out.mono ?_
  rintro en w3 ⟨A3, c3, rfl, so3, hg3⟩
  have HB3 := Lib.hid (HB2.out.trans (Gr.below9 hg3 HSO.out hz2))
  have HSO3 := Lib.hid so3
  clear so3 hg3 h2
  go_wp2_with fail
  go_loopw [0, 5] (fun sv iv wr => ∃ (j : Nat) (B : Option Addr) (L : List UInt8) (c' : Nat), j ≤ ms.length ∧ iv = .int .i64 (j : Int) ∧ sv = .slice B L.length c' ∧ Hid (L = m10 ++ numsB (ms.take j)) ∧ Ob wr W1.heap.size (.slice B L.length c') L ∧ Below W1.heap.size W1 wr) (fun _ iv _ => ms.length - (intOf iv).toNat)
  case atStart => exact ⟨0, A3, m10, c3, Nat.zero_le _, rfl, rfl, Lib.hid (by simp [numsB]), HSO3.out, HB3.out⟩
  case round =>
    obtain ⟨j, B, L, c', hj, rfl, rfl, HN, so, hb⟩ := hrel
    rename World => W0
    have h2 := hb.cell (p := ⟨w.heap.size, 2, none⟩) HZ.out
    rw [HX2.out] at h2
    have hsz := hb.size
    have HSOR := Lib.hid so
    have HBR := Lib.hid hb
    have HSR0 := Lib.hid (HSR.out.below hb)
    clear so hb
    by_cases hlt : j < ms.length
    · obtain ⟨ad, rfl, _, hc⟩ := HSR0.out.int hlt
      have hlI : (j : Int) < (ms.length : Int) := by omega
      have hj0 : (0 : Int) ≤ (j : Int) := by omega
      have HR := Lib.hid (hr ms[j] (List.getElem_mem hlt))
      have HT := Lib.hid (numsB_snoc ms j hlt)
      have hnl := numsB_len (ms.take j)
      have hnt : (ms.take j).length = j := by rw [List.length_take]; omega
      have HLN : Hid (L.length + 9 ≤ 140737488355328) := Lib.hid (by rw [HN.out, List.length_append]; rw [hnt] at hnl; omega)
      clear hnl hnt
      generalize ms[j] = x at *
      obtain ⟨m12, hm12⟩ : ∃ m12, m12 = L ++ numB (zz x) := ⟨_, rfl⟩
      have HI4 : Hid (Calls Try.prog 45 #[.slice B L.length c', .int .i64 x] W0 (App W0 W1.heap.size (.slice B L.length c') m12)) := Lib.hid (by rw [hm12]; exact refInt_any x HR.out.1 HR.out.2 W1.heap.size B _ c' L W0 HSOR.out hsz HLN.out)
      have HM12 := Lib.hid hm12
      clear hm12
      go_wp2_with fail
      go_at_call 45
      refine HI4.out.mono ?_
      rintro en w4 ⟨A4, c4, rfl, so4, hg4⟩
      have HB4 := Lib.hid (HBR.out.trans (Gr.below9 hg4 HSOR.out hsz))
      have HS4 := Lib.hid so4
      clear so4 hg4
      go_wp2_with fail
      go_roundw
      case rel => exact ⟨j + 1, A4, m12, c4, by omega, by go_num, rfl, Lib.hid (by rw [HM12.out, HN.out, HT.out, List.append_assoc]), HS4.out, HB4.out⟩
      case measure => simp [intOf]; omega
    · have hjl : j = ms.length := by omega
      have HLE : Hid (L = putV e p ms) := Lib.hid (by
        have := HN.out
        rw [hjl, List.take_length, HM10.out, HM9.out] at this
        simpa [putV] using this)
      clear hjl
      go_wp2_with fail
      go_ret
      exact ⟨B, L.length, c', rfl, by rw [HLE.out], by have h9 := HSOR.out.moreB HZ2.out; rw [← HLE.out]; exact h9, HW1.out.trans (HBR.out.mono HZ2.out)⟩

/-- A writer behind several calls. -/
structure Wz (w : World) (K b : Nat) (v : Value) (l : List UInt8) (w' : World) (v' : Value) : Prop where
  wr : Wr w' K b v' l
  tn : Tn (fun k => k = b ∨ v.ownBlock = some k) w w'
  own : OwnOr w v v'
theorem Wz.step {w w1 w2 : World} {K b : Nat} {v v1 v2 : Value} {l l2 : List UInt8} {e : Ending} (h : Wz w K b v l w1 v1) (s : Wst w1 K b v1 l2 e w2 v2) : Wz w K b v l2 w2 v2 :=
  ⟨s.wr, h.tn.thenQ s.tn fun k hk e => by
    rcases e with e | e
    · exact .inl e
    · rcases h.own with h1 | ⟨j, h1, hj⟩
      · exact .inr (by rw [← h1, e])
      · rw [h1] at e; injection e with e; omega,
   h.own.trans s.own h.tn.size⟩
theorem Wz.keep {w w1 : World} {K b : Nat} {v v1 : Value} {l : List UInt8} (h : Wz w K b v l w1 v1) {q j : Nat} {u : Value} (hq : w.cell? ⟨q, j, none⟩ = some u) (hb : q ≠ b) (hv : v.ownBlock ≠ some q) : w1.cell? ⟨q, j, none⟩ = some u :=
  h.tn.cell hq fun e => by rcases e with e | e; exact hb e; exact hv e
def VPutP (w : World) (K b : Nat) (v : Value) (l : List UInt8) (en : Ending) (w' : World) : Prop := en = .returned (.tuple #[]) ∧ ∃ v', Wz w K b v l w' v'
set_option maxRecDepth 100000 in
set_option maxHeartbeats 3200000 in
theorem vput_any (e p : Int) (he : -9223372036854775808 ≤ e ∧ e ≤ 9223372036854775807) (hp : -9223372036854775808 ≤ p ∧ p ≤ 9223372036854775807) (K0 : Nat) (A : Option Addr) (n cap : Nat) (ms : List Int) (w : World) (hn : ms.length = n) (hs : Sr encI 1 w K0 A cap ms) (hK0 : K0 ≤ w.heap.size)
    (hr : ∀ x ∈ ms, -9223372036854775808 ≤ x ∧ x ≤ 9223372036854775807) (hl : ms.length ≤ 1048576) (K b : Nat) (v : Value) (l : List UInt8) (h : Wr w K b v l) (hll : l.length ≤ 1048576)
    (hf : 0 < ms.length → ∀ ad : Addr, A = some ad → ad.block ≠ b ∧ v.ownBlock ≠ some ad.block) :
    Calls Try.prog 23 #[.pointer (some ⟨b, 0, none⟩), .agg #[.int .i64 e, .int .i64 p, .slice A n cap]] w (VPutP w K b v (l ++ putV e p ms)) := by
  subst hn
  have hle := hs.le
  have hmx := hs.max
  unfold maxLen at hmx
  have hbw := h.lt
  have hov : ∀ k, v.ownBlock = some k → k < w.heap.size := fun k e => (h.ob.lt k e).2
  obtain ⟨W1, hW1⟩ : ∃ W1, W1 = w.alloc (.cells #[.int .i64 e, .int .i64 p, .slice A ms.length cap] 37) := ⟨_, rfl⟩
  have HX0 : Hid (W1.cell? ⟨w.heap.size, 0, none⟩ = some (.int .i64 e)) := Lib.hid (by rw [hW1]; simp [go_sem])
  have HX1 : Hid (W1.cell? ⟨w.heap.size, 1, none⟩ = some (.int .i64 p)) := Lib.hid (by rw [hW1]; simp [go_sem])
  have HX2 : Hid (W1.cell? ⟨w.heap.size, 2, none⟩ = some (.slice A ms.length cap)) := Lib.hid (by rw [hW1]; simp [go_sem])
  have HSR : Hid (Sr encI 1 W1 K0 A cap ms) := Lib.hid (by rw [hW1]; exact hs.alloc hK0 _)
  have H0 : Hid (Wz W1 K b v l W1 v) := Lib.hid ⟨by rw [hW1]; exact h.alloc _, Tn.refl _ _, OwnOr.refl _ _⟩
  have HNB : Hid (w.heap.size ≠ b ∧ v.ownBlock ≠ some w.heap.size) := Lib.hid ⟨by omega, fun e => by have := hov _ e; omega⟩
  have HFin : Hid (∀ W v' L, Wz W1 K b v L W v' → Wz w K b v L W v') := Lib.hid fun W v' L z => ⟨z.wr, (by rw [hW1] at z; exact (Tn.alloc _ _).then z.tn), by
    have hz : w.heap.size ≤ W1.heap.size := by rw [hW1]; simp
    rcases z.own with h1 | ⟨j, h1, hj⟩
    · exact .inl h1
    · exact .inr ⟨j, h1, by omega⟩⟩
  have HSRW : Hid (∀ W v' L, Wz W1 K b v L W v' → Sr encI 1 W K0 A cap ms) := Lib.hid fun W v' L z => HSR.out.tn z.tn fun hl0 ad e h9 => by
    have := hf hl0 ad e
    rcases h9 with h9 | h9
    · exact this.1 h9
    · exact this.2 h9
  have HWQ := Lib.hid hW1
  have x0 := HX0.out
  clear hs hW1 h hov hf
  go_enter Try.func23, Try.ntmps23
  go_wp2_with fail
  rw [← HWQ.out]
  clear HWQ x0
  go_at_call 37
  refine (wint_any e he.1 he.2 K b v l _ H0.out.wr (by omega)).mono ?_
  rintro en w1 ⟨v1, s1⟩
  obtain rfl := s1.e
  have H1 := Lib.hid (H0.out.step s1)
  clear s1
  have x1 := H1.out.keep HX1.out HNB.out.1 HNB.out.2
  have hl1 : (l ++ numB (zz e)).length ≤ 1048585 := by rw [List.length_append, numB_length]; have := kN_le (zz e); omega
  generalize hm1 : l ++ numB (zz e) = m1 at *
  have HM1 := Lib.hid hm1
  clear hm1
  go_wp2_with fail
  go_at_call 37
  refine (wint_any p hp.1 hp.2 K b v1 m1 _ H1.out.wr (by omega)).mono ?_
  rintro en w2 ⟨v2, s2⟩
  obtain rfl := s2.e
  have H2 := Lib.hid (H1.out.step s2)
  clear s2 x1
  have x2 := H2.out.keep HX2.out HNB.out.1 HNB.out.2
  have hl2 : (m1 ++ numB (zz p)).length ≤ 1048594 := by rw [List.length_append, numB_length]; have := kN_le (zz p); omega
  generalize hm2 : m1 ++ numB (zz p) = m2 at *
  have HM2 := Lib.hid hm2
  clear hm2
  go_wp2_with fail
  go_at_call 38
  refine (wnum_any ms.length (by omega) K b v2 m2 _ H2.out.wr (by omega)).mono ?_
  rintro en w3 ⟨v3, s3⟩
  obtain rfl := s3.e
  have H3 := Lib.hid (H2.out.step s3)
  clear s3 x2
  have x3 := H3.out.keep HX2.out HNB.out.1 HNB.out.2
  have hl3 : (m2 ++ numB ms.length).length ≤ 1048603 := by rw [List.length_append, numB_length]; have := kN_le ms.length; omega
  generalize hm3 : m2 ++ numB ms.length = m3 at *
  have HM3 := Lib.hid hm3
  clear hm3
  go_wp2_with fail
  clear x3
  go_loopw [23] (fun iv wr => ∃ (j : Nat) (v' : Value), j ≤ ms.length ∧ iv = .int .i64 (j : Int) ∧ Wz W1 K b v (m3 ++ numsB (ms.take j)) wr v') (fun iv _ => ms.length - (intOf iv).toNat)
  case atStart => exact ⟨0, v3, Nat.zero_le _, rfl, by simpa [numsB] using H3.out⟩
  case round =>
    obtain ⟨j, v', hj, rfl, z⟩ := hrel
    rename World => W0
    have HZ0 := Lib.hid z
    clear z
    by_cases hlt : j < ms.length
    · obtain ⟨ad, rfl, _, hc⟩ := (HSRW.out _ _ _ HZ0.out).int hlt
      have hlI : (j : Int) < (ms.length : Int) := by omega
      have hj0 : (0 : Int) ≤ (j : Int) := by omega
      have HR := Lib.hid (hr ms[j] (List.getElem_mem hlt))
      have HT := Lib.hid (numsB_snoc ms j hlt)
      have hnl := numsB_len (ms.take j)
      have hnt : (ms.take j).length = j := by rw [List.length_take]; omega
      have HLN : Hid ((m3 ++ numsB (ms.take j)).length + 9 ≤ 140737488355328) := Lib.hid (by rw [List.length_append]; rw [hnt] at hnl; omega)
      clear hnl hnt
      generalize ms[j] = x at *
      generalize numsB (ms.take j) = pre at *
      go_wp2_with fail
      go_at_call 37
      refine (wint_any x HR.out.1 HR.out.2 K b v' _ _ HZ0.out.wr HLN.out).mono ?_
      rintro en w4 ⟨v4, s4⟩
      obtain rfl := s4.e
      have H4 := Lib.hid (HZ0.out.step s4)
      clear s4
      go_wp2_with fail
      go_roundw
      case rel => exact ⟨j + 1, v4, by omega, by go_num, by rw [HT.out, ← List.append_assoc]; exact H4.out⟩
      case measure => simp [intOf]; omega
    · have hjl : j = ms.length := by omega
      have HF : Hid (Wz w K b v (l ++ putV e p ms) W0 v') := Lib.hid (by
        have := HFin.out _ _ _ HZ0.out
        rw [hjl, List.take_length, ← HM3.out, ← HM2.out, ← HM1.out] at this
        simpa [putV] using this)
      clear hjl
      go_wp2_with fail
      go_end0
      exact ⟨rfl, v', HF.out⟩
end Go.Proofs.Ytcgkbpjfbahleaa
namespace Go.Proofs.Ytcgkbpjfbahleaa
open Go.RowKit Go.BigFrame

variable {K9 : Nat}

/-- The document's reader at block b: its bytes, the place, the error. -/
structure Mr (K9 : Nat) (w : World) (b : Nat) (B : List UInt8) (a : Nat) (E : Int) : Prop where
  out : ∃ A cap, w.cell? ⟨b, 0, none⟩ = some (.slice A B.length cap) ∧ Bs w K9 A cap B
  c1 : w.cell? ⟨b, 1, none⟩ = some (.int .i64 (a : Int))
  c2 : w.cell? ⟨b, 2, none⟩ = some (.int .i64 E)
  fr : ∀ j, w.frozen? ⟨b, j, none⟩ = false
  le : a ≤ B.length
  kb : K9 ≤ b
section
variable {w w' : World} {b a : Nat} {B : List UInt8} {E : Int}
theorem Mr.lt (h : Mr K9 w b B a E) : b < w.heap.size := World.block_lt_of_cell? w _ h.c1
theorem Mr.tnK {P : Nat → Prop} (h : Mr K9 w b B a E) (t : Tn P w w') (hb : ¬ P b) (hk9 : ∀ k, k < K9 → ¬ P k) : Mr K9 w' b B a E := by
  obtain ⟨A, cap, h0, hs⟩ := h.out
  exact ⟨⟨A, cap, t.cell h0 hb, t.bs hs fun hl ad e => by
    obtain ⟨ad', e', hk, _⟩ := hs.at_ hl
    rw [e] at e'
    cases e'
    exact hk9 _ hk⟩, t.cell h.c1 hb, t.cell h.c2 hb, fun j => (t.frozen (p := ⟨b, j, none⟩) h.lt hb).trans (h.fr j), h.le, h.kb⟩
theorem Mr.tn {P : Nat → Prop} (h : Mr K9 w b B a E) (t : Tn P w w') (hb : ∀ k, k ≤ b → ¬ P k) : Mr K9 w' b B a E :=
  h.tnK t (hb b (Nat.le_refl _)) fun k hk => hb k (by have := h.kb; omega)
theorem Mr.below (h : Mr K9 w b B a E) (hb : Below w.heap.size w w') : Mr K9 w' b B a E := h.tn (Tn.ofNew (P := fun _ => False) hb) fun _ _ => id
theorem Mr.drewN (h : Mr K9 w b B a E) (n : Nat) : Mr K9 (w.drewN n) b B a E := h.below ⟨rfl, rfl, rfl, Nat.le_refl _, fun _ _ => rfl⟩
theorem Mr.err (h : Mr K9 w b B a E) (x : Int) : Mr K9 (w.setCell ⟨b, 2, none⟩ (.int .i64 x)) b B a x := by
  obtain ⟨A, cap, h0, hs⟩ := h.out
  exact ⟨⟨A, cap, (World.cell?_setCell_other _ _ _ _ (by simp)).trans h0, hs.keep fun p hp => World.cell?_setCell_other _ _ _ _ (by intro e; subst e; have := h.kb; simp at hp; omega)⟩, (World.cell?_setCell_other _ _ _ _ (by simp)).trans h.c1, World.cell?_setCell_same' _ _ _ (by rw [h.c2]; rfl), fun j => by rw [World.frozen?_setCell]; exact h.fr j, h.le, h.kb⟩
theorem Mr.at_ (h : Mr K9 w b B a E) {x : Nat} (hx : x ≤ B.length) : Mr K9 (w.setCell ⟨b, 1, none⟩ (.int .i64 (x : Int))) b B x E := by
  obtain ⟨A, cap, h0, hs⟩ := h.out
  exact ⟨⟨A, cap, (World.cell?_setCell_other _ _ _ _ (by simp)).trans h0, hs.keep fun p hp => World.cell?_setCell_other _ _ _ _ (by intro e; subst e; have := h.kb; simp at hp; omega)⟩, World.cell?_setCell_same' _ _ _ (by rw [h.c1]; rfl), (World.cell?_setCell_other _ _ _ _ (by simp)).trans h.c2, fun j => by rw [World.frozen?_setCell]; exact h.fr j, hx, h.kb⟩
end
theorem Mr.atI {w : World} {b a : Nat} {B : List UInt8} {E : Int} (h : Mr K9 w b B a E) {x : Nat} {v : Int} (hx : x ≤ B.length) (hv : v = (x : Int)) : Mr K9 (w.setCell ⟨b, 1, none⟩ (.int .i64 v)) b B x E := by
  subst hv
  exact h.at_ hx
/-- What the document's reader's method did. -/
structure Mt (K9 : Nat) (w : World) (b : Nat) (B : List UInt8) (r : Nat × List UInt8 × Int) (w' : World) : Prop where
  out : ∃ a', Mr K9 w' b B a' r.2.2 ∧ (r.2.2 = 0 → B.drop a' = r.2.1)
  tn : Tn (· = b) w w'
def MnumP (K9 : Nat) (w : World) (b : Nat) (B : List UInt8) (r : Nat × List UInt8 × Int) (en : Ending) (w' : World) : Prop := en = .returned (.int .u64 (r.1 : Int)) ∧ Mt K9 w b B r w'
theorem TnN {P : Nat → Prop} (w : World) (n : Nat) : Tn P w (w.drewN n) := ⟨rfl, rfl, rfl, Nat.le_refl _, fun _ _ _ => rfl⟩
set_option maxRecDepth 100000 in
set_option maxHeartbeats 3200000 in
theorem mtake_any (b a : Nat) (B : List UInt8) (E : Int) (w : World) (h : Mr K9 w b B a E) :
    Calls Try.prog 51 #[.pointer (some ⟨b, 0, none⟩)] w (MnumP K9 w b B (nuR (B.drop a) E)) := by
  obtain ⟨A, cap, h0, hs⟩ := h.out
  have h1 := h.c1
  have h2 := h.c2
  have f2 := h.fr 2
  have f1 := h.fr 1
  have hle := h.le
  have hlc := hs.le
  have hmx := hs.max
  unfold maxLen at hmx
  have HX := Lib.hid h
  have HS := Lib.hid hs
  clear h hs
  by_cases he : E ≠ 0
  · have HN := Lib.hid (nuR_err (l := B.drop a) he)
    have hne : (E != 0) = true := by simpa using he
    have heq : (E == 0) = false := by simpa using he
    have HE := Lib.hid he
    clear he
    go_enter Try.func51, Try.ntmps51
    go_wp2
    go_ret
    refine ⟨by rw [HN.out]; rfl, ?_⟩
    rw [HN.out]
    exact ⟨⟨a, HX.out, fun e => absurd e HE.out⟩, Tn.refl _ _⟩
  · obtain rfl : E = 0 := by omega
    clear he
    by_cases hal : B.length ≤ a
    · have HN : Hid (nuR (B.drop a) 0 = (0, [], 9)) := Lib.hid (by rw [List.drop_eq_nil_of_le hal]; simp [nuR])
      have da : decide ((B.length : Int) ≤ (a : Int)) = true := by simp; omega
      have da' : decide (B.length ≤ a) = true := by simp; omega
      clear hal
      go_enter Try.func51, Try.ntmps51
      go_wp2_with fail
      go_quiet (fail)
      go_wp2_with fail
      go_ret
      refine ⟨by rw [HN.out]; rfl, ?_⟩
      rw [HN.out]
      exact ⟨⟨a, (HX.out.drewN _).err 9, fun e => absurd e (by decide)⟩, (TnN _ _).then (Tn.setCell _ _ _ _)⟩
    · have hlt : a < B.length := by omega
      obtain ⟨ad, rfl, hadK, hc⟩ := HS.out.get hlt
      have da : decide ((B.length : Int) ≤ (a : Int)) = false := by simp; omega
      have da' : decide (B.length ≤ a) = false := by simp; omega
      have ha0 : (0 : Int) ≤ (a : Int) := by omega
      have haI : (a : Int) < (B.length : Int) := by omega
      have HD : Hid (B.drop a = B[a] :: B.drop (a + 1)) := Lib.hid (List.drop_eq_getElem_cons hlt)
      have hx8 : (B[a]).toNat < 256 := (B[a]).toNat_lt
      have HLR : Hid ((B.drop (a + 1)).length = B.length - (a + 1)) := Lib.hid List.length_drop
      generalize hxx : B[a] = x at *
      clear hxx hal
      by_cases hx : x.toNat ≤ 247
      · have HN : Hid (nuR (B.drop a) 0 = (x.toNat, B.drop (a + 1), 0)) := Lib.hid (by rw [HD.out]; simp [nuR, hx])
        have dx : decide ((x.toNat : Int) < 248) = true := by simp; omega
        have wa : IntKind.i64.wrap ((a : Int) + 1) = ((a + 1 : Nat) : Int) := (IntWalk.i64_in _ (by omega)).trans (by omega)
        have HWA := Lib.hid wa
        clear hx wa
        go_enter Try.func51, Try.ntmps51
        go_wp2_with fail
        go_quiet (fail)
        go_wp2_with fail
        go_quiet (fail)
        go_wp2_with fail
        go_ret
        refine ⟨by rw [HN.out]; rfl, ?_⟩
        rw [HN.out]
        exact ⟨⟨a + 1, (HX.out.drewN _).atI (by omega) (by omega), fun _ => rfl⟩, (TnN _ _).then (Tn.setCell _ _ _ _)⟩
      · obtain ⟨k, hk⟩ : ∃ k, x.toNat = 247 + k := ⟨x.toNat - 247, by omega⟩
        have hk0 : 0 < k := by omega
        have hk8 : k ≤ 8 := by omega
        have hsub : x.toNat - 247 = k := by omega
        rw [hk] at hc
        have dx : decide ((247 : Int) + (k : Int) < 248) = false := by simp; omega
        have wk : (247 : Int) + (k : Int) - 247 = (k : Int) := by omega
        have HWK : Hid (IntKind.i64.wrap ((247 : Int) + (k : Int) - 247) = (k : Int)) := Lib.hid (by rw [wk]; exact IntWalk.i64_in _ (by omega))
        clear wk
        by_cases hshort : B.length - (a + 1) < k
        · have HN : Hid (nuR (B.drop a) 0 = (0, B.drop (a + 1), 9)) := Lib.hid (by rw [HD.out]; simp [nuR, hx, hsub]; omega)
          have ws : IntKind.i64.wrap ((B.length : Int) - (a : Int)) = (B.length : Int) - (a : Int) := IntWalk.i64_in _ (by omega)
          have ws2 : IntKind.i64.wrap ((B.length : Int) - (a : Int) - 1) = (B.length : Int) - (a : Int) - 1 := IntWalk.i64_in _ (by omega)
          have dsh : decide ((B.length : Int) - (a : Int) - 1 < (k : Int)) = true := by simp; omega
          have HW1 := Lib.hid ws
          have HW2 := Lib.hid ws2
          clear hx hsub hshort ws ws2
          go_enter Try.func51, Try.ntmps51
          go_wp2_with fail
          go_quiet (fail)
          go_wp2_with fail
          go_quiet (fail)
          go_wp2_with fail
          have ek : (247 : Int) + (k : Int) - 247 = k := by omega
          rw [ek]
          clear ek
          have ws := HW1.out
          have ws2 := HW2.out
          go_quiet (fail)
          clear ws ws2
          go_wp2_with fail
          go_ret
          refine ⟨by rw [HN.out]; rfl, ?_⟩
          rw [HN.out]
          exact ⟨⟨a, (HX.out.drewN _).err 9, fun e => absurd e (by simp)⟩, (TnN _ _).then (Tn.setCell _ _ _ _)⟩
        · have HN : Hid (nuR (B.drop a) 0 = if kN (cutN B (a + 1) k) ≠ k then (0, B.drop (a + 1 + k), 10) else (cutN B (a + 1) k, B.drop (a + 1 + k), 0)) := Lib.hid (by
            have hs9 : ¬ (B.drop (a + 1)).length < k := by rw [HLR.out]; exact hshort
            rw [HD.out]
            unfold nuR
            rw [if_neg (by decide)]
            simp only [hsub]
            rw [if_neg hx, if_neg hs9, List.drop_drop]
            rfl)
          have ws : IntKind.i64.wrap ((B.length : Int) - (a : Int)) = (B.length : Int) - (a : Int) := IntWalk.i64_in _ (by omega)
          have ws2 : IntKind.i64.wrap ((B.length : Int) - (a : Int) - 1) = (B.length : Int) - (a : Int) - 1 := IntWalk.i64_in _ (by omega)
          have dsh : decide ((B.length : Int) - (a : Int) - 1 < (k : Int)) = false := by simp; omega
          have HW1 := Lib.hid ws
          have HW2 := Lib.hid ws2
          have hfit : a + 1 + k ≤ B.length := by omega
          clear hx hsub hshort ws ws2
          go_enter Try.func51, Try.ntmps51
          go_wp2_with fail
          go_quiet (fail)
          go_wp2_with fail
          go_quiet (fail)
          go_wp2_with fail
          have ek : (247 : Int) + (k : Int) - 247 = k := by omega
          rw [ek]
          clear ek
          have ws := HW1.out
          have ws2 := HW2.out
          go_quiet (fail)
          clear ws ws2
          go_wp2_with fail
          have hcut0 : cutN B (a + 1) 0 = 0 := cutN_zero _ _
          have HC0 := Lib.hid hcut0
          clear hcut0
          go_loopw [5, 6] (fun nv iv wr => ∃ (i m : Nat), 1 ≤ i ∧ i ≤ k + 1 ∧ nv = .int .u64 ((cutN B (a + 1) (i - 1) : Nat) : Int) ∧ iv = .int .i64 (i : Int) ∧ wr = w.drewN m) (fun _ iv _ => k + 1 - (intOf iv).toNat)
          case atStart => exact ⟨1, _, by omega, by omega, by rw [show 1 - 1 = 0 from rfl, HC0.out]; rfl, by rfl, by first | rfl | exact World.drewN_drewN _ _ _ | simp only [World.drewN_drewN]⟩
          case round =>
            obtain ⟨i, m, hi1, hi2, rfl, rfl, rfl⟩ := hrel
            by_cases hik : i ≤ k
            · obtain ⟨ad2, e2, _, hci⟩ := HS.out.get (k := a + i) (by omega)
              cases e2
              have hb8 : (B[a + i]'(by omega)).toNat < 256 := (B[a + i]'(by omega)).toNat_lt
              have hx7 : cutN B (a + 1) (i - 1) < 72057594037927936 := Nat.lt_of_lt_of_le (cutN_lt B (a + 1) (i - 1)) (Nat.le_trans (Nat.pow_le_pow_right (by decide) (show i - 1 ≤ 7 by omega)) (by decide))
              have hn : cutN B (a + 1) i = cutN B (a + 1) (i - 1) * 256 + (B[a + i]'(by omega)).toNat := by
                obtain ⟨j, rfl⟩ : ∃ j, i = j + 1 := ⟨i - 1, by omega⟩
                have h9 := cutN_succ (l := B) (o := a + 1) (j := j) (by omega)
                have e4 : a + 1 + j = a + (j + 1) := by omega
                simp only [e4] at h9
                exact h9
              have HNX := Lib.hid hn
              have iw : IntKind.i64.wrap ((a : Int) + (i : Int)) = (a : Int) + (i : Int) := IntWalk.i64_in _ (by omega)
              have i0 : (0 : Int) ≤ (a : Int) + (i : Int) := by omega
              have i1 : (a : Int) + (i : Int) < (B.length : Int) := by omega
              have it : ((a : Int) + (i : Int)).toNat = a + i := by omega
              have hle9 : decide ((i : Int) ≤ (k : Int)) = true := by simp; omega
              clear hn
              generalize cutN B (a + 1) (i - 1) = X at *
              generalize (B[a + i]'(by omega)).toNat = c at *
              have mw1 : IntKind.u64.wrap ((X : Int) * 256) = (X : Int) * 256 := by rw [IntKind.wrap_u64]; omega
              have mw2 : IntKind.u64.wrap ((X : Int) * 256 + (c : Int)) = (X : Int) * 256 + (c : Int) := by rw [IntKind.wrap_u64]; omega
              have m0 : (0 : Int) ≤ (X : Int) * 256 := by omega
              go_wp2_with fail
              go_quiet (fail)
              clear iw it mw1 mw2
              go_wp2_with fail
              go_roundw
              case rel => exact ⟨i + 1, _, by omega, by omega, by rw [show i + 1 - 1 = i from by omega, HNX.out]; first | rfl | (push_cast; rfl), by go_num, rfl⟩
              case measure => simp [intOf]; omega
            · obtain rfl : i = k + 1 := by omega
              have hle9 : decide (((k + 1 : Nat) : Int) ≤ (k : Int)) = false := by simp; omega
              have e5 : k + 1 - 1 = k := by omega
              rw [e5]
              have hN64 : cutN B (a + 1) k ≤ 18446744073709551615 := by have := Nat.lt_of_lt_of_le (cutN_lt B (a + 1) k) (Nat.pow_le_pow_right (by decide) hk8); have h9 : (256 : Nat) ^ 8 = 18446744073709551616 := (by decide); omega
              clear e5
              generalize hNN : cutN B (a + 1) k = N at *
              clear hNN
              have hml := numB_length N
              obtain ⟨m9, hm9⟩ : ∃ m9, m9 = numB N := ⟨_, rfl⟩
              rw [← hm9] at hml
              have HNM : Hid (∀ W, Calls Try.prog 46 #[.slice none 0 0, .int .u64 (N : Int)] W (App W W.heap.size (.slice none 0 0) m9)) := Lib.hid (fun W => by rw [hm9]; exact refNum_any N hN64 W.heap.size none 0 0 [] W (Ob.empty _ _) (Nat.le_refl _) (by simp))
              have HML := Lib.hid hml
              have hkN := kN_le N
              clear hm9 hml
              go_wp2_with fail
              go_at_call 46
              refine (HNM.out _).mono ?_
              rintro en w2 ⟨A9, c9, rfl, ho9, hg9⟩
              have hb9 : Below w.heap.size w w2 := (show Below w.heap.size w (w.drewN m) from ⟨rfl, rfl, rfl, Nat.le_refl _, fun _ _ => rfl⟩).trans hg9.belowNil
              have HX2 := Lib.hid (HX.out.below hb9)
              have HB9 := Lib.hid hb9
              have y1 := HX2.out.c1
              have y2 := HX2.out.c2
              have yf1 := HX2.out.fr 1
              have yf2 := HX2.out.fr 2
              clear ho9 hg9 hb9
              by_cases hkk : kN N = k
              · have dl : ((m9.length : Int) != (k : Int) + 1) = false := by have h9 := HML.out; simp; omega
                have HN2 : Hid (nuR (B.drop a) 0 = (N, B.drop (a + 1 + k), 0)) := Lib.hid (by rw [HN.out, if_neg (by omega)])
                clear hkk hkN
                go_wp2_with fail
                go_ret
                refine ⟨by rw [HN2.out]; rfl, ?_⟩
                rw [HN2.out]
                exact ⟨⟨a + 1 + k, HX2.out.atI (by omega) (by omega), fun _ => rfl⟩, (Tn.ofNew HB9.out).then (Tn.setCell _ _ _ _)⟩
              · have dl : ((m9.length : Int) != (k : Int) + 1) = true := by have h9 := HML.out; simp; omega
                have HN2 : Hid (nuR (B.drop a) 0 = (0, B.drop (a + 1 + k), 10)) := Lib.hid (by rw [HN.out, if_pos hkk])
                clear hkk hkN
                go_wp2_with fail
                go_ret
                refine ⟨by rw [HN2.out]; rfl, ?_⟩
                rw [HN2.out]
                exact ⟨⟨a, HX2.out.err 10, fun e => absurd e (by simp)⟩, (Tn.ofNew HB9.out).then (Tn.setCell _ _ _ _)⟩
end Go.Proofs.Ytcgkbpjfbahleaa
namespace Go.Proofs.Ytcgkbpjfbahleaa
open Go.RowKit Go.BigFrame

variable {K9 : Nat}

theorem Mt.le {w w' : World} {b : Nat} {B : List UInt8} {r : Nat × List UInt8 × Int} (h : Mt K9 w b B r w') : ∃ a', Mr K9 w' b B a' r.2.2 ∧ (r.2.2 = 0 → B.drop a' = r.2.1) := h.out
def MintP (K9 : Nat) (w : World) (b : Nat) (B : List UInt8) (r : Nat × List UInt8 × Int) (en : Ending) (w' : World) : Prop := en = .returned (.int .i64 (unzz r.1)) ∧ Mt K9 w b B r w'
set_option maxHeartbeats 1600000 in
theorem mint_any2 (b a : Nat) (B : List UInt8) (E : Int) (w : World) (h : Mr K9 w b B a E) :
    Calls Try.prog 43 #[.pointer (some ⟨b, 0, none⟩)] w (MintP K9 w b B (nuR (B.drop a) E)) := by
  have HM := Lib.hid (mtake_any b a B E w h)
  have hlt := nuR_lt (B.drop a) E
  clear h
  generalize nuR (B.drop a) E = r at *
  obtain ⟨n, l1, e1⟩ := r
  simp only at hlt
  by_cases hn : n % 2 = 0
  · obtain ⟨q, rfl⟩ : ∃ q, n = 2 * q := ⟨n / 2, by omega⟩
    have d0 : (((2 * q : Nat) : Int) % 2 == 0) = true := by simp
    have e2 : ((2 * q : Nat) : Int) / 2 = (q : Int) := by omega
    have e3 : 2 * q / 2 = q := by omega
    have HV : Hid ((q : Int) = unzz (2 * q)) := Lib.hid (by unfold unzz; rw [if_pos hn, e3])
    have HE := Lib.hid e2
    clear hn e3 e2
    go_enter Try.func43, Try.ntmps43
    go_wp2_with fail
    refine HM.out.mono ?_
    rintro en w1 ⟨rfl, ht⟩
    have HT := Lib.hid ht
    clear ht
    simp only
    generalize hz : ((2 * q : Nat) : Int) = z at *
    have z0 : 0 ≤ z := by omega
    have z1 : z ≤ 18446744073709551615 := by omega
    have HZ := Lib.hid hz
    clear hz
    go_wp2_with fail
    go_ret
    exact ⟨ret_int (by have h9 := HE.out; have h8 := HV.out; show _ = unzz (2 * q); omega), HT.out⟩
  · obtain ⟨q, rfl⟩ : ∃ q, n = 2 * q + 1 := ⟨n / 2, by omega⟩
    have d0 : (((2 * q + 1 : Nat) : Int) % 2 == 0) = false := by first | (simp; done) | (simp; omega)
    have e2 : ((2 * q + 1 : Nat) : Int) / 2 = (q : Int) := by omega
    have e3 : (2 * q + 1) / 2 = q := by omega
    have HV : Hid (-(q : Int) - 1 = unzz (2 * q + 1)) := Lib.hid (by unfold unzz; rw [if_neg hn, e3])
    have HE := Lib.hid e2
    clear hn e3 e2
    go_enter Try.func43, Try.ntmps43
    go_wp2_with fail
    refine HM.out.mono ?_
    rintro en w1 ⟨rfl, ht⟩
    have HT := Lib.hid ht
    clear ht
    simp only
    generalize hz : ((2 * q + 1 : Nat) : Int) = z at *
    have z0 : 0 ≤ z := by omega
    have z1 : z ≤ 18446744073709551615 := by omega
    have HZ := Lib.hid hz
    clear hz
    go_wp2_with fail
    go_ret
    exact ⟨ret_int (by have h9 := HE.out; have h8 := HV.out; show _ = unzz (2 * q + 1); omega), HT.out⟩
set_option maxRecDepth 100000 in
set_option maxHeartbeats 1600000 in
theorem mcount_any2 (b a : Nat) (B : List UInt8) (E : Int) (w : World) (h : Mr K9 w b B a E) :
    Calls Try.prog 44 #[.pointer (some ⟨b, 0, none⟩), .int .i64 8] w fun en w' => en = .returned (.int .i64 ((cnR 8 (B.drop a) E).1 : Int)) ∧ Mt K9 w b B (cnR 8 (B.drop a) E) w' := by
  have HM := Lib.hid (mtake_any b a B E w h)
  have hlt := nuR_lt (B.drop a) E
  clear h
  unfold cnR
  generalize nuR (B.drop a) E = r at *
  obtain ⟨n, l1, e1⟩ := r
  simp only at hlt ⊢
  by_cases he : e1 ≠ 0
  · rw [if_pos he]
    have d1 : (e1 != 0) = true := by simpa using he
    have HE := Lib.hid he
    clear he
    go_enter Try.func44, Try.ntmps44
    go_wp2_with fail
    refine HM.out.mono ?_
    rintro en w1 ⟨rfl, ⟨a', hr, hd⟩, ht⟩
    have y2 := hr.c2
    have HR := Lib.hid hr
    have HT := Lib.hid ht
    clear hr hd ht
    go_wp2_with fail
    go_ret
    exact ⟨rfl, ⟨a', HR.out, fun e => absurd e HE.out⟩, HT.out⟩
  · obtain rfl : e1 = 0 := by omega
    rw [if_neg he, if_neg (by decide)]
    clear he
    by_cases h8 : (8 : Int) < (n : Int)
    · rw [if_pos h8]
      have d8 : decide ((8 : Int) < (n : Int)) = true := by simpa using h8
      have d8' : decide (8 < n) = true := by simp; omega
      clear h8
      go_enter Try.func44, Try.ntmps44
      go_wp2_with fail
      refine HM.out.mono ?_
      rintro en w1 ⟨rfl, ⟨a', hr, hd⟩, ht⟩
      have y2 := hr.c2
      have yf := hr.fr 2
      have HR := Lib.hid hr
      have HT := Lib.hid ht
      clear hr hd ht
      go_wp2_with fail
      go_ret
      exact ⟨rfl, ⟨a', HR.out.err 8, fun e => absurd e (by simp)⟩, HT.out.then (Tn.setCell _ _ _ _)⟩
    · rw [if_neg h8]
      have d8 : decide ((8 : Int) < (n : Int)) = false := by simpa using h8
      have d8' : decide (8 < n) = false := by simp; omega
      have hn8 : (n : Int) ≤ 8 := by omega
      clear h8
      go_enter Try.func44, Try.ntmps44
      go_wp2_with fail
      refine HM.out.mono ?_
      rintro en w1 ⟨rfl, ⟨a', hr, hd⟩, ht⟩
      have y2 := hr.c2
      have HR := Lib.hid hr
      have HD := Lib.hid hd
      have HT := Lib.hid ht
      clear hr hd ht
      go_wp2_with fail
      go_ret
      exact ⟨rfl, ⟨a', HR.out, fun _ => HD.out trivial⟩, HT.out⟩
set_option maxRecDepth 100000 in
set_option maxHeartbeats 1600000 in
theorem mend_any2 (b a : Nat) (B : List UInt8) (E : Int) (w : World) (h : Mr K9 w b B a E) :
    Calls Try.prog 31 #[.pointer (some ⟨b, 0, none⟩)] w fun en w' => en = .returned (.int .i64 (if E = 0 ∧ a < B.length then 10 else E)) ∧ Tn (· = b) w w' := by
  obtain ⟨A, cap, h0, hs⟩ := h.out
  have h1 := h.c1
  have h2 := h.c2
  have f2 := h.fr 2
  have hlc := hs.le
  have hmx := hs.max
  unfold maxLen at hmx
  have hal := h.le
  clear h hs
  by_cases he : E = 0
  · subst he
    by_cases hl : a < B.length
    · rw [if_pos ⟨rfl, hl⟩]
      have d1 : decide ((a : Int) < (B.length : Int)) = true := by simp; omega
      have d2 : decide (a < B.length) = true := by simp; omega
      clear hl
      go_enter Try.func31, Try.ntmps31
      go_wp2_with fail
      go_big_quiet (fail)
      go_wp2_with fail
      go_ret
      exact ⟨rfl, (TnN _ _).then (Tn.setCell _ _ _ _)⟩
    · rw [if_neg (fun h => hl h.2)]
      have d1 : decide ((a : Int) < (B.length : Int)) = false := by simp; omega
      have d2 : decide (a < B.length) = false := by simp; omega
      clear hl
      go_enter Try.func31, Try.ntmps31
      go_wp2_with fail
      go_big_quiet (fail)
      go_wp2_with fail
      go_ret
      exact ⟨rfl, TnN _ _⟩
  · rw [if_neg (fun h => he h.1)]
    have d0 : (E == 0) = false := by simpa using he
    clear he
    go_enter Try.func31, Try.ntmps31
    go_wp2_with fail
    go_big_quiet (fail)
    go_wp2_with fail
    go_ret
    exact ⟨rfl, TnN _ _⟩
end Go.Proofs.Ytcgkbpjfbahleaa
namespace Go.Proofs.Ytcgkbpjfbahleaa
open Go.RowKit Go.BigFrame

variable {K9 : Nat}

theorem nu_same {x l : List UInt8} {e : Int} (h : e = 0 → x = l) : (nuR x e).1 = (nuR l e).1 ∧ (nuR x e).2.2 = (nuR l e).2.2 ∧ ((nuR x e).2.2 = 0 → (nuR x e).2.1 = (nuR l e).2.1) := by
  by_cases he : e = 0
  · rw [h he]; exact ⟨rfl, rfl, fun _ => rfl⟩
  · rw [nuR_err he, nuR_err he]; exact ⟨rfl, rfl, fun h => absurd h he⟩
theorem cn_same {x l : List UInt8} {e : Int} (h : e = 0 → x = l) : (cnR 8 x e).1 = (cnR 8 l e).1 ∧ (cnR 8 x e).2.2 = (cnR 8 l e).2.2 ∧ ((cnR 8 x e).2.2 = 0 → (cnR 8 x e).2.1 = (cnR 8 l e).2.1) := by
  by_cases he : e = 0
  · rw [h he]; exact ⟨rfl, rfl, fun _ => rfl⟩
  · unfold cnR
    rw [nuR_err he, nuR_err he]
    simp only
    rw [if_pos he, if_pos he]
    exact ⟨rfl, rfl, fun h => absurd h he⟩
/-- The document's reader, by what is left where there is no error. -/
structure Mx (K9 : Nat) (w : World) (b : Nat) (B : List UInt8) (l : List UInt8) (e : Int) : Prop where
  ex : ∃ a, Mr K9 w b B a e ∧ (e = 0 → B.drop a = l)
section
variable {w w' : World} {b : Nat} {B l : List UInt8} {e : Int}
theorem Mx.below (h : Mx K9 w b B l e) (hb : Below w.heap.size w w') : Mx K9 w' b B l e := by
  obtain ⟨a, hr, hd⟩ := h.ex
  exact ⟨a, hr.below hb, hd⟩
theorem Mx.tn {P : Nat → Prop} (h : Mx K9 w b B l e) (t : Tn P w w') (hb : ∀ k, k ≤ b → ¬ P k) : Mx K9 w' b B l e := by
  obtain ⟨a, hr, hd⟩ := h.ex
  exact ⟨a, hr.tn t hb, hd⟩
theorem Mx.tnK {P : Nat → Prop} (h : Mx K9 w b B l e) (t : Tn P w w') (hb : ¬ P b) (hk9 : ∀ k, k < K9 → ¬ P k) : Mx K9 w' b B l e := by
  obtain ⟨a, hr, hd⟩ := h.ex
  exact ⟨a, hr.tnK t hb hk9, hd⟩
theorem Mx.lt (h : Mx K9 w b B l e) : b < w.heap.size := by
  obtain ⟨a, hr, hd⟩ := h.ex
  exact hr.lt
theorem Mx.c2 (h : Mx K9 w b B l e) : w.cell? ⟨b, 2, none⟩ = some (.int .i64 e) := by
  obtain ⟨a, hr, hd⟩ := h.ex
  exact hr.c2
/-- What is left, the error, and that the reader's block alone has turned. -/
structure Mg (K9 : Nat) (w : World) (b : Nat) (B l : List UInt8) (e : Int) (w' : World) : Prop where
  mx : Mx K9 w' b B l e
  tn : Tn (· = b) w w'
def MgI (K9 : Nat) (w : World) (b : Nat) (B l : List UInt8) (e : Int) (en : Ending) (w' : World) : Prop := en = .returned (.int .i64 (unzz (nuR l e).1)) ∧ Mg K9 w b B (nuR l e).2.1 (nuR l e).2.2 w'
theorem Mx.int (h : Mx K9 w b B l e) : Calls Try.prog 43 #[.pointer (some ⟨b, 0, none⟩)] w (MgI K9 w b B l e) := by
  obtain ⟨a, hr, hd⟩ := h.ex
  refine (mint_any2 b a B e w hr).mono ?_
  rintro en w' ⟨rfl, ⟨a', hr', hd'⟩, t⟩
  obtain ⟨s1, s2, s3⟩ := nu_same hd
  exact ⟨by rw [s1], ⟨a', by rw [← s2]; exact hr', fun e0 => by rw [← s2] at e0; rw [hd' e0, s3 e0]⟩, t⟩
def MgC (K9 : Nat) (w : World) (b : Nat) (B l : List UInt8) (e : Int) (en : Ending) (w' : World) : Prop := en = .returned (.int .i64 ((cnR 8 l e).1 : Int)) ∧ Mg K9 w b B (cnR 8 l e).2.1 (cnR 8 l e).2.2 w'
theorem Mx.count (h : Mx K9 w b B l e) : Calls Try.prog 44 #[.pointer (some ⟨b, 0, none⟩), .int .i64 8] w (MgC K9 w b B l e) := by
  obtain ⟨a, hr, hd⟩ := h.ex
  refine (mcount_any2 b a B e w hr).mono ?_
  rintro en w' ⟨rfl, ⟨a', hr', hd'⟩, t⟩
  obtain ⟨s1, s2, s3⟩ := cn_same hd
  exact ⟨by rw [s1], ⟨a', by rw [← s2]; exact hr', fun e0 => by rw [← s2] at e0; rw [hd' e0, s3 e0]⟩, t⟩
def MgE (w : World) (b : Nat) (l : List UInt8) (e : Int) (en : Ending) (w' : World) : Prop := en = .returned (.int .i64 (if e = 0 ∧ 0 < l.length then 10 else e)) ∧ Tn (· = b) w w'
theorem Mx.end_ (h : Mx K9 w b B l e) : Calls Try.prog 31 #[.pointer (some ⟨b, 0, none⟩)] w (MgE w b l e) := by
  obtain ⟨a, hr, hd⟩ := h.ex
  refine (mend_any2 b a B e w hr).mono ?_
  rintro en w' ⟨rfl, t⟩
  refine ⟨?_, t⟩
  by_cases he : e = 0
  · have h9 := hd he
    have h8 := hr.le
    have : 0 < l.length ↔ a < B.length := by rw [← h9, List.length_drop]; omega
    simp only [this]
  · rw [if_neg (fun h => he h.1), if_neg (fun h => he h.1)]
end
theorem Tn.thenNew9 {P Q : Nat → Prop} {w w1 w2 : World} (h : Tn P w w1) (h2 : Tn Q w1 w2) (hQ : ∀ k, k < w.heap.size → ¬ Q k) : Tn P w w2 := h.thenQ h2 fun k hk q => absurd q (hQ k hk)
/-- What is read in so many rounds. -/
def rdJ : Nat → List UInt8 → Int → List Int × List UInt8 × Int
  | 0, l, e => ([], l, e)
  | j + 1, l, e => ((rdJ j l e).1 ++ [unzz (nuR (rdJ j l e).2.1 (rdJ j l e).2.2).1], (nuR (rdJ j l e).2.1 (rdJ j l e).2.2).2)
theorem rdJ_len (l : List UInt8) (e : Int) : ∀ j, (rdJ j l e).1.length = j
  | 0 => rfl
  | j + 1 => by rw [rdJ, List.length_append, rdJ_len l e j]; rfl
/-- A view that is taken off: epoch, primary, members; what is left, the error. -/
structure Gv where
  e : Int
  p : Int
  ms : List Int
  l : List UInt8
  r : Int
def getV (l : List UInt8) (e : Int) : Gv :=
  let a := nuR l e
  let b := nuR a.2.1 a.2.2
  let c := cnR 8 b.2.1 b.2.2
  let d := rdJ c.1 c.2.1 c.2.2
  if d.2.2 ≠ 0 then ⟨0, 0, [], d.2.1, d.2.2⟩ else ⟨unzz a.1, unzz b.1, d.1, d.2.1, d.2.2⟩
theorem cn_le8 (l : List UInt8) (e : Int) : (cnR 8 l e).1 ≤ 8 := by
  unfold cnR
  repeat' split
  all_goals (simp only)
  all_goals omega

/-- append of ints, at a step of a region that draws. -/
theorem step_appI {ops : Array Oper} {o : Oper} {a : Act} {w : World} {Kk : Act → World → Prop} {Q : Exit → Act → World → Prop} {E : Prop} (hgd : o.guard = none) (s x : Operand)
    (ho : o.op = .call { callee := .builtin .append, args := #[s, x], argTypes := #[22, 22] })
    (K : Nat) (v : Value) (l : List Int) (hs : a.eval s = v) (hown : So encI 1 w K 3 v l) (A : Option Addr) (M cap : Nat) (m : List Int) (hx : a.eval x = .slice A M cap) (hM : m.length = M) (K' : Nat) (hsrc : Sr encI 1 w K' A cap m)
    (N : Nat) (hN : l.length + m.length = N) (hsz : (l.length + m.length) * 8 ≤ 140737488355328) (hbase : K ≤ w.heap.size)
    (h : ∀ A' cap' w', So encI 1 w' K 3 (.slice A' N cap') (l ++ m) → w.grownBy w' v.ownBlock → ((Value.slice A' N cap').ownBlock = v.ownBlock ∨ (Value.slice A' N cap').ownBlock = some w.heap.size) → Kk (a.put o.dst (.slice A' N cap')) w') :
    if Region.wanted o (yielded ops a.tmps) = true then Oper.wp Try.prog o a w Kk Q else E := by
  subst hN hM
  have hw : Region.wanted o (yielded ops a.tmps) = true := by simp [Region.wanted, hgd]
  rw [if_pos hw]
  obtain ⟨A', cap', w', hr, h2, h3, h4⟩ := run_appE Try.underlying22 info_i64 (by kernel_rfl) (by decide) encI_len encI_one w o.type hown hsrc (by unfold maxLen; omega) hsz hbase
  unfold Oper.wp execOp
  simp only [ho, resolve, invoke, builtin, Sem.run_bind, Sem.run_pure, Result.andThen_ok, List.map_toArray, List.map_cons, List.map_nil, hs, hx, hr]
  exact h A' cap' w' h2 h3 h4
/-- The view's box while it is filled: epoch, primary, members; the result's cells. -/
structure Gx (w wr : World) (e p : Int) (A : Option Addr) (n cap : Nat) (ms : List Int) : Prop where
  z0 : wr.cell? ⟨w.heap.size, 0, none⟩ = some (.int .i64 0)
  z1 : wr.cell? ⟨w.heap.size, 1, none⟩ = some (.int .i64 0)
  z2 : wr.cell? ⟨w.heap.size, 2, none⟩ = some (.slice none 0 0)
  zf : ∀ j, wr.frozen? ⟨w.heap.size, j, none⟩ = false
  x0 : wr.cell? ⟨w.heap.size + 1, 0, none⟩ = some (.int .i64 e)
  x1 : wr.cell? ⟨w.heap.size + 1, 1, none⟩ = some (.int .i64 p)
  x2 : wr.cell? ⟨w.heap.size + 1, 2, none⟩ = some (.slice A n cap)
  xf : ∀ j, wr.frozen? ⟨w.heap.size + 1, j, none⟩ = false
  so : So encI 1 wr (w.heap.size + 2) 3 (.slice A n cap) ms
  hz : w.heap.size + 2 ≤ wr.heap.size
section
variable {w wr w' : World} {e p : Int} {A : Option Addr} {n cap : Nat} {ms : List Int}
theorem Gx.tn {P : Nat → Prop} (x : Gx w wr e p A n cap ms) (t : Tn P wr w') (h1 : ∀ k, w.heap.size ≤ k → ¬ P k) : Gx w w' e p A n cap ms :=
  have h0 := h1 w.heap.size (Nat.le_refl _)
  have h2 := h1 (w.heap.size + 1) (Nat.le_succ _)
  have hz := x.hz
  ⟨t.cell x.z0 h0, t.cell x.z1 h0, t.cell x.z2 h0, fun j => (t.frozen (p := ⟨w.heap.size, j, none⟩) (by show w.heap.size < _; omega) h0).trans (x.zf j), t.cell x.x0 h2, t.cell x.x1 h2, t.cell x.x2 h2, fun j => (t.frozen (p := ⟨w.heap.size + 1, j, none⟩) (by show w.heap.size + 1 < _; omega) h2).trans (x.xf j), x.so.tn t (fun k e => h1 k (by have := (x.so.lt k e).1; omega)), Nat.le_trans hz t.size⟩
theorem Gx.start (w : World) : Gx w ((w.alloc (.cells #[.int .i64 0, .int .i64 0, .slice none 0 0] 37)).alloc (.cells #[.int .i64 0, .int .i64 0, .slice none 0 0] 37)) 0 0 none 0 0 [] :=
  ⟨by simp [go_sem], by simp [go_sem], by simp [go_sem], fun j => by simp [go_sem], by simp [go_sem], by simp [go_sem], by simp [go_sem], fun j => by simp [go_sem], So.empty _ _ _ _ _, by simp⟩
theorem Gx.startR (w : World) : Gx w ((w.alloc (.cells #[.int .i64 0, .int .i64 0, .slice none 0 0] 29)).alloc (.cells #[.int .i64 0, .int .i64 0, .slice none 0 0] 29)) 0 0 none 0 0 [] :=
  ⟨by simp [go_sem], by simp [go_sem], by simp [go_sem], fun j => by simp [go_sem], by simp [go_sem], by simp [go_sem], by simp [go_sem], fun j => by simp [go_sem], So.empty _ _ _ _ _, by simp⟩
theorem Gx.set0 (x : Gx w wr e p A n cap ms) (v : Int) : Gx w (wr.setCell ⟨w.heap.size + 1, 0, none⟩ (.int .i64 v)) v p A n cap ms := by
  obtain ⟨z0, z1, z2, zf, x0, x1, x2, xf, so, hz⟩ := x
  exact ⟨by simp [go_sem, z0], by simp [go_sem, z1], by simp [go_sem, z2], fun j => by rw [World.frozen?_setCell]; exact zf j, by simp [go_sem, x0], by simp [go_sem, x1], by simp [go_sem, x2], fun j => by rw [World.frozen?_setCell]; exact xf j, so.tn (Tn.setCell _ _ _ _) (fun k e9 => by have := (so.lt k e9).1; omega), by simpa [World.setCell] using hz⟩
theorem Gx.set1 (x : Gx w wr e p A n cap ms) (v : Int) : Gx w (wr.setCell ⟨w.heap.size + 1, 1, none⟩ (.int .i64 v)) e v A n cap ms := by
  obtain ⟨z0, z1, z2, zf, x0, x1, x2, xf, so, hz⟩ := x
  exact ⟨by simp [go_sem, z0], by simp [go_sem, z1], by simp [go_sem, z2], fun j => by rw [World.frozen?_setCell]; exact zf j, by simp [go_sem, x0], by simp [go_sem, x1], by simp [go_sem, x2], fun j => by rw [World.frozen?_setCell]; exact xf j, so.tn (Tn.setCell _ _ _ _) (fun k e9 => by have := (so.lt k e9).1; omega), by simpa [World.setCell] using hz⟩
/-- The members' slice grown, and stored. -/
theorem Gx.push {B : Option Addr} {n' cap' : Nat} {ms' : List Int} {w2 : World} (x : Gx w wr e p A n cap ms) (so : So encI 1 w2 (w.heap.size + 2) 3 (.slice B n' cap') ms') (t : Tn (fun k => (Value.slice A n cap).ownBlock = some k) wr w2) :
    Gx w (w2.setCell ⟨w.heap.size + 1, 2, none⟩ (.slice B n' cap')) e p B n' cap' ms' := by
  have ho : ∀ k, (Value.slice A n cap).ownBlock = some k → w.heap.size + 2 ≤ k := fun k e9 => (x.so.lt k e9).1
  have hz := x.hz
  have z0 := t.cell x.z0 (fun e9 => by have := ho _ e9; simp only at this; omega)
  have z1 := t.cell x.z1 (fun e9 => by have := ho _ e9; simp only at this; omega)
  have z2 := t.cell x.z2 (fun e9 => by have := ho _ e9; simp only at this; omega)
  have x0 := t.cell x.x0 (fun e9 => by have := ho _ e9; simp only at this; omega)
  have x1 := t.cell x.x1 (fun e9 => by have := ho _ e9; simp only at this; omega)
  have x2 := t.cell x.x2 (fun e9 => by have := ho _ e9; simp only at this; omega)
  refine ⟨by simp [go_sem, z0], by simp [go_sem, z1], by simp [go_sem, z2], fun j => ?_, by simp [go_sem, x0], by simp [go_sem, x1], by simp [go_sem, x2], fun j => ?_, so.tn (Tn.setCell _ _ _ _) (fun k e9 => by have := (so.lt k e9).1; omega), ?_⟩
  · rw [World.frozen?_setCell]
    exact (t.frozen (p := ⟨w.heap.size, j, none⟩) (by show w.heap.size < _; omega) (fun e9 => by have := ho _ e9; simp only at this; omega)).trans (x.zf j)
  · rw [World.frozen?_setCell]
    exact (t.frozen (p := ⟨w.heap.size + 1, j, none⟩) (by show w.heap.size + 1 < _; omega) (fun e9 => by have := ho _ e9; simp only at this; omega)).trans (x.xf j)
  · have := t.size; simpa [World.setCell] using Nat.le_trans hz this
end
/-- What the document's Get gives. -/
def RGetP (K9 : Nat) (w : World) (b : Nat) (B l : List UInt8) (e : Int) (en : Ending) (w' : World) : Prop :=
  ∃ A n cap, en = .returned (.agg #[.int .i64 (getV l e).e, .int .i64 (getV l e).p, .slice A n cap]) ∧ n = (getV l e).ms.length ∧ So encI 1 w' w.heap.size 3 (.slice A n cap) (getV l e).ms ∧ Mx K9 w' b B (getV l e).l (getV l e).r ∧ Tn (· = b) w w'
set_option maxRecDepth 100000 in
set_option maxHeartbeats 3200000 in
theorem rget_any2 (b : Nat) (B l : List UInt8) (e : Int) (w : World) (h : Mx K9 w b B l e) :
    Calls Try.prog 27 #[.pointer (some ⟨b, 0, none⟩)] w (RGetP K9 w b B l e) := by
  have hbw := h.lt
  have HG0 := Lib.hid (Gx.startR w)
  have HM0 := Lib.hid (h.below (show Below w.heap.size w ((w.alloc (.cells #[.int .i64 0, .int .i64 0, .slice none 0 0] 29)).alloc (.cells #[.int .i64 0, .int .i64 0, .slice none 0 0] 29)) by go_grown))
  have HT0 : Hid (Tn (· = b) w ((w.alloc (.cells #[.int .i64 0, .int .i64 0, .slice none 0 0] 29)).alloc (.cells #[.int .i64 0, .int .i64 0, .slice none 0 0] 29))) := Lib.hid (Tn.ofNew (by go_grown))
  obtain ⟨G, hG⟩ : ∃ G, G = getV l e := ⟨_, rfl⟩
  have HGV := Lib.hid hG
  clear h hG
  go_enter Try.func27, Try.ntmps27
  go_wp2_with fail
  generalize (w.alloc (.cells #[.int .i64 0, .int .i64 0, .slice none 0 0] 29)).alloc (.cells #[.int .i64 0, .int .i64 0, .slice none 0 0] 29) = W0 at *
  go_at_call 43
  refine HM0.out.int.mono ?_
  rintro en w1 ⟨rfl, m1, t1⟩
  obtain ⟨r1, hr1⟩ : ∃ r1, r1 = nuR l e := ⟨_, rfl⟩
  rw [← hr1] at m1 ⊢
  have HR1 := Lib.hid hr1
  have G1 := HG0.out.tn t1 (fun k hk e9 => by omega)
  have x0 := G1.x0
  have xf := G1.xf 0
  have hz1 := G1.hz
  have HG1 := Lib.hid (G1.set0 (unzz r1.1))
  have HT1 := Lib.hid ((HT0.out.then t1).thenNew9 (Tn.setCell w1 (w.heap.size + 1) 0 (.int .i64 (unzz r1.1))) (fun k hk => by omega))
  have HM1 := Lib.hid (m1.tn (Tn.setCell w1 (w.heap.size + 1) 0 (.int .i64 (unzz r1.1))) (fun k hk => by omega))
  clear G1 m1 t1 hr1
  generalize hv1 : unzz r1.1 = v1 at *
  have HV1 := Lib.hid hv1
  clear hv1
  go_wp2_with fail
  generalize w1.setCell ⟨w.heap.size + 1, 0, none⟩ (.int .i64 v1) = W1 at *
  clear x0 xf hz1
  go_at_call 43
  refine HM1.out.int.mono ?_
  rintro en w2 ⟨rfl, m2, t2⟩
  obtain ⟨r2, hr2⟩ : ∃ r2, r2 = nuR r1.2.1 r1.2.2 := ⟨_, rfl⟩
  rw [← hr2] at m2 ⊢
  have HR2 := Lib.hid hr2
  have G2 := HG1.out.tn t2 (fun k hk e9 => by omega)
  have x1 := G2.x1
  have xf := G2.xf 1
  have hz2 := G2.hz
  have HG2 := Lib.hid (G2.set1 (unzz r2.1))
  have HT2 := Lib.hid ((HT1.out.then t2).thenNew9 (Tn.setCell w2 (w.heap.size + 1) 1 (.int .i64 (unzz r2.1))) (fun k hk => by omega))
  have HM2 := Lib.hid (m2.tn (Tn.setCell w2 (w.heap.size + 1) 1 (.int .i64 (unzz r2.1))) (fun k hk => by omega))
  clear G2 m2 t2 hr2
  generalize hv2 : unzz r2.1 = v2 at *
  have HV2 := Lib.hid hv2
  clear hv2
  go_wp2_with fail
  generalize w2.setCell ⟨w.heap.size + 1, 1, none⟩ (.int .i64 v2) = W2 at *
  clear x1 xf hz2
  go_at_call 44
  refine HM2.out.count.mono ?_
  rintro en w3 ⟨rfl, m3, t3⟩
  have hc8 := cn_le8 r2.2.1 r2.2.2
  obtain ⟨r3, hr3⟩ : ∃ r3, r3 = cnR 8 r2.2.1 r2.2.2 := ⟨_, rfl⟩
  rw [← hr3] at m3 hc8 ⊢
  have HR3 := Lib.hid hr3
  have HG3 := Lib.hid (HG2.out.tn t3 (fun k hk e9 => by omega))
  have HT3 := Lib.hid (HT2.out.then t3)
  have HM3 := Lib.hid m3
  clear m3 t3 hr3
  obtain ⟨n3, l3, e3⟩ := r3
  simp only at hc8
  go_wp2_with fail
  go_loopw [5] (fun iv wr => ∃ (j : Nat) (A : Option Addr) (n cap : Nat), j ≤ n3 ∧ iv = .int .i64 (j : Int) ∧ Gx w wr v1 v2 A n cap (rdJ j l3 e3).1 ∧ Mx K9 wr b B (rdJ j l3 e3).2.1 (rdJ j l3 e3).2.2 ∧ Tn (· = b) w wr) (fun iv _ => n3 - (intOf iv).toNat)
  case atStart => exact ⟨0, none, 0, 0, Nat.zero_le _, rfl, HG3.out, HM3.out, HT3.out⟩
  case round =>
    obtain ⟨j, A, n, cap, hj, rfl, g, m, t⟩ := hrel
    rename World => W3
    have HG := Lib.hid g
    have HM := Lib.hid m
    have HT := Lib.hid t
    clear g m t
    by_cases hlt : j < n3
    · have hlI : (j : Int) < (n3 : Int) := by omega
      go_wp2_with fail
      go_at_call 43
      refine HM.out.int.mono ?_
      rintro en w4 ⟨rfl, m4, t4⟩
      have hrl := rdJ_len l3 e3 j
      have HS : Hid (rdJ (j + 1) l3 e3 = ((rdJ j l3 e3).1 ++ [unzz (nuR (rdJ j l3 e3).2.1 (rdJ j l3 e3).2.2).1], (nuR (rdJ j l3 e3).2.1 (rdJ j l3 e3).2.2).2)) := Lib.hid rfl
      have G4 := HG.out.tn t4 (fun k hk e9 => by omega)
      have hln := G4.so.lenI
      have x2 := G4.x2
      have xf := G4.xf 2
      have hz4 := G4.hz
      have hz4' : w.heap.size + 1 < w4.heap.size := by omega
      have HG4 := Lib.hid G4
      have HM4 := Lib.hid m4
      have HT4 := Lib.hid (HT.out.then t4)
      generalize (rdJ j l3 e3).1 = L at *
      generalize unzz (nuR (rdJ j l3 e3).2.1 (rdJ j l3 e3).2.2).1 = x at *
      generalize (nuR (rdJ j l3 e3).2.1 (rdJ j l3 e3).2.2).2 = q at *
      have HLN : Hid (L.length = j) := Lib.hid hrl
      obtain rfl : n = j := by omega
      clear G4 m4 t4 hrl hln
      go_wp2_with (at_builtin; refine wpList_pushE Try.underlying22 info_i64 rfl (by decide) w4 rfl (.tmp 23) (.tmp 25) rfl (w.heap.size + 2) (.slice A n cap) L rfl HG4.out.so x _ rfl rfl (encI_one _) _ w4.heap.size rfl rfl (n + 1) (by rw [HLN.out]) (by unfold maxLen; omega) (by omega) hz4 ?_; intro A5 c5 w5 so5 hg5 hat5; have x25 := (Tn.ofGrown hg5).cell x2 (fun e9 => by have := (HG4.out.so.lt _ e9.symm).1; simp only at this; omega); have xf5 := ((Tn.ofGrown hg5).frozen (p := ⟨w.heap.size + 1, 2, none⟩) hz4' (fun e9 => by have := (HG4.out.so.lt _ e9.symm).1; simp only at this; omega)).trans xf; have hz5 : w.heap.size + 1 < w5.heap.size := Nat.lt_of_lt_of_le hz4' hg5.size)
      have HG5 := Lib.hid (HG4.out.push so5 ((Tn.ofGrown hg5).mono fun k _ e9 => e9.symm))
      have HT5 : Hid (Tn (· = b) w w5) := Lib.hid (HT4.out.thenQ (Tn.ofGrown hg5) fun k hk e9 => by have := (HG4.out.so.lt _ e9.symm).1; omega)
      have HM5 := Lib.hid (HM4.out.tn (Tn.ofGrown hg5) fun k hk e9 => by have := (HG4.out.so.lt _ e9.symm).1; omega)
      have HT6 := Lib.hid (HT5.out.thenNew9 (Tn.setCell w5 (w.heap.size + 1) 2 (.slice A5 (n + 1) c5)) (fun k hk => by omega))
      have HM6 := Lib.hid (HM5.out.tn (Tn.setCell w5 (w.heap.size + 1) 2 (.slice A5 (n + 1) c5)) (fun k hk => by omega))
      clear so5 hg5 hat5
      go_roundw
      case rel => exact ⟨n + 1, A5, n + 1, c5, by omega, by go_num, by rw [HS.out]; exact HG5.out, by rw [HS.out]; exact HM6.out, HT6.out⟩
      case measure => simp [intOf]; omega
    · obtain rfl : j = n3 := by omega
      have hr9 := HM.out.c2
      have hln := HG.out.so.lenI
      have x0 := HG.out.x0
      have x1 := HG.out.x1
      have x2 := HG.out.x2
      have z0 := HG.out.z0
      have z1 := HG.out.z1
      have z2 := HG.out.z2
      have zf := HG.out.zf
      have hzz := HG.out.hz
      have hza : w.heap.size < W3.heap.size := by omega
      have hzb : w.heap.size + 1 < W3.heap.size := by omega
      have HGE : Hid (getV l e = if (rdJ j l3 e3).2.2 ≠ 0 then ⟨0, 0, [], (rdJ j l3 e3).2.1, (rdJ j l3 e3).2.2⟩ else ⟨v1, v2, (rdJ j l3 e3).1, (rdJ j l3 e3).2.1, (rdJ j l3 e3).2.2⟩) := Lib.hid (by
        unfold getV
        simp only
        rw [← HR1.out, ← HR2.out, ← HR3.out, HV1.out, HV2.out])
      have HFT : Hid (∀ a0 a1 a2, Tn (· = b) w (((W3.setCell ⟨w.heap.size, 0, none⟩ a0).setCell ⟨w.heap.size, 1, none⟩ a1).setCell ⟨w.heap.size, 2, none⟩ a2)) := Lib.hid fun a0 a1 a2 => ((HT.out.thenNew9 (Tn.setCell _ w.heap.size 0 _) (fun k hk => by omega)).thenNew9 (Tn.setCell _ w.heap.size 1 _) (fun k hk => by omega)).thenNew9 (Tn.setCell _ w.heap.size 2 _) (fun k hk => by omega)
      have HFM : Hid (∀ a0 a1 a2, Mx K9 (((W3.setCell ⟨w.heap.size, 0, none⟩ a0).setCell ⟨w.heap.size, 1, none⟩ a1).setCell ⟨w.heap.size, 2, none⟩ a2) b B (rdJ j l3 e3).2.1 (rdJ j l3 e3).2.2) := Lib.hid fun a0 a1 a2 => ((HM.out.tn (Tn.setCell _ w.heap.size 0 _) (fun k hk => by omega)).tn (Tn.setCell _ w.heap.size 1 _) (fun k hk => by omega)).tn (Tn.setCell _ w.heap.size 2 _) (fun k hk => by omega)
      have HFS : Hid (∀ a0 a1 a2, So encI 1 (((W3.setCell ⟨w.heap.size, 0, none⟩ a0).setCell ⟨w.heap.size, 1, none⟩ a1).setCell ⟨w.heap.size, 2, none⟩ a2) w.heap.size 3 (.slice A n cap) (rdJ j l3 e3).1) := Lib.hid fun a0 a1 a2 => (((HG.out.so.tn (Tn.setCell _ w.heap.size 0 _) (fun k e9 => by have := (HG.out.so.lt k e9).1; omega)).tn (Tn.setCell _ w.heap.size 1 _) (fun k e9 => by have := (HG.out.so.lt k e9).1; omega)).tn (Tn.setCell _ w.heap.size 2 _) (fun k e9 => by have := (HG.out.so.lt k e9).1; omega)).more (by omega)
      by_cases he4 : (rdJ j l3 e3).2.2 = 0
      · have d4 : ((rdJ j l3 e3).2.2 != 0) = false := by simpa using he4
        have HGF := Lib.hid (HGE.out.trans (if_neg (by rw [he4]; decide)))
        have HLN := Lib.hid hln
        generalize (rdJ j l3 e3).2.2 = e4 at *
        clear he4 hln
        go_wp2_with fail
        refine bodyPost_ret (v := .agg #[.int .i64 v1, .int .i64 v2, .slice A n cap]) (by simp [results, Try.results27, go_sem, z0, z1, z2]) rfl ?_
        unfold RGetP
        rw [HGF.out]
        exact ⟨A, n, cap, rfl, HLN.out.symm, HFS.out _ _ _, HFM.out _ _ _, HFT.out _ _ _⟩
      · have d4 : ((rdJ j l3 e3).2.2 != 0) = true := by simpa using he4
        have HGF := Lib.hid (HGE.out.trans (if_pos he4))
        generalize (rdJ j l3 e3).2.2 = e4 at *
        clear he4 hln
        go_wp2_with fail
        refine bodyPost_ret (v := .agg #[.int .i64 0, .int .i64 0, .slice none 0 0]) (by simp [results, Try.results27, go_sem, z0, z1, z2]) rfl ?_
        unfold RGetP
        rw [HGF.out]
        exact ⟨none, 0, 0, rfl, rfl, So.empty _ _ _ _ _, HFM.out _ _ _, HFT.out _ _ _⟩
end Go.Proofs.Ytcgkbpjfbahleaa
namespace Go.Proofs.Ytcgkbpjfbahleaa
open Go.RowKit Go.BigFrame

theorem Rd.tn {P : Nat → Prop} {w w' : World} {K b : Nat} {l : List UInt8} {e : Int} (h : Rd w K b l e) (t : Tn P w w') (hP : ∀ k, k ≤ b → ¬ P k) : Rd w' K b l e := by
  obtain ⟨A, cap, h0, h1, f0, f1, hs⟩ := h.out
  have hlt := h.lt
  have hkb := h.kb
  have hb := hP b (Nat.le_refl _)
  exact ⟨⟨A, cap, t.cell h0 hb, t.cell h1 hb, (t.frozen (p := ⟨b, 0, none⟩) hlt hb).trans f0, (t.frozen (p := ⟨b, 1, none⟩) hlt hb).trans f1, t.bs hs fun hl ad e9 => by
    obtain ⟨ad', e', hk, _⟩ := hs.at_ hl
    rw [e9] at e'
    cases e'
    exact hP _ (by omega)⟩, hkb, Nat.lt_of_lt_of_le hlt t.size⟩
/-- What the program's Get gives. -/
def VGetP (w : World) (K b : Nat) (l : List UInt8) (e : Int) (en : Ending) (w' : World) : Prop :=
  ∃ A n cap, en = .returned (.agg #[.int .i64 (getV l e).e, .int .i64 (getV l e).p, .slice A n cap]) ∧ n = (getV l e).ms.length ∧ So encI 1 w' w.heap.size 3 (.slice A n cap) (getV l e).ms ∧ Rd w' K b (getV l e).l (getV l e).r ∧ Tn (· = b) w w'
set_option maxRecDepth 100000 in
set_option maxHeartbeats 3200000 in
theorem vget_any2 (K b : Nat) (l : List UInt8) (e : Int) (w : World) (h : Rd w K b l e) :
    Calls Try.prog 26 #[.pointer (some ⟨b, 0, none⟩)] w (VGetP w K b l e) := by
  have hbw := h.lt
  have HG0 := Lib.hid (Gx.start w)
  have HM0 := Lib.hid (h.below (show Below w.heap.size w ((w.alloc (.cells #[.int .i64 0, .int .i64 0, .slice none 0 0] 37)).alloc (.cells #[.int .i64 0, .int .i64 0, .slice none 0 0] 37)) by go_grown))
  have HT0 : Hid (Tn (· = b) w ((w.alloc (.cells #[.int .i64 0, .int .i64 0, .slice none 0 0] 37)).alloc (.cells #[.int .i64 0, .int .i64 0, .slice none 0 0] 37))) := Lib.hid (Tn.ofNew (by go_grown))
  obtain ⟨G, hG⟩ : ∃ G, G = getV l e := ⟨_, rfl⟩
  have HGV := Lib.hid hG
  clear h hG
  go_enter Try.func26, Try.ntmps26
  go_wp2_with fail
  generalize (w.alloc (.cells #[.int .i64 0, .int .i64 0, .slice none 0 0] 37)).alloc (.cells #[.int .i64 0, .int .i64 0, .slice none 0 0] 37) = W0 at *
  go_at_call 40
  refine (rint_any K b l e _ HM0.out).mono ?_
  rintro en w1 ⟨rfl, m1, t1⟩
  obtain ⟨r1, hr1⟩ : ∃ r1, r1 = nuR l e := ⟨_, rfl⟩
  rw [← hr1] at m1 ⊢
  have HR1 := Lib.hid hr1
  have G1 := HG0.out.tn t1 (fun k hk e9 => by omega)
  have x0 := G1.x0
  have xf := G1.xf 0
  have hz1 := G1.hz
  have HG1 := Lib.hid (G1.set0 (unzz r1.1))
  have HT1 := Lib.hid ((HT0.out.then t1).thenNew9 (Tn.setCell w1 (w.heap.size + 1) 0 (.int .i64 (unzz r1.1))) (fun k hk => by omega))
  have HM1 := Lib.hid (m1.tn (Tn.setCell w1 (w.heap.size + 1) 0 (.int .i64 (unzz r1.1))) (fun k hk => by omega))
  clear G1 m1 t1 hr1
  generalize hv1 : unzz r1.1 = v1 at *
  have HV1 := Lib.hid hv1
  clear hv1
  go_wp2_with fail
  generalize w1.setCell ⟨w.heap.size + 1, 0, none⟩ (.int .i64 v1) = W1 at *
  clear x0 xf hz1
  go_at_call 40
  refine (rint_any K b _ _ _ HM1.out).mono ?_
  rintro en w2 ⟨rfl, m2, t2⟩
  obtain ⟨r2, hr2⟩ : ∃ r2, r2 = nuR r1.2.1 r1.2.2 := ⟨_, rfl⟩
  rw [← hr2] at m2 ⊢
  have HR2 := Lib.hid hr2
  have G2 := HG1.out.tn t2 (fun k hk e9 => by omega)
  have x1 := G2.x1
  have xf := G2.xf 1
  have hz2 := G2.hz
  have HG2 := Lib.hid (G2.set1 (unzz r2.1))
  have HT2 := Lib.hid ((HT1.out.then t2).thenNew9 (Tn.setCell w2 (w.heap.size + 1) 1 (.int .i64 (unzz r2.1))) (fun k hk => by omega))
  have HM2 := Lib.hid (m2.tn (Tn.setCell w2 (w.heap.size + 1) 1 (.int .i64 (unzz r2.1))) (fun k hk => by omega))
  clear G2 m2 t2 hr2
  generalize hv2 : unzz r2.1 = v2 at *
  have HV2 := Lib.hid hv2
  clear hv2
  go_wp2_with fail
  generalize w2.setCell ⟨w.heap.size + 1, 1, none⟩ (.int .i64 v2) = W2 at *
  clear x1 xf hz2
  go_at_call 41
  refine (rcount_any 8 (by decide) (by decide) K b _ _ _ HM2.out).mono ?_
  rintro en w3 ⟨rfl, m3, t3⟩
  have hc8 := cn_le8 r2.2.1 r2.2.2
  obtain ⟨r3, hr3⟩ : ∃ r3, r3 = cnR 8 r2.2.1 r2.2.2 := ⟨_, rfl⟩
  rw [← hr3] at m3 hc8 ⊢
  have HR3 := Lib.hid hr3
  have HG3 := Lib.hid (HG2.out.tn t3 (fun k hk e9 => by omega))
  have HT3 := Lib.hid (HT2.out.then t3)
  have HM3 := Lib.hid m3
  clear m3 t3 hr3
  obtain ⟨n3, l3, e3⟩ := r3
  simp only at hc8
  go_wp2_with fail
  go_loopw [12] (fun iv wr => ∃ (j : Nat) (A : Option Addr) (n cap : Nat), j ≤ n3 ∧ iv = .int .i64 (j : Int) ∧ Gx w wr v1 v2 A n cap (rdJ j l3 e3).1 ∧ Rd wr K b (rdJ j l3 e3).2.1 (rdJ j l3 e3).2.2 ∧ Tn (· = b) w wr) (fun iv _ => n3 - (intOf iv).toNat)
  case atStart => exact ⟨0, none, 0, 0, Nat.zero_le _, rfl, HG3.out, HM3.out, HT3.out⟩
  case round =>
    obtain ⟨j, A, n, cap, hj, rfl, g, m, t⟩ := hrel
    rename World => W3
    have HG := Lib.hid g
    have HM := Lib.hid m
    have HT := Lib.hid t
    clear g m t
    by_cases hlt : j < n3
    · have hlI : (j : Int) < (n3 : Int) := by omega
      have x2 := HG.out.x2
      have HGD := Lib.hid (HG.out.tn (P := fun _ => False) (Tn.drew W3) (fun _ _ => id))
      have HMD := Lib.hid (HM.out.tn (P := fun _ => False) (Tn.drew W3) (fun _ _ => id))
      have hrl := rdJ_len l3 e3 j
      have HS : Hid (rdJ (j + 1) l3 e3 = ((rdJ j l3 e3).1 ++ [unzz (nuR (rdJ j l3 e3).2.1 (rdJ j l3 e3).2.2).1], (nuR (rdJ j l3 e3).2.1 (rdJ j l3 e3).2.2).2)) := Lib.hid rfl
      have hln := HG.out.so.lenI
      have HCI := Lib.hid (rint_any K b _ _ _ HMD.out)
      obtain ⟨L, hL⟩ : ∃ L, L = (rdJ j l3 e3).1 := ⟨_, rfl⟩
      obtain ⟨x, hx⟩ : ∃ x, x = unzz (nuR (rdJ j l3 e3).2.1 (rdJ j l3 e3).2.2).1 := ⟨_, rfl⟩
      obtain ⟨q, hq⟩ : ∃ q, q = (nuR (rdJ j l3 e3).2.1 (rdJ j l3 e3).2.2).2 := ⟨_, rfl⟩
      rw [← hL] at hln hrl
      rw [← hL, ← hx, ← hq] at HS
      rw [← hx, ← hq] at HCI
      rw [← hL] at HG HGD
      have HLN : Hid (L.length = j) := Lib.hid hrl
      obtain rfl : n = j := by omega
      clear hrl hln hL hx hq HMD
      go_wp2_with fail
      go_region_law
        (first
          | (go_simp; go_at_call 40; go_loud (refine HCI.out.mono ?_; rintro en w4 ⟨rfl, m4, t4⟩; have G4 := HGD.out.tn t4 (fun k hk e9 => by omega); have x24 := G4.x2; have x24a := (fun o => keptA (o := o) x24); have hz4 := G4.hz; have HG4 := Lib.hid G4))
          | (refine step_appI rfl (.tmp 15) (.tmp 18) rfl (w.heap.size + 2) (.slice A n cap) L rfl (HG4.out.so.alloc _) (some ⟨w4.heap.size, 0, none⟩) 1 1 [x] rfl rfl _ ((lit_so w4 w4.heap.size 3 w4.heap.size rfl (Nat.le_refl _) #[.int .i64 x] 1 [x] encI_len rfl rfl (by decide)).sr encI_len).1 (n + 1) (by rw [HLN.out]; rfl) (by rw [HLN.out]; simp; omega) (by simp; omega) ?_; intro A5 c5 w5 so5 hg5 hat5; have hown := (fun k (e9 : (Value.slice A n cap).ownBlock = some k) => (HG4.out.so.lt k e9).1); have x25 := (Tn.ofGrown hg5).cell (x24a _) (fun e9 => by have := hown _ e9.symm; simp only at this; omega); have xf5 := ((Tn.ofGrown hg5).frozen (p := ⟨w.heap.size + 1, 2, none⟩) (by show w.heap.size + 1 < _; simp; omega) (fun e9 => by have := hown _ e9.symm; simp only at this; omega)).trans (keptFa x24 (HG4.out.xf 2)); have hz5 : w.heap.size + 1 < w5.heap.size := (by have := hg5.size; simp at this; omega)))
      all_goals
        have T45 : Tn (fun k => (Value.slice A n cap).ownBlock = some k) w4 w5 := (Tn.alloc _ _).thenQ (Tn.ofGrown hg5) fun k _ e9 => e9.symm
        have HG5 := Lib.hid (HG4.out.push so5 T45)
        have HT4 : Hid (Tn (· = b) w w4) := Lib.hid ((HT.out.then ((Tn.drew W3).then t4)))
        have HT5 : Hid (Tn (· = b) w w5) := Lib.hid (HT4.out.thenQ T45 fun k hk e9 => by have := hown _ e9; omega)
        have HM5 := Lib.hid (m4.tn T45 fun k hk e9 => by have := hown _ e9; omega)
        have HT6 := Lib.hid (HT5.out.thenNew9 (Tn.setCell w5 (w.heap.size + 1) 2 (.slice A5 (n + 1) c5)) (fun k hk => by omega))
        have HM6 := Lib.hid (HM5.out.tn (Tn.setCell w5 (w.heap.size + 1) 2 (.slice A5 (n + 1) c5)) (fun k hk => by omega))
        clear so5 hg5 hat5 m4 t4 T45
        go_wp2_with fail
        go_roundw
        case rel => exact ⟨n + 1, A5, n + 1, c5, by omega, by go_num, by rw [HS.out]; exact HG5.out, by rw [HS.out]; exact HM6.out, HT6.out⟩
        case measure => simp [intOf]; omega
    · obtain rfl : j = n3 := by omega
      have HEC := Lib.hid (rerr_any K b _ _ _ HM.out)
      have hln := HG.out.so.lenI
      have x0 := HG.out.x0
      have x1 := HG.out.x1
      have x2 := HG.out.x2
      have z0 := HG.out.z0
      have z1 := HG.out.z1
      have z2 := HG.out.z2
      have zf := HG.out.zf
      have hzz := HG.out.hz
      have hza : w.heap.size < W3.heap.size := by omega
      have hzb : w.heap.size + 1 < W3.heap.size := by omega
      have HGE : Hid (getV l e = if (rdJ j l3 e3).2.2 ≠ 0 then ⟨0, 0, [], (rdJ j l3 e3).2.1, (rdJ j l3 e3).2.2⟩ else ⟨v1, v2, (rdJ j l3 e3).1, (rdJ j l3 e3).2.1, (rdJ j l3 e3).2.2⟩) := Lib.hid (by
        unfold getV
        simp only
        rw [← HR1.out, ← HR2.out, ← HR3.out, HV1.out, HV2.out])
      have HFT : Hid (∀ a0 a1 a2, Tn (· = b) w (((W3.setCell ⟨w.heap.size, 0, none⟩ a0).setCell ⟨w.heap.size, 1, none⟩ a1).setCell ⟨w.heap.size, 2, none⟩ a2)) := Lib.hid fun a0 a1 a2 => ((HT.out.thenNew9 (Tn.setCell _ w.heap.size 0 _) (fun k hk => by omega)).thenNew9 (Tn.setCell _ w.heap.size 1 _) (fun k hk => by omega)).thenNew9 (Tn.setCell _ w.heap.size 2 _) (fun k hk => by omega)
      have HFM : Hid (∀ a0 a1 a2, Rd (((W3.setCell ⟨w.heap.size, 0, none⟩ a0).setCell ⟨w.heap.size, 1, none⟩ a1).setCell ⟨w.heap.size, 2, none⟩ a2) K b (rdJ j l3 e3).2.1 (rdJ j l3 e3).2.2) := Lib.hid fun a0 a1 a2 => ((HM.out.tn (Tn.setCell _ w.heap.size 0 _) (fun k hk => by omega)).tn (Tn.setCell _ w.heap.size 1 _) (fun k hk => by omega)).tn (Tn.setCell _ w.heap.size 2 _) (fun k hk => by omega)
      have HFS : Hid (∀ a0 a1 a2, So encI 1 (((W3.setCell ⟨w.heap.size, 0, none⟩ a0).setCell ⟨w.heap.size, 1, none⟩ a1).setCell ⟨w.heap.size, 2, none⟩ a2) w.heap.size 3 (.slice A n cap) (rdJ j l3 e3).1) := Lib.hid fun a0 a1 a2 => (((HG.out.so.tn (Tn.setCell _ w.heap.size 0 _) (fun k e9 => by have := (HG.out.so.lt k e9).1; omega)).tn (Tn.setCell _ w.heap.size 1 _) (fun k e9 => by have := (HG.out.so.lt k e9).1; omega)).tn (Tn.setCell _ w.heap.size 2 _) (fun k e9 => by have := (HG.out.so.lt k e9).1; omega)).more (by omega)
      by_cases he4 : (rdJ j l3 e3).2.2 = 0
      · have d4 : ((rdJ j l3 e3).2.2 != 0) = false := by simpa using he4
        have HGF := Lib.hid (HGE.out.trans (if_neg (by rw [he4]; decide)))
        have HLN := Lib.hid hln
        generalize (rdJ j l3 e3).2.2 = e4 at *
        clear he4 hln
        go_wp2_with (go_at_call 42; refine HEC.out.mono ?_; rintro en w9 ⟨rfl, rfl⟩)
        refine bodyPost_ret (v := .agg #[.int .i64 v1, .int .i64 v2, .slice A n cap]) (by simp [results, Try.results26, go_sem, z0, z1, z2]) rfl ?_
        unfold VGetP
        rw [HGF.out]
        exact ⟨A, n, cap, rfl, HLN.out.symm, HFS.out _ _ _, HFM.out _ _ _, HFT.out _ _ _⟩
      · have d4 : ((rdJ j l3 e3).2.2 != 0) = true := by simpa using he4
        have HGF := Lib.hid (HGE.out.trans (if_pos he4))
        generalize (rdJ j l3 e3).2.2 = e4 at *
        clear he4 hln
        go_wp2_with (go_at_call 42; refine HEC.out.mono ?_; rintro en w9 ⟨rfl, rfl⟩)
        refine bodyPost_ret (v := .agg #[.int .i64 0, .int .i64 0, .slice none 0 0]) (by simp [results, Try.results26, go_sem, z0, z1, z2]) rfl ?_
        unfold VGetP
        rw [HGF.out]
        exact ⟨none, 0, 0, rfl, rfl, So.empty _ _ _ _ _, HFM.out _ _ _, HFT.out _ _ _⟩
end Go.Proofs.Ytcgkbpjfbahleaa
namespace Go.Proofs.Ytcgkbpjfbahleaa
open Go.RowKit

/-- One more of the two has come up. -/
def upG (i p : Nat) (b : Bool) : Bool := match Nat.beq i p with | true => true | false => b
theorem upG_eq (l : Nat → Bool) (i p : Nat) : updR l i true p = upG i p (l p) := by
  by_cases e : p = i
  · subst e
    rw [updR_same]
    unfold upG
    rw [Nat.beq_refl]
  · rw [updR_ne _ _ e]
    unfold upG
    have hb : Nat.beq i p = false := by
      cases h : Nat.beq i p with
      | false => rfl
      | true => exact absurd (Nat.eq_of_beq_eq_true h).symm e
    rw [hb]
theorem region_G {P : Program} {Q : Exit → Act → World → Prop} {ops : Array Oper} {id : Nat} {a0 : Act} {w0 : World} (G : Bool → Bool → World → Prop) (p q : Nat) (xs : List Value)
    (F : (Nat → Value) → Act) (hF : ∀ vs, F vs = putAll vs 0 ops.toList a0) (hm : P.follows .mixedOrders = true) (hf : fitsR ops = true) (hp : (Nat.blt p ops.size && Nat.blt q ops.size) = true)
    (hQ : ∀ c (x y : Act) w, x.defers = y.defers → Q (.panic c) x w → Q (.panic c) y w)
    (h0 : G false false w0.drew)
    (hstep : AllOps (fun i o => ∀ vs b c w, G b c w → AllD (fun j => vs j = xs.getD j undef) (depsOf o) → (Nat.beq i p = true → b = false) → (Nat.beq i q = true → c = false) →
      ∀ K : Act → World → Prop, (∀ w', G (upG i p b) (upG i q c) w' → K ((F vs).put o.dst (xs.getD i undef)) w') →
        if Region.wanted o (yielded ops (F vs).tmps) = true then Oper.wp P o (F vs) w K Q else K ((F vs).put o.dst undef) w) 0 ops.toList)
    (hend : ∀ vs w, G true true w → (∀ i, i < ops.size → vs i = xs.getD i undef) → Q .normal (F vs) w) :
    (Code.region id ops true).wp P Q a0 w0 := by
  simp only [Bool.and_eq_true, Nat.blt_eq] at hp
  refine region_inv hm hf F hF hQ (fun l vs w => G (l p) (l q) w ∧ ∀ i, l i = true → vs i = xs.getD i undef) ⟨h0, fun _ h => by cases h⟩ ?_ (fun l vs w hl hJ => ?_)
  · intro i o ho l vs w ⟨hG, hV⟩ hli hall K hK
    have hd := mem_deps ho hall
    have ho' : ops.toList[i]? = some o := by rw [Array.getElem?_toList]; exact ho
    have go := hstep.get ho'
    rw [Nat.zero_add] at go
    have hdep : AllD (fun j => vs j = xs.getD j undef) (depsOf o) := by
      have hdo : depsAt ops i = depsOf o := by simp [depsAt, ho]
      rw [hdo] at hd
      exact AllD.of (fun j hj => hV j hj) (AllL.mk hd)
    refine go vs (l p) (l q) w hG hdep (fun h => by have := Nat.eq_of_beq_eq_true h; subst this; exact hli) (fun h => by have := Nat.eq_of_beq_eq_true h; subst this; exact hli) K fun w' hG' => hK _ w' ⟨?_, fun j hj => ?_⟩
    · rw [upG_eq, upG_eq]; exact hG'
    · by_cases ej : j = i
      · subst ej; rw [updR_same]
      · rw [updR_ne _ _ ej] at hj ⊢
        exact hV j hj
  · have h1 := hJ.1
    rw [hl p hp.1, hl q hp.2] at h1
    exact hend vs w h1 fun i hi => hJ.2 i (hl i hi)
end Go.Proofs.Ytcgkbpjfbahleaa
namespace Go.Proofs.Ytcgkbpjfbahleaa
open Go.RowKit

theorem region_GP {P : Program} {Q : Exit → Act → World → Prop} {ops : Array Oper} {id : Nat} {a0 : Act} {w0 : World} {ι : Type} (holds : ι → Value → World → Prop) (G : Bool → Bool → World → Prop) (p q : Nat) (xs : List ι) (d : ι)
    (F : (Nat → Value) → Act) (hF : ∀ vs, F vs = putAll vs 0 ops.toList a0) (hm : P.follows .mixedOrders = true) (hf : fitsR ops = true) (hp : (Nat.blt p ops.size && Nat.blt q ops.size) = true)
    (hQ : ∀ c (x y : Act) w, x.defers = y.defers → Q (.panic c) x w → Q (.panic c) y w)
    (h0 : G false false w0.drew)
    (hstep : AllOps (fun i o => ∀ vs b c w, G b c w → AllD (fun j => holds (xs.getD j d) (vs j) w) (depsOf o) → (Nat.beq i p = true → b = false) → (Nat.beq i q = true → c = false) →
      ∀ K : Act → World → Prop, (∀ v w', G (upG i p b) (upG i q c) w' → (∀ x u, holds x u w → holds x u w') → holds (xs.getD i d) v w' → K ((F vs).put o.dst v) w') →
        if Region.wanted o (yielded ops (F vs).tmps) = true then Oper.wp P o (F vs) w K Q else K ((F vs).put o.dst undef) w) 0 ops.toList)
    (hend : ∀ vs w, G true true w → (∀ i, i < ops.size → holds (xs.getD i d) (vs i) w) → Q .normal (F vs) w) :
    (Code.region id ops true).wp P Q a0 w0 := by
  simp only [Bool.and_eq_true, Nat.blt_eq] at hp
  refine region_inv hm hf F hF hQ (fun l vs w => G (l p) (l q) w ∧ ∀ i, l i = true → holds (xs.getD i d) (vs i) w) ⟨h0, fun _ h => by cases h⟩ ?_ (fun l vs w hl hJ => ?_)
  · intro i o ho l vs w ⟨hG, hV⟩ hli hall K hK
    have hd := mem_deps ho hall
    have ho' : ops.toList[i]? = some o := by rw [Array.getElem?_toList]; exact ho
    have go := hstep.get ho'
    rw [Nat.zero_add] at go
    have hdep : AllD (fun j => holds (xs.getD j d) (vs j) w) (depsOf o) := by
      have hdo : depsAt ops i = depsOf o := by simp [depsAt, ho]
      rw [hdo] at hd
      exact AllD.of (fun j hj => hV j hj) (AllL.mk hd)
    refine go vs (l p) (l q) w hG hdep (fun h => by have := Nat.eq_of_beq_eq_true h; subst this; exact hli) (fun h => by have := Nat.eq_of_beq_eq_true h; subst this; exact hli) K fun v w' hG' hk hv => hK _ w' ⟨?_, fun j hj => ?_⟩
    · rw [upG_eq, upG_eq]; exact hG'
    · by_cases ej : j = i
      · subst ej; rw [updR_same]; exact hv
      · rw [updR_ne _ _ ej] at hj ⊢
        exact hk _ _ (hV j hj)
  · have h1 := hJ.1
    rw [hl p hp.1, hl q hp.2] at h1
    exact hend vs w h1 fun i hi => hJ.2 i (hl i hi)
end Go.Proofs.Ytcgkbpjfbahleaa
