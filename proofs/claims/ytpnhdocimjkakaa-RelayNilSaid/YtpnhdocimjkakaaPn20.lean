/- A view's bytes: what the program's Put and the document's lay. -/
import Derived.Test.YtpnhdocimjkakaaPn8
import Derived.Test.YtpnhdocimjkakaaPn19
import Derived.Test.YtpnhdocimjkakaaPn16
namespace Go.Proofs.Ytpnhdocimjkakaa
open Go.RowKit Go.BigFrame

def numsB (l : List Int) : List UInt8 := l.flatMap fun n => numB (zz n)
def putV (e p : Int) (ms : List Int) : List UInt8 := numB (zz e) ++ numB (zz p) ++ numB ms.length ++ numsB ms
theorem numsB_snoc (l : List Int) (j : Nat) (h : j < l.length) : numsB (l.take (j + 1)) = numsB (l.take j) ++ numB (zz l[j]) := by
  unfold numsB
  rw [take_snocI l j h, List.flatMap_append]
  simp
theorem numsB_len : ∀ l : List Int, (numsB l).length ≤ 9 * l.length
  | [] => by simp [numsB]
  | x :: l => by
    have := numsB_len l
    unfold numsB at this ⊢
    rw [List.flatMap_cons, List.length_append, numB_length, List.length_cons]
    have := kN_le (zz x)
    omega
theorem Ob.moreB {w : World} {K K' : Nat} {v : Value} {l : List UInt8} (h : Ob w K v l) (hK : K' ≤ K) : Ob w K' v l := by
  rcases h.2 with ⟨he, h0⟩ | ⟨g, cap', cur, he, hb, hg⟩
  · exact ⟨h.1, .inl ⟨he, h0⟩⟩
  · exact ⟨h.1, .inr ⟨g, cap', cur, he, by omega, hg⟩⟩
theorem Gr.below9 {w w' : World} {v v' : Value} {K : Nat} {l : List UInt8} (h : Gr w w' v v') (ho : Ob w K v l) (hK : K ≤ w.heap.size) : Below K w w' :=
  h.tn (b := w.heap.size) |>.below hK fun k hk e => by
    rcases e with e | e
    · omega
    · exact (ho.lt k e).1
inductive Vy where
  | v (u : Value)
  | s (l : List UInt8)
def HB (K : Nat) : Vy → Value → World → Prop
  | .v x, u, _ => u = x
  | .s l, u, w => ∃ A c, u = .slice A l.length c ∧ Ob w K (.slice A l.length c) l
theorem HB.mono {K : Nat} {x : Vy} {u : Value} {w w' : World} (h : HB K x u w) (hb : Below w.heap.size w w') : HB K x u w' := by
  cases x with
  | v y => exact h
  | s l =>
    obtain ⟨A, c, e, r⟩ := h
    exact ⟨A, c, e, (Tn.ofNew (P := fun _ => False) hb).ob r fun _ _ => id⟩
/-- What the document's Put gives. -/
def RPutP (w : World) (e p : Int) (ms : List Int) (en : Ending) (w' : World) : Prop := ∃ A n c, en = .returned (.slice A n c) ∧ n = (putV e p ms).length ∧ Ob w' w.heap.size (.slice A n c) (putV e p ms) ∧ Below w.heap.size w w'
set_option maxRecDepth 100000 in
set_option maxHeartbeats 3200000 in
theorem rput_any (e p : Int) (he : -9223372036854775808 ≤ e ∧ e ≤ 9223372036854775807) (hp : -9223372036854775808 ≤ p ∧ p ≤ 9223372036854775807) (K : Nat) (A : Option Addr) (n cap : Nat) (ms : List Int) (w : World) (hn : ms.length = n) (hs : Sr encI 1 w K A cap ms) (hK : K ≤ w.heap.size)
    (hr : ∀ x ∈ ms, -9223372036854775808 ≤ x ∧ x ≤ 9223372036854775807) (hl : ms.length ≤ 1048576) :
    Calls Try.prog 68 #[.slice none 0 0, .agg #[.int .i64 e, .int .i64 p, .slice A n cap]] w (RPutP w e p ms) := by
  subst hn
  have hle := hs.le
  have hmx := hs.max
  unfold maxLen at hmx
  obtain ⟨W1, hW1⟩ : ∃ W1, W1 = w.alloc (.cells #[.int .i64 e, .int .i64 p, .slice A ms.length cap] 31) := ⟨_, rfl⟩
  have HX0 : Hid (W1.cell? ⟨w.heap.size, 0, none⟩ = some (.int .i64 e)) := Lib.hid (by rw [hW1]; simp [go_sem])
  have HX1 : Hid (W1.cell? ⟨w.heap.size, 1, none⟩ = some (.int .i64 p)) := Lib.hid (by rw [hW1]; simp [go_sem])
  have HX2 : Hid (W1.cell? ⟨w.heap.size, 2, none⟩ = some (.slice A ms.length cap)) := Lib.hid (by rw [hW1]; simp [go_sem])
  have HZ : Hid (w.heap.size < W1.heap.size) := Lib.hid (by rw [hW1]; simp)
  have HZ2 : Hid (w.heap.size ≤ W1.heap.size) := Lib.hid (by rw [hW1]; simp)
  have HW1 : Hid (Below w.heap.size w W1) := Lib.hid (by rw [hW1]; exact (Below.refl _ _).alloc (Nat.le_refl _) _)
  have HSR : Hid (Sr encI 1 W1 W1.heap.size A cap ms) := Lib.hid (by rw [hW1]; exact (hs.alloc hK _).more (by simp; omega))
  have HWQ := Lib.hid hW1
  have HE := Lib.hid he
  have HP := Lib.hid hp
  clear hs hW1 he hp
  obtain ⟨m9, hm9⟩ : ∃ m9, m9 = numB (zz e) ++ numB (zz p) := ⟨_, rfl⟩
  have HM9 := Lib.hid hm9
  have hl9 : m9.length ≤ 18 := by rw [hm9, List.length_append, numB_length, numB_length]; have := kN_le (zz e); have := kN_le (zz p); omega
  obtain ⟨m10, hm10⟩ : ∃ m10, m10 = m9 ++ numB ms.length := ⟨_, rfl⟩
  have HM10 := Lib.hid hm10
  have hl10 : m10.length ≤ 27 := by rw [hm10, List.length_append, numB_length]; have := kN_le ms.length; omega
  clear hm9 hm10
  have HI1 : Hid (∀ W, Below W1.heap.size W1 W → Calls Try.prog 67 #[.slice none 0 0, .int .i64 e] W (App W W1.heap.size (.slice none 0 0) (numB (zz e)))) := Lib.hid fun W h => refInt_any e HE.out.1 HE.out.2 W1.heap.size none 0 0 [] W (Ob.empty _ _) h.size (by simp)
  have HI2 : Hid (∀ W A9 n9 c9, Ob W W1.heap.size (.slice A9 n9 c9) (numB (zz e)) → Below W1.heap.size W1 W → Calls Try.prog 67 #[.slice A9 n9 c9, .int .i64 p] W (App W W1.heap.size (.slice A9 n9 c9) m9)) := Lib.hid fun W A9 n9 c9 ho h => by rw [HM9.out]; exact refInt_any p HP.out.1 HP.out.2 W1.heap.size A9 n9 c9 _ W ho h.size (by have := numB_length (zz e); have := kN_le (zz e); omega)
  go_enter Try.func68, Try.ntmps68
  go_upto_region 1 with fail
  rw [← HWQ.out]
  clear HWQ
  have x0 := HX0.out
  have x1 := HX1.out
  have hbw : Below W1.heap.size W1 W1.drew := ⟨rfl, rfl, rfl, Nat.le_refl _, fun _ _ => rfl⟩
  go_region_held3 (fun w' => w'.cell? ⟨w.heap.size, 0, none⟩ = some (.int .i64 e) ∧ w'.cell? ⟨w.heap.size, 1, none⟩ = some (.int .i64 p) ∧ Below W1.heap.size W1 w')
    (((try dsimp only); go_split_ands; (repeat' apply And.intro) <;> first | assumption | (apply kk; assumption) | (apply kb; assumption)))
    ((go_at_call 67; (try go_split_ands); (first
      | ((with_reducible refine (HI1.out _ (by assumption)).mono ?_); rintro en w9 ⟨A9, c9, rfl, ho9, hg9⟩; have hb9 := hg9.belowNil; have kk : ∀ j u, World.cell? _ ⟨w.heap.size, j, none⟩ = some u → w9.cell? ⟨w.heap.size, j, none⟩ = some u := (fun j u h => kept hb9 h); have kb : Below W1.heap.size W1 _ → Below W1.heap.size W1 w9 := (fun h => h.trans (hb9.mono h.size)))
      | ((with_reducible refine (HI2.out _ _ _ _ ho9 (by assumption)).mono ?_); rintro en w8 ⟨A8, c8, rfl, ho8, hg8⟩; have hb8 := Gr.below9 hg8 ho9 (Below.size (by assumption)); have kk : ∀ j u, w9.cell? ⟨w.heap.size, j, none⟩ = some u → w8.cell? ⟨w.heap.size, j, none⟩ = some u := (fun j u h => (hb8.cell (p := ⟨w.heap.size, j, none⟩) HZ.out).trans h); have kb : Below W1.heap.size W1 w9 → Below W1.heap.size W1 w8 := (fun h => h.trans hb8)))))
  go_split_ands
  have hb : Below W1.heap.size W1 w8 := by assumption
  clear kk kb hb8 hg8 hb9 hg9 ho9
  have h2 := hb.cell (p := ⟨w.heap.size, 2, none⟩) HZ.out
  rw [HX2.out] at h2
  have HSO := Lib.hid ho8
  have HB2 := Lib.hid hb
  have hz2 := hb.size
  clear ho8 hb
  have HI3 : Hid (Calls Try.prog 114 #[.slice A8 m9.length c8, .int .u64 (ms.length : Int)] w8 (App w8 W1.heap.size (.slice A8 m9.length c8) m10)) := Lib.hid (by rw [HM10.out]; exact refNum_any ms.length (by omega) W1.heap.size A8 _ c8 m9 w8 HSO.out hz2 (by omega))
  go_wp2_with fail
  go_at_call 114
  refine HI3.out.mono ?_
  rintro en w3 ⟨A3, c3, rfl, so3, hg3⟩
  have HB3 := Lib.hid (HB2.out.trans (Gr.below9 hg3 HSO.out hz2))
  have HSO3 := Lib.hid so3
  clear so3 hg3 h2
  go_wp2_with fail
  go_loopw [0, 5] (fun sv iv wr => ∃ (j : Nat) (B : Option Addr) (L : List UInt8) (c' : Nat), j ≤ ms.length ∧ iv = .int .i64 (j : Int) ∧ sv = .slice B L.length c' ∧ Hid (L = m10 ++ numsB (ms.take j)) ∧ Ob wr W1.heap.size (.slice B L.length c') L ∧ Below W1.heap.size W1 wr) (fun _ iv _ => ms.length - (intOf iv).toNat)
  case atStart => exact ⟨0, A3, m10, c3, Nat.zero_le _, rfl, rfl, Lib.hid (by simp [numsB]), HSO3.out, HB3.out⟩
  case round =>
    obtain ⟨j, B, L, c', hj, rfl, rfl, HN, so, hb⟩ := hrel
    rename World => W0
    have h2 := hb.cell (p := ⟨w.heap.size, 2, none⟩) HZ.out
    rw [HX2.out] at h2
    have hsz := hb.size
    have HSOR := Lib.hid so
    have HBR := Lib.hid hb
    have HSR0 := Lib.hid (HSR.out.below hb)
    clear so hb
    by_cases hlt : j < ms.length
    · obtain ⟨ad, rfl, _, hc⟩ := HSR0.out.int hlt
      have hlI : (j : Int) < (ms.length : Int) := by omega
      have hj0 : (0 : Int) ≤ (j : Int) := by omega
      have HR := Lib.hid (hr ms[j] (List.getElem_mem hlt))
      have HT := Lib.hid (numsB_snoc ms j hlt)
      have hnl := numsB_len (ms.take j)
      have hnt : (ms.take j).length = j := by rw [List.length_take]; omega
      have HLN : Hid (L.length + 9 ≤ 140737488355328) := Lib.hid (by rw [HN.out, List.length_append]; rw [hnt] at hnl; omega)
      clear hnl hnt
      generalize ms[j] = x at *
      obtain ⟨m12, hm12⟩ : ∃ m12, m12 = L ++ numB (zz x) := ⟨_, rfl⟩
      have HI4 : Hid (Calls Try.prog 67 #[.slice B L.length c', .int .i64 x] W0 (App W0 W1.heap.size (.slice B L.length c') m12)) := Lib.hid (by rw [hm12]; exact refInt_any x HR.out.1 HR.out.2 W1.heap.size B _ c' L W0 HSOR.out hsz HLN.out)
      have HM12 := Lib.hid hm12
      clear hm12
      go_wp2_with fail
      go_at_call 67
      refine HI4.out.mono ?_
      rintro en w4 ⟨A4, c4, rfl, so4, hg4⟩
      have HB4 := Lib.hid (HBR.out.trans (Gr.below9 hg4 HSOR.out hsz))
      have HS4 := Lib.hid so4
      clear so4 hg4
      go_wp2_with fail
      go_roundw
      case rel => exact ⟨j + 1, A4, m12, c4, by omega, by go_num, rfl, Lib.hid (by rw [HM12.out, HN.out, HT.out, List.append_assoc]), HS4.out, HB4.out⟩
      case measure => simp [intOf]; omega
    · have hjl : j = ms.length := by omega
      have HLE : Hid (L = putV e p ms) := Lib.hid (by
        have := HN.out
        rw [hjl, List.take_length, HM10.out, HM9.out] at this
        simpa [putV] using this)
      clear hjl
      go_wp2_with fail
      go_ret
      exact ⟨B, L.length, c', rfl, by rw [HLE.out], by have h9 := HSOR.out.moreB HZ2.out; rw [← HLE.out]; exact h9, HW1.out.trans (HBR.out.mono HZ2.out)⟩

/-- A writer behind several calls. -/
structure Wz (w : World) (K b : Nat) (v : Value) (l : List UInt8) (w' : World) (v' : Value) : Prop where
  wr : Wr w' K b v' l
  tn : Tn (fun k => k = b ∨ v.ownBlock = some k) w w'
  own : OwnOr w v v'
theorem Wz.step {w w1 w2 : World} {K b : Nat} {v v1 v2 : Value} {l l2 : List UInt8} {e : Ending} (h : Wz w K b v l w1 v1) (s : Wst w1 K b v1 l2 e w2 v2) : Wz w K b v l2 w2 v2 :=
  ⟨s.wr, h.tn.thenQ s.tn fun k hk e => by
    rcases e with e | e
    · exact .inl e
    · rcases h.own with h1 | ⟨j, h1, hj⟩
      · exact .inr (by rw [← h1, e])
      · rw [h1] at e; injection e with e; omega,
   h.own.trans s.own h.tn.size⟩
theorem Wz.keep {w w1 : World} {K b : Nat} {v v1 : Value} {l : List UInt8} (h : Wz w K b v l w1 v1) {q j : Nat} {u : Value} (hq : w.cell? ⟨q, j, none⟩ = some u) (hb : q ≠ b) (hv : v.ownBlock ≠ some q) : w1.cell? ⟨q, j, none⟩ = some u :=
  h.tn.cell hq fun e => by rcases e with e | e; exact hb e; exact hv e
def VPutP (w : World) (K b : Nat) (v : Value) (l : List UInt8) (en : Ending) (w' : World) : Prop := en = .returned (.tuple #[]) ∧ ∃ v', Wz w K b v l w' v'
set_option maxRecDepth 100000 in
set_option maxHeartbeats 3200000 in
theorem vput_any (e p : Int) (he : -9223372036854775808 ≤ e ∧ e ≤ 9223372036854775807) (hp : -9223372036854775808 ≤ p ∧ p ≤ 9223372036854775807) (K0 : Nat) (A : Option Addr) (n cap : Nat) (ms : List Int) (w : World) (hn : ms.length = n) (hs : Sr encI 1 w K0 A cap ms) (hK0 : K0 ≤ w.heap.size)
    (hr : ∀ x ∈ ms, -9223372036854775808 ≤ x ∧ x ≤ 9223372036854775807) (hl : ms.length ≤ 1048576) (K b : Nat) (v : Value) (l : List UInt8) (h : Wr w K b v l) (hll : l.length ≤ 1048576)
    (hf : 0 < ms.length → ∀ ad : Addr, A = some ad → ad.block ≠ b ∧ v.ownBlock ≠ some ad.block) :
    Calls Try.prog 63 #[.pointer (some ⟨b, 0, none⟩), .agg #[.int .i64 e, .int .i64 p, .slice A n cap]] w (VPutP w K b v (l ++ putV e p ms)) := by
  subst hn
  have hle := hs.le
  have hmx := hs.max
  unfold maxLen at hmx
  have hbw := h.lt
  have hov : ∀ k, v.ownBlock = some k → k < w.heap.size := fun k e => (h.ob.lt k e).2
  obtain ⟨W1, hW1⟩ : ∃ W1, W1 = w.alloc (.cells #[.int .i64 e, .int .i64 p, .slice A ms.length cap] 43) := ⟨_, rfl⟩
  have HX0 : Hid (W1.cell? ⟨w.heap.size, 0, none⟩ = some (.int .i64 e)) := Lib.hid (by rw [hW1]; simp [go_sem])
  have HX1 : Hid (W1.cell? ⟨w.heap.size, 1, none⟩ = some (.int .i64 p)) := Lib.hid (by rw [hW1]; simp [go_sem])
  have HX2 : Hid (W1.cell? ⟨w.heap.size, 2, none⟩ = some (.slice A ms.length cap)) := Lib.hid (by rw [hW1]; simp [go_sem])
  have HSR : Hid (Sr encI 1 W1 K0 A cap ms) := Lib.hid (by rw [hW1]; exact hs.alloc hK0 _)
  have H0 : Hid (Wz W1 K b v l W1 v) := Lib.hid ⟨by rw [hW1]; exact h.alloc _, Tn.refl _ _, OwnOr.refl _ _⟩
  have HNB : Hid (w.heap.size ≠ b ∧ v.ownBlock ≠ some w.heap.size) := Lib.hid ⟨by omega, fun e => by have := hov _ e; omega⟩
  have HFin : Hid (∀ W v' L, Wz W1 K b v L W v' → Wz w K b v L W v') := Lib.hid fun W v' L z => ⟨z.wr, (by rw [hW1] at z; exact (Tn.alloc _ _).then z.tn), by
    have hz : w.heap.size ≤ W1.heap.size := by rw [hW1]; simp
    rcases z.own with h1 | ⟨j, h1, hj⟩
    · exact .inl h1
    · exact .inr ⟨j, h1, by omega⟩⟩
  have HSRW : Hid (∀ W v' L, Wz W1 K b v L W v' → Sr encI 1 W K0 A cap ms) := Lib.hid fun W v' L z => HSR.out.tn z.tn fun hl0 ad e h9 => by
    have := hf hl0 ad e
    rcases h9 with h9 | h9
    · exact this.1 h9
    · exact this.2 h9
  have HWQ := Lib.hid hW1
  have x0 := HX0.out
  clear hs hW1 h hov hf
  go_enter Try.func63, Try.ntmps63
  go_wp2_with fail
  rw [← HWQ.out]
  clear HWQ x0
  go_at_call 62
  refine (wint_any e he.1 he.2 K b v l _ H0.out.wr (by omega)).mono ?_
  rintro en w1 ⟨v1, s1⟩
  obtain rfl := s1.e
  have H1 := Lib.hid (H0.out.step s1)
  clear s1
  have x1 := H1.out.keep HX1.out HNB.out.1 HNB.out.2
  have hl1 : (l ++ numB (zz e)).length ≤ 1048585 := by rw [List.length_append, numB_length]; have := kN_le (zz e); omega
  generalize hm1 : l ++ numB (zz e) = m1 at *
  have HM1 := Lib.hid hm1
  clear hm1
  go_wp2_with fail
  go_at_call 62
  refine (wint_any p hp.1 hp.2 K b v1 m1 _ H1.out.wr (by omega)).mono ?_
  rintro en w2 ⟨v2, s2⟩
  obtain rfl := s2.e
  have H2 := Lib.hid (H1.out.step s2)
  clear s2 x1
  have x2 := H2.out.keep HX2.out HNB.out.1 HNB.out.2
  have hl2 : (m1 ++ numB (zz p)).length ≤ 1048594 := by rw [List.length_append, numB_length]; have := kN_le (zz p); omega
  generalize hm2 : m1 ++ numB (zz p) = m2 at *
  have HM2 := Lib.hid hm2
  clear hm2
  go_wp2_with fail
  go_at_call 112
  refine (wnum_any ms.length (by omega) K b v2 m2 _ H2.out.wr (by omega)).mono ?_
  rintro en w3 ⟨v3, s3⟩
  obtain rfl := s3.e
  have H3 := Lib.hid (H2.out.step s3)
  clear s3 x2
  have x3 := H3.out.keep HX2.out HNB.out.1 HNB.out.2
  have hl3 : (m2 ++ numB ms.length).length ≤ 1048603 := by rw [List.length_append, numB_length]; have := kN_le ms.length; omega
  generalize hm3 : m2 ++ numB ms.length = m3 at *
  have HM3 := Lib.hid hm3
  clear hm3
  go_wp2_with fail
  clear x3
  go_loopw [23] (fun iv wr => ∃ (j : Nat) (v' : Value), j ≤ ms.length ∧ iv = .int .i64 (j : Int) ∧ Wz W1 K b v (m3 ++ numsB (ms.take j)) wr v') (fun iv _ => ms.length - (intOf iv).toNat)
  case atStart => exact ⟨0, v3, Nat.zero_le _, rfl, by simpa [numsB] using H3.out⟩
  case round =>
    obtain ⟨j, v', hj, rfl, z⟩ := hrel
    rename World => W0
    have HZ0 := Lib.hid z
    clear z
    by_cases hlt : j < ms.length
    · obtain ⟨ad, rfl, _, hc⟩ := (HSRW.out _ _ _ HZ0.out).int hlt
      have hlI : (j : Int) < (ms.length : Int) := by omega
      have hj0 : (0 : Int) ≤ (j : Int) := by omega
      have HR := Lib.hid (hr ms[j] (List.getElem_mem hlt))
      have HT := Lib.hid (numsB_snoc ms j hlt)
      have hnl := numsB_len (ms.take j)
      have hnt : (ms.take j).length = j := by rw [List.length_take]; omega
      have HLN : Hid ((m3 ++ numsB (ms.take j)).length + 9 ≤ 140737488355328) := Lib.hid (by rw [List.length_append]; rw [hnt] at hnl; omega)
      clear hnl hnt
      generalize ms[j] = x at *
      generalize numsB (ms.take j) = pre at *
      go_wp2_with fail
      go_at_call 62
      refine (wint_any x HR.out.1 HR.out.2 K b v' _ _ HZ0.out.wr HLN.out).mono ?_
      rintro en w4 ⟨v4, s4⟩
      obtain rfl := s4.e
      have H4 := Lib.hid (HZ0.out.step s4)
      clear s4
      go_wp2_with fail
      go_roundw
      case rel => exact ⟨j + 1, v4, by omega, by go_num, by rw [HT.out, ← List.append_assoc]; exact H4.out⟩
      case measure => simp [intOf]; omega
    · have hjl : j = ms.length := by omega
      have HF : Hid (Wz w K b v (l ++ putV e p ms) W0 v') := Lib.hid (by
        have := HFin.out _ _ _ HZ0.out
        rw [hjl, List.take_length, ← HM3.out, ← HM2.out, ← HM1.out] at this
        simpa [putV] using this)
      clear hjl
      go_wp2_with fail
      go_end0
      exact ⟨rfl, v', HF.out⟩
end Go.Proofs.Ytpnhdocimjkakaa
