/- A chain's Put: its contract. -/
import Derived.Test.YtbeclajbpfglgaaChC
import Derived.Test.YtbeclajbpfglgaaChM
import Derived.Test.YtbeclajbpfglgaaSlK
import Derived.BigQuiet
namespace Go.Proofs.Ytbeclajbpfglgaa
open Go.RowKit Go.BigFrame

theorem size_cv (w : World) : (sizeOf (Try.prog.elem 35)).run Try.prog w = .ok 6 w := by
  obtain ⟨i0, hi, hz0, hz1, hz2⟩ := info_parts info_cv
  show (sizeOf 31).run Try.prog w = .ok 6 w
  simp [sizeOf, typeInfo, hi, hz1]
theorem cv_from (A : Option Addr) (n cap j : Nat) (hj : j ≤ n) (w : World) :
    (Instr.slice 35 (.slice A n cap) (some (.int .i64 (j : Int))) none none).run Try.prog w = .ok (.slice (if cap = j then A else A.map (·.add (j * 6))) (n - j) (cap - j)) w := slice_fromK (by exact Try.underlying35) size_cv A n cap j hj w
theorem cv_to (A : Option Addr) (n cap j : Nat) (hj : j ≤ cap) (w : World) :
    (Instr.slice 35 (.slice A n cap) none (some (.int .i64 (j : Int))) none).run Try.prog w = .ok (.slice A j cap) w := slice_toK (by exact Try.underlying35) size_cv A n cap j hj w
theorem below_drewN (B : Nat) (w : World) (n : Nat) : Below B w (w.drewN n) := ⟨rfl, rfl, rfl, Nat.le_refl _, fun _ _ => rfl⟩

/-- What Put gives. -/
def PutP (w : World) (x : Int × List Ve) (e : Ending) (w' : World) : Prop :=
  ∃ A' c', e = .returned (.tuple #[.slice A' x.2.length c', .int .i64 x.1]) ∧ Sr encV 6 w' w'.heap.size A' c' x.2 ∧ Below w.heap.size w w' ∧ ∀ ad : Addr, A' = some ad → w.heap.size ≤ ad.block
theorem nx (p : Nat) (h : p ≤ 1000000) : IntKind.i64.wrap ((p : Int) + 1 - 1) = (p : Int) := by
  rw [IntKind.wrap_i64]; omega
theorem concat3 {W : World} {A A2 : Option Addr} {cap c2 K n q : Nat} {l m : List Ve} {v : Ve} (h1 : Sr encV 6 W K A cap l) (h2 : Sr encV 6 W K A2 c2 m) (hK : K ≤ W.heap.size) (hn : l.length = n) (hq : m.length = q) (hm : n + q ≤ 900000) (TB : TypeId) :
    Calls Try.prog 31 #[.slice (some ⟨W.heap.size + 1, 0, none⟩) 3 3] ((W.alloc (.cells #[.int .i64 v.w, .int .u32 v.t, .int .u32 v.m, .int .i64 v.k, .int .i64 v.n, .string v.x] TB)).alloc (.cells #[.slice A n cap, .slice (some ⟨W.heap.size, 0, none⟩) 1 1, .slice A2 q c2] 35)) fun e w' =>
      ∃ A' c', e = .returned (.slice A' (l ++ v :: m).length c') ∧ Sr encV 6 w' w'.heap.size A' c' (l ++ v :: m) ∧ Below W.heap.size W w' ∧ ∀ ad : Addr, A' = some ad → W.heap.size ≤ ad.block := by
  subst hn hq
  have b1 : Below W.heap.size W ((W.alloc (.cells #[.int .i64 v.w, .int .u32 v.t, .int .u32 v.m, .int .i64 v.k, .int .i64 v.n, .string v.x] TB)).alloc (.cells #[.slice A l.length cap, .slice (some ⟨W.heap.size, 0, none⟩) 1 1, .slice A2 m.length c2] 35)) := ((Below.refl _ _).alloc (Nat.le_refl _) _).alloc (by simp) _
  have so := ((lit_so (α := Ve) (enc := encV) (k := 6) W W.heap.size TB W.heap.size rfl (Nat.le_refl _) #[.int .i64 v.w, .int .u32 v.t, .int .u32 v.m, .int .i64 v.k, .int .i64 v.n, .string v.x] 1 [v] encV_len rfl rfl (by decide)).alloc (.cells #[.slice A l.length cap, .slice (some ⟨W.heap.size, 0, none⟩) 1 1, .slice A2 m.length c2] 35)).sr encV_len
  have S : Ss _ _ (W.heap.size + 1) [l, [v], m] := ⟨fun i hi => by
    match i, hi with
    | 0, _ => exact ⟨A, cap, by simp [go_sem], (h1.below (b1.mono hK)).more (Nat.le_trans hK b1.size)⟩
    | 1, _ => exact ⟨some ⟨W.heap.size, 0, none⟩, 1, by simp [go_sem], so.1⟩
    | 2, _ => exact ⟨A2, c2, by simp [go_sem], (h2.below (b1.mono hK)).more (Nat.le_trans hK b1.size)⟩⟩
  have e : [l, [v], m].flatten = l ++ v :: m := by simp
  refine (concat_any S (Nat.le_refl _) (by simp) (by simp) (by rw [e]; simp; omega)).mono ?_
  rintro e w' ⟨A', c', rfl, so2, b2⟩
  rw [‹[l, [v], m].flatten = l ++ v :: m›] at so2
  exact ⟨A', c', by simp, (so2.sr encV_len).1, b1.trans (b2.mono b1.size), fun ad h => Nat.le_trans b1.size (so2.lt ad.block (by rw [h]; rfl)).1⟩
section
variable {w : World} {A : Option Addr} {cap K : Nat} {l : List Ve} {v : Ve}
set_option maxRecDepth 100000 in
set_option maxHeartbeats 3200000 in
theorem put_bad (h : Sr encV 6 w K A cap l) (hK : K ≤ w.heap.size) (ho : ∀ u ∈ l, Vok u) (hs : Chn l) (hmx : l.length ≤ 900000) (hv : Vok v) (hr : rightV v = false) : Calls Try.prog 21 #[.slice A l.length cap, agV v] w (PutP w (1, [])) := by
  have HSr := Lib.hid h
  have HU := Lib.hid (fun w' (hb : Below w.heap.size w w') => upto_any (h.below (hb.mono hK)) (Nat.le_trans hK hb.size) ho hs (by omega) ⟨hv.t0, hv.t1⟩ ⟨hv.m0, hv.m1⟩ (a := v.w))
  have HR := Lib.hid (fun w => vright_any v w)
  have hcl := h.le
  have hcm := h.max
  unfold maxLen at hcm
  rw [hr] at HR
  clear ho hs hv
  go_enter Try.func21, Try.ntmps21
  have B0 := (Below.refl w.heap.size w).alloc (Nat.le_refl _) (.cells #[.int .i64 v.w, .int .u32 v.t, .int .u32 v.m, .int .i64 v.k, .int .i64 v.n, .string v.x] 31)
  have HU0 := Lib.hid (HU.out _ B0)
  have HB0 := Lib.hid B0
  clear B0
  go_wp2_with fail
  refine HU0.out.mono ?_
  rintro e w1 ⟨rfl, b1⟩
  have y0 : w1.cell? ⟨w.heap.size, 0, none⟩ = some (.int .i64 v.w) := kept b1 (by simp)
  have y1 : w1.cell? ⟨w.heap.size, 1, none⟩ = some (.int .u32 v.t) := kept b1 (by simp)
  have y2 : w1.cell? ⟨w.heap.size, 2, none⟩ = some (.int .u32 v.m) := kept b1 (by simp)
  have y3 : w1.cell? ⟨w.heap.size, 3, none⟩ = some (.int .i64 v.k) := kept b1 (by simp)
  have y4 : w1.cell? ⟨w.heap.size, 4, none⟩ = some (.int .i64 v.n) := kept b1 (by simp)
  have y5 : w1.cell? ⟨w.heap.size, 5, none⟩ = some (.string v.x) := kept b1 (by simp)
  have HB1 := Lib.hid (HB0.out.trans (b1.mono (by simp)))
  clear b1
  go_wp2_with fail
  refine (HR.out _).mono ?_
  rintro e w2 ⟨rfl, b2⟩
  have HB2 := Lib.hid (HB1.out.trans (b2.mono HB1.out.size))
  have z0 : w2.cell? ⟨w.heap.size, 0, none⟩ = some (.int .i64 v.w) := kept b2 y0
  have z1 : w2.cell? ⟨w.heap.size, 1, none⟩ = some (.int .u32 v.t) := kept b2 y1
  have z2 : w2.cell? ⟨w.heap.size, 2, none⟩ = some (.int .u32 v.m) := kept b2 y2
  have z3 : w2.cell? ⟨w.heap.size, 3, none⟩ = some (.int .i64 v.k) := kept b2 y3
  have z4 : w2.cell? ⟨w.heap.size, 4, none⟩ = some (.int .i64 v.n) := kept b2 y4
  have z5 : w2.cell? ⟨w.heap.size, 5, none⟩ = some (.string v.x) := kept b2 y5
  clear y0 y1 y2 y3 y4 y5 b2
  go_wp2
  exact bodyPost_ret (v := .tuple #[.slice none 0 0, .int .i64 1]) (by simp [results, Try.results21, go_sem]) rfl ⟨none, 0, rfl, Sr.none_ _ _, HB2.out, fun _ h => by cases h⟩
set_option maxRecDepth 100000 in
set_option maxHeartbeats 3200000 in
theorem put_dup (h : Sr encV 6 w K A cap l) (hK : K ≤ w.heap.size) (ho : ∀ u ∈ l, Vok u) (hs : Chn l) (hmx : l.length ≤ 900000) (hv : Vok v) (hr : rightV v = true) {p : Nat} (hp : posV l v.w v.t v.m = p + 1) (hlt : p < l.length) (hq : sameAt l[p] v = true) : Calls Try.prog 21 #[.slice A l.length cap, agV v] w (PutP w (7, [])) := by
  have HSr := Lib.hid h
  have HU := Lib.hid (fun w' (hb : Below w.heap.size w w') => upto_any (h.below (hb.mono hK)) (Nat.le_trans hK hb.size) ho hs (by omega) ⟨hv.t0, hv.t1⟩ ⟨hv.m0, hv.m1⟩ (a := v.w))
  have HR := Lib.hid (fun w => vright_any v w)
  have hcl := h.le
  have hcm := h.max
  unfold maxLen at hcm
  rw [hr] at HR
  rw [hp] at HU
  clear ho hs hv
  go_enter Try.func21, Try.ntmps21
  have B0 := (Below.refl w.heap.size w).alloc (Nat.le_refl _) (.cells #[.int .i64 v.w, .int .u32 v.t, .int .u32 v.m, .int .i64 v.k, .int .i64 v.n, .string v.x] 31)
  have HU0 := Lib.hid (HU.out _ B0)
  have HB0 := Lib.hid B0
  clear B0
  go_wp2_with fail
  refine HU0.out.mono ?_
  rintro e w1 ⟨rfl, b1⟩
  have y0 : w1.cell? ⟨w.heap.size, 0, none⟩ = some (.int .i64 v.w) := kept b1 (by simp)
  have y1 : w1.cell? ⟨w.heap.size, 1, none⟩ = some (.int .u32 v.t) := kept b1 (by simp)
  have y2 : w1.cell? ⟨w.heap.size, 2, none⟩ = some (.int .u32 v.m) := kept b1 (by simp)
  have y3 : w1.cell? ⟨w.heap.size, 3, none⟩ = some (.int .i64 v.k) := kept b1 (by simp)
  have y4 : w1.cell? ⟨w.heap.size, 4, none⟩ = some (.int .i64 v.n) := kept b1 (by simp)
  have y5 : w1.cell? ⟨w.heap.size, 5, none⟩ = some (.string v.x) := kept b1 (by simp)
  have HB1 := Lib.hid (HB0.out.trans (b1.mono (by simp)))
  clear b1
  go_wp2_with fail
  refine (HR.out _).mono ?_
  rintro e w2 ⟨rfl, b2⟩
  have HB2 := Lib.hid (HB1.out.trans (b2.mono HB1.out.size))
  have z0 : w2.cell? ⟨w.heap.size, 0, none⟩ = some (.int .i64 v.w) := kept b2 y0
  have z1 : w2.cell? ⟨w.heap.size, 1, none⟩ = some (.int .u32 v.t) := kept b2 y1
  have z2 : w2.cell? ⟨w.heap.size, 2, none⟩ = some (.int .u32 v.m) := kept b2 y2
  have z3 : w2.cell? ⟨w.heap.size, 3, none⟩ = some (.int .i64 v.k) := kept b2 y3
  have z4 : w2.cell? ⟨w.heap.size, 4, none⟩ = some (.int .i64 v.n) := kept b2 y4
  have z5 : w2.cell? ⟨w.heap.size, 5, none⟩ = some (.string v.x) := kept b2 y5
  clear y0 y1 y2 y3 y4 y5 b2
  obtain ⟨ad, hA, hbK, g0, g1⟩ := (h.below (HB2.out.mono hK)).get2 hlt
  subst hA
  generalize hu : l[p] = u at *
  have u0 := g0 _ rfl
  have u1 := g1 1 (.int .u32 u.t) (by decide) rfl
  have u2 := g1 2 (.int .u32 u.m) (by decide) rfl
  clear g0 g1 HU0
  have hpp : p ≤ 1000000 := by omega
  have hnx := nx p hpp
  have hgt : decide ((0 : Int) < (p : Int) + 1) = true := by rw [decide_eq_true_eq]; omega
  unfold sameAt at hq
  obtain ⟨q1, q2, q3⟩ := of_decide_eq_true hq
  rw [q1] at u0
  rw [q2] at u1
  rw [q3] at u2
  clear hq q1 q2 q3 hu hp
  go_wp2_with fail
  go_big_quiet (fail)
  go_wp2
  exact bodyPost_ret (v := .tuple #[.slice none 0 0, .int .i64 7]) (by simp [results, Try.results21, go_sem]) rfl ⟨none, 0, rfl, Sr.none_ _ _, HB2.out.trans (below_drewN _ _ _), fun _ h => by cases h⟩
set_option maxRecDepth 100000 in
set_option maxHeartbeats 3200000 in
theorem put_first (h : Sr encV 6 w K A cap l) (hK : K ≤ w.heap.size) (ho : ∀ u ∈ l, Vok u) (hs : Chn l) (hmx : l.length ≤ 900000) (hv : Vok v) (hr : rightV v = true) (hp : posV l v.w v.t v.m = 0) {L : List Ve} (hL : L = [] ++ v :: l) : Calls Try.prog 21 #[.slice A l.length cap, agV v] w (PutP w (0, L)) := by
  have HLL := Lib.hid hL
  clear hL
  have HSr := Lib.hid h
  have HU := Lib.hid (fun w' (hb : Below w.heap.size w w') => upto_any (h.below (hb.mono hK)) (Nat.le_trans hK hb.size) ho hs (by omega) ⟨hv.t0, hv.t1⟩ ⟨hv.m0, hv.m1⟩ (a := v.w))
  have HR := Lib.hid (fun w => vright_any v w)
  have hcl := h.le
  have hcm := h.max
  unfold maxLen at hcm
  rw [hr] at HR
  rw [hp] at HU
  clear ho hs hv
  go_enter Try.func21, Try.ntmps21
  have B0 := (Below.refl w.heap.size w).alloc (Nat.le_refl _) (.cells #[.int .i64 v.w, .int .u32 v.t, .int .u32 v.m, .int .i64 v.k, .int .i64 v.n, .string v.x] 31)
  have HU0 := Lib.hid (HU.out _ B0)
  have HB0 := Lib.hid B0
  clear B0
  go_wp2_with fail
  refine HU0.out.mono ?_
  rintro e w1 ⟨rfl, b1⟩
  have y0 : w1.cell? ⟨w.heap.size, 0, none⟩ = some (.int .i64 v.w) := kept b1 (by simp)
  have y1 : w1.cell? ⟨w.heap.size, 1, none⟩ = some (.int .u32 v.t) := kept b1 (by simp)
  have y2 : w1.cell? ⟨w.heap.size, 2, none⟩ = some (.int .u32 v.m) := kept b1 (by simp)
  have y3 : w1.cell? ⟨w.heap.size, 3, none⟩ = some (.int .i64 v.k) := kept b1 (by simp)
  have y4 : w1.cell? ⟨w.heap.size, 4, none⟩ = some (.int .i64 v.n) := kept b1 (by simp)
  have y5 : w1.cell? ⟨w.heap.size, 5, none⟩ = some (.string v.x) := kept b1 (by simp)
  have HB1 := Lib.hid (HB0.out.trans (b1.mono (by simp)))
  clear b1
  go_wp2_with fail
  refine (HR.out _).mono ?_
  rintro e w2 ⟨rfl, b2⟩
  have HB2 := Lib.hid (HB1.out.trans (b2.mono HB1.out.size))
  have z0 : w2.cell? ⟨w.heap.size, 0, none⟩ = some (.int .i64 v.w) := kept b2 y0
  have z1 : w2.cell? ⟨w.heap.size, 1, none⟩ = some (.int .u32 v.t) := kept b2 y1
  have z2 : w2.cell? ⟨w.heap.size, 2, none⟩ = some (.int .u32 v.m) := kept b2 y2
  have z3 : w2.cell? ⟨w.heap.size, 3, none⟩ = some (.int .i64 v.k) := kept b2 y3
  have z4 : w2.cell? ⟨w.heap.size, 4, none⟩ = some (.int .i64 v.n) := kept b2 y4
  have z5 : w2.cell? ⟨w.heap.size, 5, none⟩ = some (.string v.x) := kept b2 y5
  clear y0 y1 y2 y3 y4 y5 b2
  have hn : 0 ≤ l.length := Nat.zero_le _
  have hgt : decide ((0 : Int) < ((0 : Nat) : Int)) = false := by simp
  clear hp
  go_wp2_with fail
  go_big_quiet (fail)
  have H2 := Lib.hid (h.below (HB2.out.mono hK))
  have HC := Lib.hid (fun k => concat3 (W := w2.drewN k) (v := v) ((H2.out.to hn).drewN k) (H2.out.drewN k) (Nat.le_trans hK HB2.out.size) (n := 0) (by simp) (q := l.length) rfl (by omega) 31)
  simp only [List.take_zero] at HC
  clear h
  rw [← HLL.out] at HC
  have HS1 := Lib.hid (fun w => cv_to A l.length cap 0 (by omega) w)
  have HS2 := Lib.hid (fun w => cv_from A l.length cap 0 hn w)
  have S1 := HS1.out
  have S2 := HS2.out
  go_wp2_with fail
  go_region_law (first
    | (go_simp; go_at_call 31; refine (HC.out _).mono ?_; rintro e w3 ⟨A3, c3, rfl, s3, b3, n3⟩; have b4 := HB2.out.trans (((below_drewN _ w2 _).trans b3).mono HB2.out.size)))
  all_goals go_wp2
  all_goals exact bodyPost_ret (v := .tuple #[.slice A3 _ c3, .int .i64 0]) (by simp [results, Try.results21, go_sem]) rfl ⟨A3, c3, rfl, s3, b4, fun ad h => Nat.le_trans HB2.out.size (n3 ad h)⟩
set_option maxRecDepth 100000 in
set_option maxHeartbeats 3200000 in
theorem put_lasta (h : Sr encV 6 w K A cap l) (hK : K ≤ w.heap.size) (ho : ∀ u ∈ l, Vok u) (hs : Chn l) (hmx : l.length ≤ 900000) (hv : Vok v) (hr : rightV v = true) {p : Nat} (hp : posV l v.w v.t v.m = p + 1) (hlt : p < l.length) (h1 : l[p].w ≠ v.w) {L : List Ve} (hL : L = l.take (p + 1) ++ v :: l.drop (p + 1)) : Calls Try.prog 21 #[.slice A l.length cap, agV v] w (PutP w (0, L)) := by
  have HLL := Lib.hid hL
  clear hL
  have HSr := Lib.hid h
  have HU := Lib.hid (fun w' (hb : Below w.heap.size w w') => upto_any (h.below (hb.mono hK)) (Nat.le_trans hK hb.size) ho hs (by omega) ⟨hv.t0, hv.t1⟩ ⟨hv.m0, hv.m1⟩ (a := v.w))
  have HR := Lib.hid (fun w => vright_any v w)
  have hcl := h.le
  have hcm := h.max
  unfold maxLen at hcm
  rw [hr] at HR
  rw [hp] at HU
  clear ho hs hv
  go_enter Try.func21, Try.ntmps21
  have B0 := (Below.refl w.heap.size w).alloc (Nat.le_refl _) (.cells #[.int .i64 v.w, .int .u32 v.t, .int .u32 v.m, .int .i64 v.k, .int .i64 v.n, .string v.x] 31)
  have HU0 := Lib.hid (HU.out _ B0)
  have HB0 := Lib.hid B0
  clear B0
  go_wp2_with fail
  refine HU0.out.mono ?_
  rintro e w1 ⟨rfl, b1⟩
  have y0 : w1.cell? ⟨w.heap.size, 0, none⟩ = some (.int .i64 v.w) := kept b1 (by simp)
  have y1 : w1.cell? ⟨w.heap.size, 1, none⟩ = some (.int .u32 v.t) := kept b1 (by simp)
  have y2 : w1.cell? ⟨w.heap.size, 2, none⟩ = some (.int .u32 v.m) := kept b1 (by simp)
  have y3 : w1.cell? ⟨w.heap.size, 3, none⟩ = some (.int .i64 v.k) := kept b1 (by simp)
  have y4 : w1.cell? ⟨w.heap.size, 4, none⟩ = some (.int .i64 v.n) := kept b1 (by simp)
  have y5 : w1.cell? ⟨w.heap.size, 5, none⟩ = some (.string v.x) := kept b1 (by simp)
  have HB1 := Lib.hid (HB0.out.trans (b1.mono (by simp)))
  clear b1
  go_wp2_with fail
  refine (HR.out _).mono ?_
  rintro e w2 ⟨rfl, b2⟩
  have HB2 := Lib.hid (HB1.out.trans (b2.mono HB1.out.size))
  have z0 : w2.cell? ⟨w.heap.size, 0, none⟩ = some (.int .i64 v.w) := kept b2 y0
  have z1 : w2.cell? ⟨w.heap.size, 1, none⟩ = some (.int .u32 v.t) := kept b2 y1
  have z2 : w2.cell? ⟨w.heap.size, 2, none⟩ = some (.int .u32 v.m) := kept b2 y2
  have z3 : w2.cell? ⟨w.heap.size, 3, none⟩ = some (.int .i64 v.k) := kept b2 y3
  have z4 : w2.cell? ⟨w.heap.size, 4, none⟩ = some (.int .i64 v.n) := kept b2 y4
  have z5 : w2.cell? ⟨w.heap.size, 5, none⟩ = some (.string v.x) := kept b2 y5
  clear y0 y1 y2 y3 y4 y5 b2
  have hn : p + 1 ≤ l.length := hlt
  obtain ⟨ad, hA, hbK, g0, g1⟩ := (h.below (HB2.out.mono hK)).get2 hlt
  subst hA
  generalize hu : l[p] = u at *
  have u0 := g0 _ rfl
  have u1 := g1 1 (.int .u32 u.t) (by decide) rfl
  have u2 := g1 2 (.int .u32 u.m) (by decide) rfl
  clear g0 g1
  have e1 : (u.w == v.w) = false := by simpa using h1
  clear h1
  have hpp : p ≤ 1000000 := by omega
  have hnx := nx p hpp
  have hgt : decide ((0 : Int) < (p : Int) + 1) = true := by rw [decide_eq_true_eq]; omega
  have HH := Lib.hid h
  clear hp hu HU0 h
  go_wp2_with fail
  go_big_quiet (fail)
  have H2 := Lib.hid (HH.out.below (HB2.out.mono hK))
  have HC := Lib.hid (fun k => concat3 (W := w2.drewN k) (v := v) ((H2.out.to hn).drewN k) ((H2.out.from hn).drewN k) (Nat.le_trans hK HB2.out.size) (n := p + 1) (by simp; omega) (q := l.length - (p + 1)) (by simp) (by omega) 31)
  skip
  rw [← HLL.out] at HC
  have HS1 := Lib.hid (fun w => cv_to (some ad) l.length cap (p + 1) (by omega) w)
  have HS2 := Lib.hid (fun w => cv_from (some ad) l.length cap (p + 1) hn w)
  obtain ⟨A2, hA2⟩ : ∃ A2, A2 = (if cap = p + 1 then some ad else Option.map (·.add ((p + 1) * 6)) (some ad)) := ⟨_, rfl⟩
  rw [← hA2] at HC HS2
  clear hA2
  have S1 := HS1.out
  rw [show ((p + 1 : Nat) : Int) = (p : Int) + 1 from rfl] at S1
  have S2 := HS2.out
  rw [show ((p + 1 : Nat) : Int) = (p : Int) + 1 from rfl] at S2
  go_wp2_with fail
  go_region_law (first
    | (go_simp; go_at_call 31; refine (HC.out _).mono ?_; rintro e w3 ⟨A3, c3, rfl, s3, b3, n3⟩; have b4 := HB2.out.trans (((below_drewN _ w2 _).trans b3).mono HB2.out.size)))
  all_goals go_wp2
  all_goals exact bodyPost_ret (v := .tuple #[.slice A3 _ c3, .int .i64 0]) (by simp [results, Try.results21, go_sem]) rfl ⟨A3, c3, rfl, s3, b4, fun ad h => Nat.le_trans HB2.out.size (n3 ad h)⟩
set_option maxRecDepth 100000 in
set_option maxHeartbeats 3200000 in
theorem put_lastb (h : Sr encV 6 w K A cap l) (hK : K ≤ w.heap.size) (ho : ∀ u ∈ l, Vok u) (hs : Chn l) (hmx : l.length ≤ 900000) (hv : Vok v) (hr : rightV v = true) {p : Nat} (hp : posV l v.w v.t v.m = p + 1) (hlt : p < l.length) (h1 : l[p].w = v.w) (h2 : l[p].t ≠ v.t) {L : List Ve} (hL : L = l.take (p + 1) ++ v :: l.drop (p + 1)) : Calls Try.prog 21 #[.slice A l.length cap, agV v] w (PutP w (0, L)) := by
  have HLL := Lib.hid hL
  clear hL
  have HSr := Lib.hid h
  have HU := Lib.hid (fun w' (hb : Below w.heap.size w w') => upto_any (h.below (hb.mono hK)) (Nat.le_trans hK hb.size) ho hs (by omega) ⟨hv.t0, hv.t1⟩ ⟨hv.m0, hv.m1⟩ (a := v.w))
  have HR := Lib.hid (fun w => vright_any v w)
  have hcl := h.le
  have hcm := h.max
  unfold maxLen at hcm
  rw [hr] at HR
  rw [hp] at HU
  clear ho hs hv
  go_enter Try.func21, Try.ntmps21
  have B0 := (Below.refl w.heap.size w).alloc (Nat.le_refl _) (.cells #[.int .i64 v.w, .int .u32 v.t, .int .u32 v.m, .int .i64 v.k, .int .i64 v.n, .string v.x] 31)
  have HU0 := Lib.hid (HU.out _ B0)
  have HB0 := Lib.hid B0
  clear B0
  go_wp2_with fail
  refine HU0.out.mono ?_
  rintro e w1 ⟨rfl, b1⟩
  have y0 : w1.cell? ⟨w.heap.size, 0, none⟩ = some (.int .i64 v.w) := kept b1 (by simp)
  have y1 : w1.cell? ⟨w.heap.size, 1, none⟩ = some (.int .u32 v.t) := kept b1 (by simp)
  have y2 : w1.cell? ⟨w.heap.size, 2, none⟩ = some (.int .u32 v.m) := kept b1 (by simp)
  have y3 : w1.cell? ⟨w.heap.size, 3, none⟩ = some (.int .i64 v.k) := kept b1 (by simp)
  have y4 : w1.cell? ⟨w.heap.size, 4, none⟩ = some (.int .i64 v.n) := kept b1 (by simp)
  have y5 : w1.cell? ⟨w.heap.size, 5, none⟩ = some (.string v.x) := kept b1 (by simp)
  have HB1 := Lib.hid (HB0.out.trans (b1.mono (by simp)))
  clear b1
  go_wp2_with fail
  refine (HR.out _).mono ?_
  rintro e w2 ⟨rfl, b2⟩
  have HB2 := Lib.hid (HB1.out.trans (b2.mono HB1.out.size))
  have z0 : w2.cell? ⟨w.heap.size, 0, none⟩ = some (.int .i64 v.w) := kept b2 y0
  have z1 : w2.cell? ⟨w.heap.size, 1, none⟩ = some (.int .u32 v.t) := kept b2 y1
  have z2 : w2.cell? ⟨w.heap.size, 2, none⟩ = some (.int .u32 v.m) := kept b2 y2
  have z3 : w2.cell? ⟨w.heap.size, 3, none⟩ = some (.int .i64 v.k) := kept b2 y3
  have z4 : w2.cell? ⟨w.heap.size, 4, none⟩ = some (.int .i64 v.n) := kept b2 y4
  have z5 : w2.cell? ⟨w.heap.size, 5, none⟩ = some (.string v.x) := kept b2 y5
  clear y0 y1 y2 y3 y4 y5 b2
  have hn : p + 1 ≤ l.length := hlt
  obtain ⟨ad, hA, hbK, g0, g1⟩ := (h.below (HB2.out.mono hK)).get2 hlt
  subst hA
  generalize hu : l[p] = u at *
  have u0 := g0 _ rfl
  have u1 := g1 1 (.int .u32 u.t) (by decide) rfl
  have u2 := g1 2 (.int .u32 u.m) (by decide) rfl
  clear g0 g1
  have e1 : (u.t == v.t) = false := by simpa using h2
  rw [h1] at u0
  clear h1 h2
  have hpp : p ≤ 1000000 := by omega
  have hnx := nx p hpp
  have hgt : decide ((0 : Int) < (p : Int) + 1) = true := by rw [decide_eq_true_eq]; omega
  have HH := Lib.hid h
  clear hp hu HU0 h
  go_wp2_with fail
  go_big_quiet (fail)
  have H2 := Lib.hid (HH.out.below (HB2.out.mono hK))
  have HC := Lib.hid (fun k => concat3 (W := w2.drewN k) (v := v) ((H2.out.to hn).drewN k) ((H2.out.from hn).drewN k) (Nat.le_trans hK HB2.out.size) (n := p + 1) (by simp; omega) (q := l.length - (p + 1)) (by simp) (by omega) 31)
  skip
  rw [← HLL.out] at HC
  have HS1 := Lib.hid (fun w => cv_to (some ad) l.length cap (p + 1) (by omega) w)
  have HS2 := Lib.hid (fun w => cv_from (some ad) l.length cap (p + 1) hn w)
  obtain ⟨A2, hA2⟩ : ∃ A2, A2 = (if cap = p + 1 then some ad else Option.map (·.add ((p + 1) * 6)) (some ad)) := ⟨_, rfl⟩
  rw [← hA2] at HC HS2
  clear hA2
  have S1 := HS1.out
  rw [show ((p + 1 : Nat) : Int) = (p : Int) + 1 from rfl] at S1
  have S2 := HS2.out
  rw [show ((p + 1 : Nat) : Int) = (p : Int) + 1 from rfl] at S2
  go_wp2_with fail
  go_region_law (first
    | (go_simp; go_at_call 31; refine (HC.out _).mono ?_; rintro e w3 ⟨A3, c3, rfl, s3, b3, n3⟩; have b4 := HB2.out.trans (((below_drewN _ w2 _).trans b3).mono HB2.out.size)))
  all_goals go_wp2
  all_goals exact bodyPost_ret (v := .tuple #[.slice A3 _ c3, .int .i64 0]) (by simp [results, Try.results21, go_sem]) rfl ⟨A3, c3, rfl, s3, b4, fun ad h => Nat.le_trans HB2.out.size (n3 ad h)⟩
set_option maxRecDepth 100000 in
set_option maxHeartbeats 3200000 in
theorem put_lastc (h : Sr encV 6 w K A cap l) (hK : K ≤ w.heap.size) (ho : ∀ u ∈ l, Vok u) (hs : Chn l) (hmx : l.length ≤ 900000) (hv : Vok v) (hr : rightV v = true) {p : Nat} (hp : posV l v.w v.t v.m = p + 1) (hlt : p < l.length) (h1 : l[p].w = v.w) (h2 : l[p].t = v.t) (h3 : l[p].m ≠ v.m) {L : List Ve} (hL : L = l.take (p + 1) ++ v :: l.drop (p + 1)) : Calls Try.prog 21 #[.slice A l.length cap, agV v] w (PutP w (0, L)) := by
  have HLL := Lib.hid hL
  clear hL
  have HSr := Lib.hid h
  have HU := Lib.hid (fun w' (hb : Below w.heap.size w w') => upto_any (h.below (hb.mono hK)) (Nat.le_trans hK hb.size) ho hs (by omega) ⟨hv.t0, hv.t1⟩ ⟨hv.m0, hv.m1⟩ (a := v.w))
  have HR := Lib.hid (fun w => vright_any v w)
  have hcl := h.le
  have hcm := h.max
  unfold maxLen at hcm
  rw [hr] at HR
  rw [hp] at HU
  clear ho hs hv
  go_enter Try.func21, Try.ntmps21
  have B0 := (Below.refl w.heap.size w).alloc (Nat.le_refl _) (.cells #[.int .i64 v.w, .int .u32 v.t, .int .u32 v.m, .int .i64 v.k, .int .i64 v.n, .string v.x] 31)
  have HU0 := Lib.hid (HU.out _ B0)
  have HB0 := Lib.hid B0
  clear B0
  go_wp2_with fail
  refine HU0.out.mono ?_
  rintro e w1 ⟨rfl, b1⟩
  have y0 : w1.cell? ⟨w.heap.size, 0, none⟩ = some (.int .i64 v.w) := kept b1 (by simp)
  have y1 : w1.cell? ⟨w.heap.size, 1, none⟩ = some (.int .u32 v.t) := kept b1 (by simp)
  have y2 : w1.cell? ⟨w.heap.size, 2, none⟩ = some (.int .u32 v.m) := kept b1 (by simp)
  have y3 : w1.cell? ⟨w.heap.size, 3, none⟩ = some (.int .i64 v.k) := kept b1 (by simp)
  have y4 : w1.cell? ⟨w.heap.size, 4, none⟩ = some (.int .i64 v.n) := kept b1 (by simp)
  have y5 : w1.cell? ⟨w.heap.size, 5, none⟩ = some (.string v.x) := kept b1 (by simp)
  have HB1 := Lib.hid (HB0.out.trans (b1.mono (by simp)))
  clear b1
  go_wp2_with fail
  refine (HR.out _).mono ?_
  rintro e w2 ⟨rfl, b2⟩
  have HB2 := Lib.hid (HB1.out.trans (b2.mono HB1.out.size))
  have z0 : w2.cell? ⟨w.heap.size, 0, none⟩ = some (.int .i64 v.w) := kept b2 y0
  have z1 : w2.cell? ⟨w.heap.size, 1, none⟩ = some (.int .u32 v.t) := kept b2 y1
  have z2 : w2.cell? ⟨w.heap.size, 2, none⟩ = some (.int .u32 v.m) := kept b2 y2
  have z3 : w2.cell? ⟨w.heap.size, 3, none⟩ = some (.int .i64 v.k) := kept b2 y3
  have z4 : w2.cell? ⟨w.heap.size, 4, none⟩ = some (.int .i64 v.n) := kept b2 y4
  have z5 : w2.cell? ⟨w.heap.size, 5, none⟩ = some (.string v.x) := kept b2 y5
  clear y0 y1 y2 y3 y4 y5 b2
  have hn : p + 1 ≤ l.length := hlt
  obtain ⟨ad, hA, hbK, g0, g1⟩ := (h.below (HB2.out.mono hK)).get2 hlt
  subst hA
  generalize hu : l[p] = u at *
  have u0 := g0 _ rfl
  have u1 := g1 1 (.int .u32 u.t) (by decide) rfl
  have u2 := g1 2 (.int .u32 u.m) (by decide) rfl
  clear g0 g1
  have e1 : (u.m == v.m) = false := by simpa using h3
  rw [h1] at u0
  rw [h2] at u1
  clear h1 h2 h3
  have hpp : p ≤ 1000000 := by omega
  have hnx := nx p hpp
  have hgt : decide ((0 : Int) < (p : Int) + 1) = true := by rw [decide_eq_true_eq]; omega
  have HH := Lib.hid h
  clear hp hu HU0 h
  go_wp2_with fail
  go_big_quiet (fail)
  have H2 := Lib.hid (HH.out.below (HB2.out.mono hK))
  have HC := Lib.hid (fun k => concat3 (W := w2.drewN k) (v := v) ((H2.out.to hn).drewN k) ((H2.out.from hn).drewN k) (Nat.le_trans hK HB2.out.size) (n := p + 1) (by simp; omega) (q := l.length - (p + 1)) (by simp) (by omega) 31)
  skip
  rw [← HLL.out] at HC
  have HS1 := Lib.hid (fun w => cv_to (some ad) l.length cap (p + 1) (by omega) w)
  have HS2 := Lib.hid (fun w => cv_from (some ad) l.length cap (p + 1) hn w)
  obtain ⟨A2, hA2⟩ : ∃ A2, A2 = (if cap = p + 1 then some ad else Option.map (·.add ((p + 1) * 6)) (some ad)) := ⟨_, rfl⟩
  rw [← hA2] at HC HS2
  clear hA2
  have S1 := HS1.out
  rw [show ((p + 1 : Nat) : Int) = (p : Int) + 1 from rfl] at S1
  have S2 := HS2.out
  rw [show ((p + 1 : Nat) : Int) = (p : Int) + 1 from rfl] at S2
  go_wp2_with fail
  go_region_law (first
    | (go_simp; go_at_call 31; refine (HC.out _).mono ?_; rintro e w3 ⟨A3, c3, rfl, s3, b3, n3⟩; have b4 := HB2.out.trans (((below_drewN _ w2 _).trans b3).mono HB2.out.size)))
  all_goals go_wp2
  all_goals exact bodyPost_ret (v := .tuple #[.slice A3 _ c3, .int .i64 0]) (by simp [results, Try.results21, go_sem]) rfl ⟨A3, c3, rfl, s3, b4, fun ad h => Nat.le_trans HB2.out.size (n3 ad h)⟩
theorem put_any (h : Sr encV 6 w K A cap l) (hK : K ≤ w.heap.size) (ho : ∀ u ∈ l, Vok u) (hs : Chn l) (hmx : l.length ≤ 900000) (hv : Vok v) : Calls Try.prog 21 #[.slice A l.length cap, agV v] w (PutP w (putV l v)) := by
  cases hr : rightV v with
  | false =>
    have e : putV l v = (1, []) := by unfold putV; rw [if_pos hr]
    rw [e]
    exact put_bad h hK ho hs hmx hv hr
  | true =>
    rcases hp : posV l v.w v.t v.m with _ | p
    · have e : putV l v = (0, [] ++ v :: l) := by
        unfold putV
        rw [if_neg (by simp [hr]), if_neg (by simp [any_none hs hp]), hp]
        rfl
      rw [e]
      exact put_first h hK ho hs hmx hv hr hp rfl
    · have hlt : p < l.length := by have := pos_le l v.w v.t v.m; omega
      have ha := any_last hs hp hlt
      cases hq : sameAt l[p] v with
      | true =>
        have e : putV l v = (7, []) := by
          unfold putV
          rw [if_neg (by simp [hr]), if_pos (by rw [ha, hq])]
        rw [e]
        exact put_dup h hK ho hs hmx hv hr hp hlt hq
      | false =>
        have e : putV l v = (0, l.take (p + 1) ++ v :: l.drop (p + 1)) := by
          unfold putV
          rw [if_neg (by simp [hr]), if_neg (by rw [ha, hq]; simp), hp]
        rw [e]
        unfold sameAt at hq
        have hq := of_decide_eq_false hq
        by_cases h1 : l[p].w = v.w
        · by_cases h2 : l[p].t = v.t
          · exact put_lastc h hK ho hs hmx hv hr hp hlt h1 h2 (fun h3 => hq ⟨h1, h2, h3⟩) rfl
          · exact put_lastb h hK ho hs hmx hv hr hp hlt h1 h2 rfl
        · exact put_lasta h hK ho hs hmx hv hr hp hlt h1 rfl
end
end Go.Proofs.Ytbeclajbpfglgaa
