/- A chain's Get and Cut: their contracts. -/
import Derived.Test.YtbeclajbpfglgaaChP
namespace Go.Proofs.Ytbeclajbpfglgaa
open Go.RowKit Go.BigFrame
/-- What Get gives. -/
def GetP (w : World) (o : Option Ve) (e : Ending) (w' : World) : Prop := e = .returned (.tuple #[agV (o.getD nilV), .bool o.isSome]) ∧ Below w.heap.size w w'
/-- What Cut gives. -/
def CutP (w : World) (l : List Ve) (e : Ending) (w' : World) : Prop := ∃ A' c', e = .returned (.slice A' l.length c') ∧ Sr encV 6 w' w'.heap.size A' c' l ∧ Below w.heap.size w w' ∧ ∀ ad : Addr, A' = some ad → w.heap.size ≤ ad.block
section
variable {w : World} {A : Option Addr} {cap K : Nat} {l : List Ve} {a b c : Int}
set_option maxRecDepth 100000 in
set_option maxHeartbeats 3200000 in
theorem get_first (h : Sr encV 6 w K A cap l) (hK : K ≤ w.heap.size) (ho : ∀ u ∈ l, Vok u) (hs : Chn l) (hmx : l.length ≤ 900000) (hb : 0 ≤ b ∧ b ≤ 4294967295) (hc : 0 ≤ c ∧ c ≤ 4294967295) (hp : posV l a b c = 0) : Calls Try.prog 13 #[.slice A l.length cap, stv a b c] w (GetP w none) := by
  have HU := Lib.hid (fun w' (hb' : Below w.heap.size w w') => upto_any (h.below (hb'.mono hK)) (Nat.le_trans hK hb'.size) ho hs (by omega) hb hc (a := a))
  have hcl := h.le
  have hcm := h.max
  unfold maxLen at hcm
  rw [hp] at HU
  clear ho hs hb hc
  go_enter Try.func13, Try.ntmps13
  have HB0 := Lib.hid (((Below.refl w.heap.size w).alloc (Nat.le_refl _) (.cells #[.int .i64 a, .int .u32 b, .int .u32 c] 29)).alloc (by simp) (.cells #[.int .i64 0, .int .u32 0, .int .u32 0, .int .i64 0, .int .i64 0, .string ⟨#[]⟩] 31))
  have HU0 := Lib.hid (HU.out _ HB0.out)
  clear HU
  go_wp2_with fail
  refine HU0.out.mono ?_
  rintro e w1 ⟨rfl, b1⟩
  have HB1 := Lib.hid (HB0.out.trans (b1.mono HB0.out.size))
  have q0 : w1.cell? ⟨w.heap.size + 1, 0, none⟩ = some (.int .i64 0) := kept b1 (by simp)
  have f0 : w1.frozen? ⟨w.heap.size + 1, 0, none⟩ = false := (b1.frozen (p := ⟨w.heap.size + 1, 0, none⟩) (by simp)).trans (by simp [go_sem])
  have q1 : w1.cell? ⟨w.heap.size + 1, 1, none⟩ = some (.int .u32 0) := kept b1 (by simp)
  have f1 : w1.frozen? ⟨w.heap.size + 1, 1, none⟩ = false := (b1.frozen (p := ⟨w.heap.size + 1, 1, none⟩) (by simp)).trans (by simp [go_sem])
  have q2 : w1.cell? ⟨w.heap.size + 1, 2, none⟩ = some (.int .u32 0) := kept b1 (by simp)
  have f2 : w1.frozen? ⟨w.heap.size + 1, 2, none⟩ = false := (b1.frozen (p := ⟨w.heap.size + 1, 2, none⟩) (by simp)).trans (by simp [go_sem])
  have q3 : w1.cell? ⟨w.heap.size + 1, 3, none⟩ = some (.int .i64 0) := kept b1 (by simp)
  have f3 : w1.frozen? ⟨w.heap.size + 1, 3, none⟩ = false := (b1.frozen (p := ⟨w.heap.size + 1, 3, none⟩) (by simp)).trans (by simp [go_sem])
  have q4 : w1.cell? ⟨w.heap.size + 1, 4, none⟩ = some (.int .i64 0) := kept b1 (by simp)
  have f4 : w1.frozen? ⟨w.heap.size + 1, 4, none⟩ = false := (b1.frozen (p := ⟨w.heap.size + 1, 4, none⟩) (by simp)).trans (by simp [go_sem])
  have q5 : w1.cell? ⟨w.heap.size + 1, 5, none⟩ = some (.string ⟨#[]⟩) := kept b1 (by simp)
  have f5 : w1.frozen? ⟨w.heap.size + 1, 5, none⟩ = false := (b1.frozen (p := ⟨w.heap.size + 1, 5, none⟩) (by simp)).trans (by simp [go_sem])
  have hz1 : w.heap.size + 1 < w1.heap.size := Nat.lt_of_lt_of_le (by simp) b1.size
  clear b1 HU0
  go_wp2
  refine bodyPost_ret (v := .tuple #[agV nilV, .bool false]) (by simp [results, Try.results13, go_sem, nilV, q0, q1, q2, q3, q4, q5]) rfl ⟨rfl, ?_⟩
  go_grown
  exact HB1.out
set_option maxRecDepth 100000 in
set_option maxHeartbeats 3200000 in
theorem get_gone (h : Sr encV 6 w K A cap l) (hK : K ≤ w.heap.size) (ho : ∀ u ∈ l, Vok u) (hs : Chn l) (hmx : l.length ≤ 900000) (hb : 0 ≤ b ∧ b ≤ 4294967295) (hc : 0 ≤ c ∧ c ≤ 4294967295) {p : Nat} (hp : posV l a b c = p + 1) (hlt : p < l.length) (hk : l[p].k = 3) : Calls Try.prog 13 #[.slice A l.length cap, stv a b c] w (GetP w none) := by
  have HU := Lib.hid (fun w' (hb' : Below w.heap.size w w') => upto_any (h.below (hb'.mono hK)) (Nat.le_trans hK hb'.size) ho hs (by omega) hb hc (a := a))
  have hcl := h.le
  have hcm := h.max
  unfold maxLen at hcm
  rw [hp] at HU
  clear ho hs hb hc
  go_enter Try.func13, Try.ntmps13
  have HB0 := Lib.hid (((Below.refl w.heap.size w).alloc (Nat.le_refl _) (.cells #[.int .i64 a, .int .u32 b, .int .u32 c] 29)).alloc (by simp) (.cells #[.int .i64 0, .int .u32 0, .int .u32 0, .int .i64 0, .int .i64 0, .string ⟨#[]⟩] 31))
  have HU0 := Lib.hid (HU.out _ HB0.out)
  clear HU
  go_wp2_with fail
  refine HU0.out.mono ?_
  rintro e w1 ⟨rfl, b1⟩
  have HB1 := Lib.hid (HB0.out.trans (b1.mono HB0.out.size))
  have q0 : w1.cell? ⟨w.heap.size + 1, 0, none⟩ = some (.int .i64 0) := kept b1 (by simp)
  have f0 : w1.frozen? ⟨w.heap.size + 1, 0, none⟩ = false := (b1.frozen (p := ⟨w.heap.size + 1, 0, none⟩) (by simp)).trans (by simp [go_sem])
  have q1 : w1.cell? ⟨w.heap.size + 1, 1, none⟩ = some (.int .u32 0) := kept b1 (by simp)
  have f1 : w1.frozen? ⟨w.heap.size + 1, 1, none⟩ = false := (b1.frozen (p := ⟨w.heap.size + 1, 1, none⟩) (by simp)).trans (by simp [go_sem])
  have q2 : w1.cell? ⟨w.heap.size + 1, 2, none⟩ = some (.int .u32 0) := kept b1 (by simp)
  have f2 : w1.frozen? ⟨w.heap.size + 1, 2, none⟩ = false := (b1.frozen (p := ⟨w.heap.size + 1, 2, none⟩) (by simp)).trans (by simp [go_sem])
  have q3 : w1.cell? ⟨w.heap.size + 1, 3, none⟩ = some (.int .i64 0) := kept b1 (by simp)
  have f3 : w1.frozen? ⟨w.heap.size + 1, 3, none⟩ = false := (b1.frozen (p := ⟨w.heap.size + 1, 3, none⟩) (by simp)).trans (by simp [go_sem])
  have q4 : w1.cell? ⟨w.heap.size + 1, 4, none⟩ = some (.int .i64 0) := kept b1 (by simp)
  have f4 : w1.frozen? ⟨w.heap.size + 1, 4, none⟩ = false := (b1.frozen (p := ⟨w.heap.size + 1, 4, none⟩) (by simp)).trans (by simp [go_sem])
  have q5 : w1.cell? ⟨w.heap.size + 1, 5, none⟩ = some (.string ⟨#[]⟩) := kept b1 (by simp)
  have f5 : w1.frozen? ⟨w.heap.size + 1, 5, none⟩ = false := (b1.frozen (p := ⟨w.heap.size + 1, 5, none⟩) (by simp)).trans (by simp [go_sem])
  have hz1 : w.heap.size + 1 < w1.heap.size := Nat.lt_of_lt_of_le (by simp) b1.size
  clear b1 HU0
  obtain ⟨ad, hA, hbK, g0, g1⟩ := (h.below (HB1.out.mono hK)).get2 hlt
  subst hA
  generalize hu : l[p] = u at *
  have u3 := g1 3 (.int .i64 u.k) (by decide) rfl
  clear g0 g1
  have hpp : p ≤ 1000000 := by omega
  have hnx := nx p hpp
  have hk0 : ¬ ((p : Int) + 1 = 0) := by omega
  have hne : ((p : Int) + 1 == 0) = false := by simpa using hk0
  rw [hk] at u3
  clear hk hu hp h
  go_wp2
  refine bodyPost_ret (v := .tuple #[agV nilV, .bool false]) (by simp [results, Try.results13, go_sem, nilV, q0, q1, q2, q3, q4, q5]) rfl ⟨rfl, ?_⟩
  go_grown
  exact HB1.out
set_option maxRecDepth 100000 in
set_option maxHeartbeats 3200000 in
theorem get_some (h : Sr encV 6 w K A cap l) (hK : K ≤ w.heap.size) (ho : ∀ u ∈ l, Vok u) (hs : Chn l) (hmx : l.length ≤ 900000) (hb : 0 ≤ b ∧ b ≤ 4294967295) (hc : 0 ≤ c ∧ c ≤ 4294967295) {p : Nat} (hp : posV l a b c = p + 1) (hlt : p < l.length) (hk : l[p].k ≠ 3) : Calls Try.prog 13 #[.slice A l.length cap, stv a b c] w (GetP w (some l[p])) := by
  have HU := Lib.hid (fun w' (hb' : Below w.heap.size w w') => upto_any (h.below (hb'.mono hK)) (Nat.le_trans hK hb'.size) ho hs (by omega) hb hc (a := a))
  have hcl := h.le
  have hcm := h.max
  unfold maxLen at hcm
  rw [hp] at HU
  clear ho hs hb hc
  go_enter Try.func13, Try.ntmps13
  have HB0 := Lib.hid (((Below.refl w.heap.size w).alloc (Nat.le_refl _) (.cells #[.int .i64 a, .int .u32 b, .int .u32 c] 29)).alloc (by simp) (.cells #[.int .i64 0, .int .u32 0, .int .u32 0, .int .i64 0, .int .i64 0, .string ⟨#[]⟩] 31))
  have HU0 := Lib.hid (HU.out _ HB0.out)
  clear HU
  go_wp2_with fail
  refine HU0.out.mono ?_
  rintro e w1 ⟨rfl, b1⟩
  have HB1 := Lib.hid (HB0.out.trans (b1.mono HB0.out.size))
  have q0 : w1.cell? ⟨w.heap.size + 1, 0, none⟩ = some (.int .i64 0) := kept b1 (by simp)
  have f0 : w1.frozen? ⟨w.heap.size + 1, 0, none⟩ = false := (b1.frozen (p := ⟨w.heap.size + 1, 0, none⟩) (by simp)).trans (by simp [go_sem])
  have q1 : w1.cell? ⟨w.heap.size + 1, 1, none⟩ = some (.int .u32 0) := kept b1 (by simp)
  have f1 : w1.frozen? ⟨w.heap.size + 1, 1, none⟩ = false := (b1.frozen (p := ⟨w.heap.size + 1, 1, none⟩) (by simp)).trans (by simp [go_sem])
  have q2 : w1.cell? ⟨w.heap.size + 1, 2, none⟩ = some (.int .u32 0) := kept b1 (by simp)
  have f2 : w1.frozen? ⟨w.heap.size + 1, 2, none⟩ = false := (b1.frozen (p := ⟨w.heap.size + 1, 2, none⟩) (by simp)).trans (by simp [go_sem])
  have q3 : w1.cell? ⟨w.heap.size + 1, 3, none⟩ = some (.int .i64 0) := kept b1 (by simp)
  have f3 : w1.frozen? ⟨w.heap.size + 1, 3, none⟩ = false := (b1.frozen (p := ⟨w.heap.size + 1, 3, none⟩) (by simp)).trans (by simp [go_sem])
  have q4 : w1.cell? ⟨w.heap.size + 1, 4, none⟩ = some (.int .i64 0) := kept b1 (by simp)
  have f4 : w1.frozen? ⟨w.heap.size + 1, 4, none⟩ = false := (b1.frozen (p := ⟨w.heap.size + 1, 4, none⟩) (by simp)).trans (by simp [go_sem])
  have q5 : w1.cell? ⟨w.heap.size + 1, 5, none⟩ = some (.string ⟨#[]⟩) := kept b1 (by simp)
  have f5 : w1.frozen? ⟨w.heap.size + 1, 5, none⟩ = false := (b1.frozen (p := ⟨w.heap.size + 1, 5, none⟩) (by simp)).trans (by simp [go_sem])
  have hz1 : w.heap.size + 1 < w1.heap.size := Nat.lt_of_lt_of_le (by simp) b1.size
  clear b1 HU0
  obtain ⟨ad, hA, hbK, g0, g1⟩ := (h.below (HB1.out.mono hK)).get2 hlt
  subst hA
  generalize hu : l[p] = u at *
  have u0 := g0 _ rfl
  have u1 := g1 1 (.int .u32 u.t) (by decide) rfl
  have u2 := g1 2 (.int .u32 u.m) (by decide) rfl
  have u3 := g1 3 (.int .i64 u.k) (by decide) rfl
  have u4 := g1 4 (.int .i64 u.n) (by decide) rfl
  have u5 := g1 5 (.string u.x) (by decide) rfl
  clear g0 g1
  have hpp : p ≤ 1000000 := by omega
  have hnx := nx p hpp
  have hk0 : ¬ ((p : Int) + 1 = 0) := by omega
  have hne : ((p : Int) + 1 == 0) = false := by simpa using hk0
  have hkb : (u.k == 3) = false := by simpa using hk
  have HU2 := Lib.hid hu
  clear hk hu hp h
  go_wp2
  refine bodyPost_ret (v := .tuple #[agV u, .bool true]) (by simp [results, Try.results13, go_sem, q0, q1, q2, q3, q4, q5]) rfl ⟨by rw [HU2.out]; rfl, ?_⟩
  go_grown
  exact HB1.out
theorem get_any (h : Sr encV 6 w K A cap l) (hK : K ≤ w.heap.size) (ho : ∀ u ∈ l, Vok u) (hs : Chn l) (hmx : l.length ≤ 900000) (hb : 0 ≤ b ∧ b ≤ 4294967295) (hc : 0 ≤ c ∧ c ≤ 4294967295) : Calls Try.prog 13 #[.slice A l.length cap, stv a b c] w (GetP w (getV l a b c)) := by
  rcases hp : posV l a b c with _ | p
  · have e : getV l a b c = none := by unfold getV; rw [last_none hp]
    rw [e]
    exact get_first h hK ho hs hmx hb hc hp
  · have hlt : p < l.length := by have := pos_le l a b c; omega
    by_cases hk : l[p].k = 3
    · have e : getV l a b c = none := by unfold getV; rw [last_pos hp hlt]; simp [hk]
      rw [e]
      exact get_gone h hK ho hs hmx hb hc hp hlt hk
    · have e : getV l a b c = some l[p] := by unfold getV; rw [last_pos hp hlt]; simp [hk]
      rw [e]
      exact get_some h hK ho hs hmx hb hc hp hlt hk
theorem concat1 {W : World} {A : Option Addr} {cap K n : Nat} {l : List Ve} (h1 : Sr encV 6 W K A cap l) (hK : K ≤ W.heap.size) (hn : l.length = n) (hm : n ≤ 900000) :
    Calls Try.prog 31 #[.slice (some ⟨W.heap.size, 0, none⟩) 1 1] (W.alloc (.cells #[.slice A n cap] 35)) fun e w' =>
      ∃ A' c', e = .returned (.slice A' l.length c') ∧ Sr encV 6 w' w'.heap.size A' c' l ∧ Below W.heap.size W w' ∧ ∀ ad : Addr, A' = some ad → W.heap.size ≤ ad.block := by
  subst hn
  have b1 : Below W.heap.size W (W.alloc (.cells #[.slice A l.length cap] 35)) := (Below.refl _ _).alloc (Nat.le_refl _) _
  have S : Ss _ _ W.heap.size [l] := ⟨fun i hi => by
    match i, hi with
    | 0, _ => exact ⟨A, cap, by simp [go_sem], (h1.below (b1.mono hK)).more (Nat.le_trans hK b1.size)⟩⟩
  have e : [l].flatten = l := by simp
  refine (concat_any S (Nat.le_refl _) (by simp) (by simp) (by rw [e]; omega)).mono ?_
  rintro e w' ⟨A', c', rfl, so2, b2⟩
  rw [‹[l].flatten = l›] at so2
  exact ⟨A', c', by simp, (so2.sr encV_len).1, b1.trans (b2.mono b1.size), fun ad h => Nat.le_trans b1.size (so2.lt ad.block (by rw [h]; rfl)).1⟩
set_option maxRecDepth 100000 in
set_option maxHeartbeats 3200000 in
theorem cut_first (h : Sr encV 6 w K A cap l) (hK : K ≤ w.heap.size) (ho : ∀ u ∈ l, Vok u) (hs : Chn l) (hmx : l.length ≤ 900000) (hb : 0 ≤ b ∧ b ≤ 4294967295) (hc : 0 ≤ c ∧ c ≤ 4294967295) (hp : posV l a b c = 0) : Calls Try.prog 19 #[.slice A l.length cap, stv a b c] w (CutP w l) := by
  have HU := Lib.hid (fun w' (hb' : Below w.heap.size w w') => upto_any (h.below (hb'.mono hK)) (Nat.le_trans hK hb'.size) ho hs (by omega) hb hc (a := a))
  have hcl := h.le
  have hcm := h.max
  unfold maxLen at hcm
  rw [hp] at HU
  clear ho hs hb hc
  go_enter Try.func19, Try.ntmps19
  have HB0 := Lib.hid ((Below.refl w.heap.size w).alloc (Nat.le_refl _) (.cells #[.int .i64 a, .int .u32 b, .int .u32 c] 29))
  have HU0 := Lib.hid (HU.out _ HB0.out)
  clear HU
  go_wp2_with fail
  refine HU0.out.mono ?_
  rintro e w1 ⟨rfl, b1⟩
  have HB1 := Lib.hid (HB0.out.trans (b1.mono HB0.out.size))
  clear b1 HU0
  have HC := Lib.hid (concat1 (W := w1) (h.below (HB1.out.mono hK)) (Nat.le_trans hK HB1.out.size) (n := l.length) rfl (by omega))
  have S2 := fun w => cv_from A l.length cap 0 (Nat.zero_le _) w
  clear h
  go_wp2_with (go_at_call 31; refine HC.out.mono ?_; rintro e w3 ⟨A3, c3, rfl, s3, b3, n3⟩; have b4 := HB1.out.trans (b3.mono HB1.out.size))
  go_ret
  exact ⟨A3, c3, rfl, s3, b4, fun ad h => Nat.le_trans HB1.out.size (n3 ad h)⟩
set_option maxRecDepth 100000 in
set_option maxHeartbeats 3200000 in
theorem cut_gone (h : Sr encV 6 w K A cap l) (hK : K ≤ w.heap.size) (ho : ∀ u ∈ l, Vok u) (hs : Chn l) (hmx : l.length ≤ 900000) (hb : 0 ≤ b ∧ b ≤ 4294967295) (hc : 0 ≤ c ∧ c ≤ 4294967295) {p : Nat} (hp : posV l a b c = p + 1) (hlt : p < l.length) (hk : l[p].k = 3) {L : List Ve} (hL : L = l.drop (p + 1)) : Calls Try.prog 19 #[.slice A l.length cap, stv a b c] w (CutP w L) := by
  have HU := Lib.hid (fun w' (hb' : Below w.heap.size w w') => upto_any (h.below (hb'.mono hK)) (Nat.le_trans hK hb'.size) ho hs (by omega) hb hc (a := a))
  have hcl := h.le
  have hcm := h.max
  unfold maxLen at hcm
  rw [hp] at HU
  clear ho hs hb hc
  go_enter Try.func19, Try.ntmps19
  have HB0 := Lib.hid ((Below.refl w.heap.size w).alloc (Nat.le_refl _) (.cells #[.int .i64 a, .int .u32 b, .int .u32 c] 29))
  have HU0 := Lib.hid (HU.out _ HB0.out)
  clear HU
  go_wp2_with fail
  refine HU0.out.mono ?_
  rintro e w1 ⟨rfl, b1⟩
  have HB1 := Lib.hid (HB0.out.trans (b1.mono HB0.out.size))
  clear b1 HU0
  have hn : p + 1 ≤ l.length := hlt
  obtain ⟨ad, hA, hbK, g0, g1⟩ := (h.below (HB1.out.mono hK)).get2 hlt
  subst hA
  generalize hu : l[p] = u at *
  have u3 := g1 3 (.int .i64 u.k) (by decide) rfl
  clear g0 g1
  have hpp : p ≤ 1000000 := by omega
  have hnx := nx p hpp
  have hk0 : ¬ ((p : Int) + 1 = 0) := by omega
  have hne : ((p : Int) + 1 == 0) = false := by simpa using hk0
  rw [hk] at u3
  have hgt : decide ((0 : Int) < (p : Int) + 1) = true := by rw [decide_eq_true_eq]; omega
  clear hk hu hp
  have H1 := Lib.hid (h.below (HB1.out.mono hK))
  have HC := Lib.hid (concat1 (W := w1) (H1.out.from (j := (p + 1)) hn) (Nat.le_trans hK HB1.out.size) (n := l.length - (p + 1)) (by simp) (by omega))
  have HLL := Lib.hid hL
  rw [← hL] at HC
  have HS2 := Lib.hid (fun w => cv_from (some ad) l.length cap (p + 1) hn w)
  clear h hL
  obtain ⟨A2, hA2⟩ : ∃ A2, A2 = (if cap = (p + 1) then (some ad) else Option.map (·.add ((p + 1) * 6)) (some ad)) := ⟨_, rfl⟩
  rw [← hA2] at HC HS2
  clear hA2
  have S2 := HS2.out
  rw [show ((p + 1 : Nat) : Int) = (p : Int) + 1 from rfl] at S2
  go_wp2_with (go_at_call 31; refine HC.out.mono ?_; rintro e w3 ⟨A3, c3, rfl, s3, b3, n3⟩; have b4 := HB1.out.trans (b3.mono HB1.out.size))
  go_ret
  exact ⟨A3, c3, rfl, s3, b4, fun ad h => Nat.le_trans HB1.out.size (n3 ad h)⟩
set_option maxRecDepth 100000 in
set_option maxHeartbeats 3200000 in
theorem cut_keep (h : Sr encV 6 w K A cap l) (hK : K ≤ w.heap.size) (ho : ∀ u ∈ l, Vok u) (hs : Chn l) (hmx : l.length ≤ 900000) (hb : 0 ≤ b ∧ b ≤ 4294967295) (hc : 0 ≤ c ∧ c ≤ 4294967295) {p : Nat} (hp : posV l a b c = p + 1) (hlt : p < l.length) (hk : l[p].k ≠ 3) {L : List Ve} (hL : L = l.drop p) : Calls Try.prog 19 #[.slice A l.length cap, stv a b c] w (CutP w L) := by
  have HU := Lib.hid (fun w' (hb' : Below w.heap.size w w') => upto_any (h.below (hb'.mono hK)) (Nat.le_trans hK hb'.size) ho hs (by omega) hb hc (a := a))
  have hcl := h.le
  have hcm := h.max
  unfold maxLen at hcm
  rw [hp] at HU
  clear ho hs hb hc
  go_enter Try.func19, Try.ntmps19
  have HB0 := Lib.hid ((Below.refl w.heap.size w).alloc (Nat.le_refl _) (.cells #[.int .i64 a, .int .u32 b, .int .u32 c] 29))
  have HU0 := Lib.hid (HU.out _ HB0.out)
  clear HU
  go_wp2_with fail
  refine HU0.out.mono ?_
  rintro e w1 ⟨rfl, b1⟩
  have HB1 := Lib.hid (HB0.out.trans (b1.mono HB0.out.size))
  clear b1 HU0
  have hn : p ≤ l.length := Nat.le_of_lt hlt
  obtain ⟨ad, hA, hbK, g0, g1⟩ := (h.below (HB1.out.mono hK)).get2 hlt
  subst hA
  generalize hu : l[p] = u at *
  have u3 := g1 3 (.int .i64 u.k) (by decide) rfl
  clear g0 g1
  have hpp : p ≤ 1000000 := by omega
  have hnx := nx p hpp
  have hk0 : ¬ ((p : Int) + 1 = 0) := by omega
  have hne : ((p : Int) + 1 == 0) = false := by simpa using hk0
  have hkb : (u.k == 3) = false := by simpa using hk
  have hkb2 : (u.k != 3) = true := by simpa using hk
  have hgt : decide ((0 : Int) < (p : Int) + 1) = true := by rw [decide_eq_true_eq]; omega
  clear hk hu hp
  have H1 := Lib.hid (h.below (HB1.out.mono hK))
  have HC := Lib.hid (concat1 (W := w1) (H1.out.from (j := p) hn) (Nat.le_trans hK HB1.out.size) (n := l.length - p) (by simp) (by omega))
  have HLL := Lib.hid hL
  rw [← hL] at HC
  have HS2 := Lib.hid (fun w => cv_from (some ad) l.length cap p hn w)
  clear h hL
  obtain ⟨A2, hA2⟩ : ∃ A2, A2 = (if cap = p then (some ad) else Option.map (·.add (p * 6)) (some ad)) := ⟨_, rfl⟩
  rw [← hA2] at HC HS2
  clear hA2
  have S2 := HS2.out
  go_wp2_with (go_at_call 31; refine HC.out.mono ?_; rintro e w3 ⟨A3, c3, rfl, s3, b3, n3⟩; have b4 := HB1.out.trans (b3.mono HB1.out.size))
  go_ret
  exact ⟨A3, c3, rfl, s3, b4, fun ad h => Nat.le_trans HB1.out.size (n3 ad h)⟩
theorem cut_any (h : Sr encV 6 w K A cap l) (hK : K ≤ w.heap.size) (ho : ∀ u ∈ l, Vok u) (hs : Chn l) (hmx : l.length ≤ 900000) (hb : 0 ≤ b ∧ b ≤ 4294967295) (hc : 0 ≤ c ∧ c ≤ 4294967295) : Calls Try.prog 19 #[.slice A l.length cap, stv a b c] w (CutP w (l.drop (cutN l a b c))) := by
  rcases hp : posV l a b c with _ | p
  · have e : cutN l a b c = 0 := by unfold cutN; rw [last_none hp]
    rw [e]
    exact cut_first h hK ho hs hmx hb hc hp
  · have hlt : p < l.length := by have := pos_le l a b c; omega
    by_cases hk : l[p].k = 3
    · have e : cutN l a b c = p + 1 := by unfold cutN; rw [last_pos hp hlt]; simp [hk, hp]
      rw [e]
      exact cut_gone h hK ho hs hmx hb hc hp hlt hk rfl
    · have e : cutN l a b c = p := by unfold cutN; rw [last_pos hp hlt]; simp [hk, hp]
      rw [e]
      exact cut_keep h hK ho hs hmx hb hc hp hlt hk rfl
end
end Go.Proofs.Ytbeclajbpfglgaa
