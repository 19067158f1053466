/- The document's Last, Get, Cut. -/
import Derived.Test.YtbeclajbpfglgaaChQ
namespace Go.Proofs.Ytbeclajbpfglgaa
open Go.RowKit Go.BigFrame

theorem gt_at {l : List Ve} {a b c : Int} (hs : Chn l) {i : Nat} (hi : i < l.length) : gtB l[i] a b c = decide (posV l a b c ≤ i) := by
  obtain ⟨k1, k2⟩ := chn_split (a := a) (b := b) (c := c) hs
  by_cases h : posV l a b c ≤ i
  · rw [decide_eq_true h]
    exact k2 _ (List.mem_iff_getElem.2 ⟨i - posV l a b c, by simp; omega, by simp; congr 1; omega⟩)
  · rw [decide_eq_false h]
    exact k1 _ (List.mem_iff_getElem.2 ⟨i, by simp; omega, by simp⟩)
section
variable {w : World} {A : Option Addr} {cap K : Nat} {l : List Ve} {a b c : Int}
set_option maxRecDepth 100000 in
set_option maxHeartbeats 6400000 in
theorem last_any (h : Sr encV 6 w K A cap l) (hK : K ≤ w.heap.size) (hs : Chn l) :
    Calls Try.prog 29 #[.slice A l.length cap, stv a b c] w fun e w' => e = .returned (.int .i64 ((posV l a b c : Nat) - 1)) ∧ Below w.heap.size w w' := by
  have hcl := h.le
  have hcm := h.max
  unfold maxLen at hcm
  have hple := pos_le l a b c
  have HSr := Lib.hid h
  have HGT := Lib.hid (fun (i : Nat) (hi : i < l.length) => gt_at (a := a) (b := b) (c := c) hs hi)
  clear h hs
  go_enter Try.func29, Try.ntmps29
  obtain ⟨p, hp⟩ : ∃ p, p = posV l a b c := ⟨_, rfl⟩
  rw [← hp] at HGT hple ⊢
  clear hp
  have HB0 := Lib.hid ((Below.refl w.heap.size w).alloc (Nat.le_refl _) (.cells #[.int .i64 a, .int .u32 b, .int .u32 c] 24))
  obtain ⟨W, hW⟩ : ∃ W, W = w.alloc (.cells #[.int .i64 a, .int .u32 b, .int .u32 c] 24) := ⟨_, rfl⟩
  rw [← hW] at HB0
  have y0 : W.cell? ⟨w.heap.size, 0, none⟩ = some (.int .i64 a) := by rw [hW]; simp
  have y1 : W.cell? ⟨w.heap.size, 1, none⟩ = some (.int .u32 b) := by rw [hW]; simp
  have y2 : W.cell? ⟨w.heap.size, 2, none⟩ = some (.int .u32 c) := by rw [hW]; simp
  have hwz : W.heap.size = w.heap.size + 1 := by rw [hW]; simp
  go_wp2_with fail
  rw [← hW]
  clear hW
  go_loopw [5, 6] (fun av iv wr => ∃ (i : Nat) (q : Int), iv = .int .i64 (i : Int) ∧ av = .int .i64 q ∧ q = ((min i p : Nat) : Int) - 1 ∧ i ≤ l.length ∧ Below (w.heap.size + 1) W wr) (fun _ iv _ => l.length - (intOf iv).toNat)
  case atStart => exact ⟨0, -1, rfl, rfl, by simp, Nat.zero_le _, Below.refl _ _⟩
  case round =>
    obtain ⟨i, q, rfl, rfl, hq, hi, hbl⟩ := hrel
    have HQ := Lib.hid hq
    clear hq
    rename World => W0
    have HBL := Lib.hid hbl
    have z0 := (hbl.cell (p := ⟨w.heap.size, 0, none⟩) (by simp)).trans y0
    have z1 := (hbl.cell (p := ⟨w.heap.size, 1, none⟩) (by simp)).trans y1
    have z2 := (hbl.cell (p := ⟨w.heap.size, 2, none⟩) (by simp)).trans y2
    have hz : w.heap.size + 1 ≤ W0.heap.size := by have := hbl.size; omega
    clear hbl
    by_cases hlt : i < l.length
    · have hg := HGT.out i hlt
      obtain ⟨ad, hA, _, g0, g1⟩ := (HSr.out.below ((HB0.out.trans (HBL.out.mono (by omega))).mono hK)).get2 hlt
      subst hA
      have u0 := g0 _ rfl
      have u1 := g1 1 (.int .u32 l[i].t) (by decide) rfl
      have u2 := g1 2 (.int .u32 l[i].m) (by decide) rfl
      generalize l[i] = x at *
      clear g0 g1
      have HBE := Lib.hid (fun w => rbelow_any a b c x.w x.t x.m w)
      rw [below_gt, hg] at HBE
      clear hg
      by_cases hip : p ≤ i
      · rw [decide_eq_true hip] at HBE
        go_wp2_with fail
        go_upto_region 5 with fail
        go_cut [20] (fun u wx => u = .bool false ∧ Below W0.heap.size W0 wx)
        case first =>
          go_wp2_with fail
          go_region_law (first
            | (go_simp; go_at_call 23; refine (HBE.out _).mono ?_; rintro e w3 ⟨rfl, b3⟩))
          all_goals
            go_wp2_with fail
            go_meet
            exact ⟨rfl, ((below_drewN _ _ _).trans b3)⟩
        case rest =>
          obtain ⟨rfl, b3⟩ := hcut
          rename World => w3
          have hzz : w.heap.size + 1 ≤ w3.heap.size := Nat.le_trans hz b3.size
          have HX := Lib.hid (HBL.out.trans (b3.mono hz))
          clear b3
          go_wp2
          go_roundw
          case rel => exact ⟨i + 1, q, by go_num, rfl, by rw [HQ.out]; omega, by omega, HX.out⟩
          case measure => simp [intOf]; omega
      · rw [decide_eq_false hip] at HBE
        go_wp2_with fail
        go_upto_region 5 with fail
        go_cut [20] (fun u wx => u = .bool true ∧ Below W0.heap.size W0 wx)
        case first =>
          go_wp2_with fail
          go_region_law (first
            | (go_simp; go_at_call 23; refine (HBE.out _).mono ?_; rintro e w3 ⟨rfl, b3⟩))
          all_goals
            go_wp2_with fail
            go_meet
            exact ⟨rfl, ((below_drewN _ _ _).trans b3)⟩
        case rest =>
          obtain ⟨rfl, b3⟩ := hcut
          rename World => w3
          have hzz : w.heap.size + 1 ≤ w3.heap.size := Nat.le_trans hz b3.size
          have HX := Lib.hid (HBL.out.trans (b3.mono hz))
          clear b3
          go_wp2
          go_roundw
          case rel => exact ⟨i + 1, (i : Int), by go_num, rfl, by omega, by omega, HX.out⟩
          case measure => simp [intOf]; omega
    · obtain rfl : i = l.length := by omega
      have hm : min l.length p = p := by omega
      go_wp2
      go_ret
      exact ⟨ret_int (by rw [HQ.out, hm]), HB0.out.trans (HBL.out.mono (by omega))⟩
set_option maxRecDepth 100000 in
set_option maxHeartbeats 6400000 in
theorem rget_first (h : Sr encV 6 w K A cap l) (hK : K ≤ w.heap.size) (hs : Chn l) (hp : posV l a b c = 0) : Calls Try.prog 15 #[.slice A l.length cap, stv a b c] w (GetP w none) := by
  have HU : Hid (∀ w', Below w.heap.size w w' → Calls Try.prog 29 #[.slice A l.length cap, stv a b c] w' fun e w'' => e = .returned (.int .i64 (-1)) ∧ Below w'.heap.size w' w'') := Lib.hid (fun w' hb' => (last_any (h.below (hb'.mono hK)) (Nat.le_trans hK hb'.size) hs).mono (by rintro e w'' ⟨rfl, hb⟩; rw [hp]; exact ⟨ret_int (by omega), hb⟩))
  have hcl := h.le
  have hcm := h.max
  unfold maxLen at hcm
  clear hs
  go_enter Try.func15, Try.ntmps15
  have HB0 := Lib.hid (((Below.refl w.heap.size w).alloc (Nat.le_refl _) (.cells #[.int .i64 a, .int .u32 b, .int .u32 c] 24)).alloc (by simp) (.cells #[.int .i64 0, .int .u32 0, .int .u32 0, .int .i64 0, .int .i64 0, .string ⟨#[]⟩] 26))
  have HU0 := Lib.hid (HU.out _ HB0.out)
  clear HU
  go_wp2_with fail
  refine HU0.out.mono ?_
  rintro e w1 ⟨rfl, b1⟩
  have HB1 := Lib.hid (HB0.out.trans (b1.mono HB0.out.size))
  have q0 : w1.cell? ⟨w.heap.size + 1, 0, none⟩ = some (.int .i64 0) := kept b1 (by simp)
  have f0 : w1.frozen? ⟨w.heap.size + 1, 0, none⟩ = false := (b1.frozen (p := ⟨w.heap.size + 1, 0, none⟩) (by simp)).trans (by simp [go_sem])
  have q1 : w1.cell? ⟨w.heap.size + 1, 1, none⟩ = some (.int .u32 0) := kept b1 (by simp)
  have f1 : w1.frozen? ⟨w.heap.size + 1, 1, none⟩ = false := (b1.frozen (p := ⟨w.heap.size + 1, 1, none⟩) (by simp)).trans (by simp [go_sem])
  have q2 : w1.cell? ⟨w.heap.size + 1, 2, none⟩ = some (.int .u32 0) := kept b1 (by simp)
  have f2 : w1.frozen? ⟨w.heap.size + 1, 2, none⟩ = false := (b1.frozen (p := ⟨w.heap.size + 1, 2, none⟩) (by simp)).trans (by simp [go_sem])
  have q3 : w1.cell? ⟨w.heap.size + 1, 3, none⟩ = some (.int .i64 0) := kept b1 (by simp)
  have f3 : w1.frozen? ⟨w.heap.size + 1, 3, none⟩ = false := (b1.frozen (p := ⟨w.heap.size + 1, 3, none⟩) (by simp)).trans (by simp [go_sem])
  have q4 : w1.cell? ⟨w.heap.size + 1, 4, none⟩ = some (.int .i64 0) := kept b1 (by simp)
  have f4 : w1.frozen? ⟨w.heap.size + 1, 4, none⟩ = false := (b1.frozen (p := ⟨w.heap.size + 1, 4, none⟩) (by simp)).trans (by simp [go_sem])
  have q5 : w1.cell? ⟨w.heap.size + 1, 5, none⟩ = some (.string ⟨#[]⟩) := kept b1 (by simp)
  have f5 : w1.frozen? ⟨w.heap.size + 1, 5, none⟩ = false := (b1.frozen (p := ⟨w.heap.size + 1, 5, none⟩) (by simp)).trans (by simp [go_sem])
  have hz1 : w.heap.size + 1 < w1.heap.size := Nat.lt_of_lt_of_le (by simp) b1.size
  clear b1 HU0
  go_wp2
  refine bodyPost_ret (v := .tuple #[agV nilV, .bool false]) (by simp [results, Try.results15, go_sem, nilV, q0, q1, q2, q3, q4, q5]) rfl ⟨rfl, ?_⟩
  go_grown
  exact HB1.out
set_option maxRecDepth 100000 in
set_option maxHeartbeats 6400000 in
theorem rget_gone (h : Sr encV 6 w K A cap l) (hK : K ≤ w.heap.size) (hs : Chn l) {p : Nat} (hp : posV l a b c = p + 1) (hlt : p < l.length) (hk : l[p].k = 3) : Calls Try.prog 15 #[.slice A l.length cap, stv a b c] w (GetP w none) := by
  have HU : Hid (∀ w', Below w.heap.size w w' → Calls Try.prog 29 #[.slice A l.length cap, stv a b c] w' fun e w'' => e = .returned (.int .i64 (p : Int)) ∧ Below w'.heap.size w' w'') := Lib.hid (fun w' hb' => (last_any (h.below (hb'.mono hK)) (Nat.le_trans hK hb'.size) hs).mono (by rintro e w'' ⟨rfl, hb⟩; rw [hp]; exact ⟨ret_int (by omega), hb⟩))
  have hcl := h.le
  have hcm := h.max
  unfold maxLen at hcm
  clear hs
  go_enter Try.func15, Try.ntmps15
  have HB0 := Lib.hid (((Below.refl w.heap.size w).alloc (Nat.le_refl _) (.cells #[.int .i64 a, .int .u32 b, .int .u32 c] 24)).alloc (by simp) (.cells #[.int .i64 0, .int .u32 0, .int .u32 0, .int .i64 0, .int .i64 0, .string ⟨#[]⟩] 26))
  have HU0 := Lib.hid (HU.out _ HB0.out)
  clear HU
  go_wp2_with fail
  refine HU0.out.mono ?_
  rintro e w1 ⟨rfl, b1⟩
  have HB1 := Lib.hid (HB0.out.trans (b1.mono HB0.out.size))
  have q0 : w1.cell? ⟨w.heap.size + 1, 0, none⟩ = some (.int .i64 0) := kept b1 (by simp)
  have f0 : w1.frozen? ⟨w.heap.size + 1, 0, none⟩ = false := (b1.frozen (p := ⟨w.heap.size + 1, 0, none⟩) (by simp)).trans (by simp [go_sem])
  have q1 : w1.cell? ⟨w.heap.size + 1, 1, none⟩ = some (.int .u32 0) := kept b1 (by simp)
  have f1 : w1.frozen? ⟨w.heap.size + 1, 1, none⟩ = false := (b1.frozen (p := ⟨w.heap.size + 1, 1, none⟩) (by simp)).trans (by simp [go_sem])
  have q2 : w1.cell? ⟨w.heap.size + 1, 2, none⟩ = some (.int .u32 0) := kept b1 (by simp)
  have f2 : w1.frozen? ⟨w.heap.size + 1, 2, none⟩ = false := (b1.frozen (p := ⟨w.heap.size + 1, 2, none⟩) (by simp)).trans (by simp [go_sem])
  have q3 : w1.cell? ⟨w.heap.size + 1, 3, none⟩ = some (.int .i64 0) := kept b1 (by simp)
  have f3 : w1.frozen? ⟨w.heap.size + 1, 3, none⟩ = false := (b1.frozen (p := ⟨w.heap.size + 1, 3, none⟩) (by simp)).trans (by simp [go_sem])
  have q4 : w1.cell? ⟨w.heap.size + 1, 4, none⟩ = some (.int .i64 0) := kept b1 (by simp)
  have f4 : w1.frozen? ⟨w.heap.size + 1, 4, none⟩ = false := (b1.frozen (p := ⟨w.heap.size + 1, 4, none⟩) (by simp)).trans (by simp [go_sem])
  have q5 : w1.cell? ⟨w.heap.size + 1, 5, none⟩ = some (.string ⟨#[]⟩) := kept b1 (by simp)
  have f5 : w1.frozen? ⟨w.heap.size + 1, 5, none⟩ = false := (b1.frozen (p := ⟨w.heap.size + 1, 5, none⟩) (by simp)).trans (by simp [go_sem])
  have hz1 : w.heap.size + 1 < w1.heap.size := Nat.lt_of_lt_of_le (by simp) b1.size
  clear b1 HU0
  obtain ⟨ad, hA, hbK, g0, g1⟩ := (h.below (HB1.out.mono hK)).get2 hlt
  subst hA
  generalize hu : l[p] = u at *
  have u3 := g1 3 (.int .i64 u.k) (by decide) rfl
  clear g0 g1
  have hk0 : ¬ ((p : Int) < 0) := by omega
  rw [hk] at u3
  clear hk hu hp h
  go_wp2
  refine bodyPost_ret (v := .tuple #[agV nilV, .bool false]) (by simp [results, Try.results15, go_sem, nilV, q0, q1, q2, q3, q4, q5]) rfl ⟨rfl, ?_⟩
  go_grown
  exact HB1.out
set_option maxRecDepth 100000 in
set_option maxHeartbeats 6400000 in
theorem rget_some (h : Sr encV 6 w K A cap l) (hK : K ≤ w.heap.size) (hs : Chn l) {p : Nat} (hp : posV l a b c = p + 1) (hlt : p < l.length) (hk : l[p].k ≠ 3) : Calls Try.prog 15 #[.slice A l.length cap, stv a b c] w (GetP w (some l[p])) := by
  have HU : Hid (∀ w', Below w.heap.size w w' → Calls Try.prog 29 #[.slice A l.length cap, stv a b c] w' fun e w'' => e = .returned (.int .i64 (p : Int)) ∧ Below w'.heap.size w' w'') := Lib.hid (fun w' hb' => (last_any (h.below (hb'.mono hK)) (Nat.le_trans hK hb'.size) hs).mono (by rintro e w'' ⟨rfl, hb⟩; rw [hp]; exact ⟨ret_int (by omega), hb⟩))
  have hcl := h.le
  have hcm := h.max
  unfold maxLen at hcm
  clear hs
  go_enter Try.func15, Try.ntmps15
  have HB0 := Lib.hid (((Below.refl w.heap.size w).alloc (Nat.le_refl _) (.cells #[.int .i64 a, .int .u32 b, .int .u32 c] 24)).alloc (by simp) (.cells #[.int .i64 0, .int .u32 0, .int .u32 0, .int .i64 0, .int .i64 0, .string ⟨#[]⟩] 26))
  have HU0 := Lib.hid (HU.out _ HB0.out)
  clear HU
  go_wp2_with fail
  refine HU0.out.mono ?_
  rintro e w1 ⟨rfl, b1⟩
  have HB1 := Lib.hid (HB0.out.trans (b1.mono HB0.out.size))
  have q0 : w1.cell? ⟨w.heap.size + 1, 0, none⟩ = some (.int .i64 0) := kept b1 (by simp)
  have f0 : w1.frozen? ⟨w.heap.size + 1, 0, none⟩ = false := (b1.frozen (p := ⟨w.heap.size + 1, 0, none⟩) (by simp)).trans (by simp [go_sem])
  have q1 : w1.cell? ⟨w.heap.size + 1, 1, none⟩ = some (.int .u32 0) := kept b1 (by simp)
  have f1 : w1.frozen? ⟨w.heap.size + 1, 1, none⟩ = false := (b1.frozen (p := ⟨w.heap.size + 1, 1, none⟩) (by simp)).trans (by simp [go_sem])
  have q2 : w1.cell? ⟨w.heap.size + 1, 2, none⟩ = some (.int .u32 0) := kept b1 (by simp)
  have f2 : w1.frozen? ⟨w.heap.size + 1, 2, none⟩ = false := (b1.frozen (p := ⟨w.heap.size + 1, 2, none⟩) (by simp)).trans (by simp [go_sem])
  have q3 : w1.cell? ⟨w.heap.size + 1, 3, none⟩ = some (.int .i64 0) := kept b1 (by simp)
  have f3 : w1.frozen? ⟨w.heap.size + 1, 3, none⟩ = false := (b1.frozen (p := ⟨w.heap.size + 1, 3, none⟩) (by simp)).trans (by simp [go_sem])
  have q4 : w1.cell? ⟨w.heap.size + 1, 4, none⟩ = some (.int .i64 0) := kept b1 (by simp)
  have f4 : w1.frozen? ⟨w.heap.size + 1, 4, none⟩ = false := (b1.frozen (p := ⟨w.heap.size + 1, 4, none⟩) (by simp)).trans (by simp [go_sem])
  have q5 : w1.cell? ⟨w.heap.size + 1, 5, none⟩ = some (.string ⟨#[]⟩) := kept b1 (by simp)
  have f5 : w1.frozen? ⟨w.heap.size + 1, 5, none⟩ = false := (b1.frozen (p := ⟨w.heap.size + 1, 5, none⟩) (by simp)).trans (by simp [go_sem])
  have hz1 : w.heap.size + 1 < w1.heap.size := Nat.lt_of_lt_of_le (by simp) b1.size
  clear b1 HU0
  obtain ⟨ad, hA, hbK, g0, g1⟩ := (h.below (HB1.out.mono hK)).get2 hlt
  subst hA
  generalize hu : l[p] = u at *
  have u0 := g0 _ rfl
  have u1 := g1 1 (.int .u32 u.t) (by decide) rfl
  have u2 := g1 2 (.int .u32 u.m) (by decide) rfl
  have u3 := g1 3 (.int .i64 u.k) (by decide) rfl
  have u4 := g1 4 (.int .i64 u.n) (by decide) rfl
  have u5 := g1 5 (.string u.x) (by decide) rfl
  clear g0 g1
  have hk0 : ¬ ((p : Int) < 0) := by omega
  have hkb : (u.k == 3) = false := by simpa using hk
  have HU2 := Lib.hid hu
  clear hk hu hp h
  go_wp2
  refine bodyPost_ret (v := .tuple #[agV u, .bool true]) (by simp [results, Try.results15, go_sem, q0, q1, q2, q3, q4, q5]) rfl ⟨by rw [HU2.out]; rfl, ?_⟩
  go_grown
  exact HB1.out
theorem rget_any (h : Sr encV 6 w K A cap l) (hK : K ≤ w.heap.size) (hs : Chn l) : Calls Try.prog 15 #[.slice A l.length cap, stv a b c] w (GetP w (getV l a b c)) := by
  rcases hp : posV l a b c with _ | p
  · have e : getV l a b c = none := by unfold getV; rw [last_none hp]
    rw [e]
    exact rget_first h hK hs hp
  · have hlt : p < l.length := by have := pos_le l a b c; omega
    by_cases hk : l[p].k = 3
    · have e : getV l a b c = none := by unfold getV; rw [last_pos hp hlt]; simp [hk]
      rw [e]
      exact rget_gone h hK hs hp hlt hk
    · have e : getV l a b c = some l[p] := by unfold getV; rw [last_pos hp hlt]; simp [hk]
      rw [e]
      exact rget_some h hK hs hp hlt hk
theorem tdrop_succ {l : List Ve} {N i : Nat} (h : i < l.length) : (l.take (i + 1)).drop N = (l.take i).drop N ++ if N ≤ i then [l[i]] else [] := by
  rw [List.take_succ_eq_append_getElem h, List.drop_append]
  have e : (l.take i).length = i := by simp; omega
  rw [e]
  congr 1
  by_cases hN : N ≤ i
  · rw [if_pos hN, show N - i = 0 by omega, List.drop_zero]
  · rw [if_neg hN, List.drop_eq_nil_of_le (by simp; omega)]
set_option maxRecDepth 100000 in
set_option maxHeartbeats 6400000 in
theorem rcut_first (h : Sr encV 6 w K A cap l) (hK : K ≤ w.heap.size) (hs : Chn l) (hmx : l.length ≤ 900000) (hp : posV l a b c = 0) : Calls Try.prog 20 #[.slice A l.length cap, stv a b c] w (CutP w (l.drop 0)) := by
  obtain ⟨N, hN⟩ : ∃ N, N = 0 := ⟨_, rfl⟩
  rw [← hN]
  have htd := fun N i hlt => @tdrop_succ l N i hlt
  have HU : Hid (∀ w', Below w.heap.size w w' → Calls Try.prog 29 #[.slice A l.length cap, stv a b c] w' fun e w'' => e = .returned (.int .i64 (-1)) ∧ Below w'.heap.size w' w'') := Lib.hid (fun w' hb' => (last_any (h.below (hb'.mono hK)) (Nat.le_trans hK hb'.size) hs).mono (by rintro e w'' ⟨rfl, hb⟩; rw [hp]; exact ⟨ret_int (by omega), hb⟩))
  have hcl := h.le
  have hcm := h.max
  unfold maxLen at hcm
  clear hs
  go_enter Try.func20, Try.ntmps20
  have HB0 := Lib.hid ((Below.refl w.heap.size w).alloc (Nat.le_refl _) (.cells #[.int .i64 a, .int .u32 b, .int .u32 c] 24))
  have HU0 := Lib.hid (HU.out _ HB0.out)
  clear HU
  go_wp2_with fail
  refine HU0.out.mono ?_
  rintro e w1 ⟨rfl, b1⟩
  have HB1 := Lib.hid (HB0.out.trans (b1.mono HB0.out.size))
  have hz1 : w.heap.size + 1 ≤ w1.heap.size := Nat.le_trans (by simp) b1.size
  clear b1 HU0
  clear hp
  go_wp2_with fail
  go_loopw [6, 7] (fun sv iv wr => ∃ (i : Nat) (A' : Option Addr) (c' m : Nat), iv = .int .i64 (i : Int) ∧ sv = .slice A' m c' ∧ i ≤ l.length ∧ So encV 6 wr (w.heap.size + 1) 26 (.slice A' m c') ((l.take i).drop N) ∧ m = ((l.take i).drop N).length ∧ Below (w.heap.size + 1) w1 wr) (fun _ iv _ => l.length - (intOf iv).toNat)
  case atStart => exact ⟨0, none, 0, 0, rfl, rfl, Nat.zero_le _, by simpa using So.empty _ _ _ _ _, by simp, Below.refl _ _⟩
  case round =>
    obtain ⟨i, A', c', m, rfl, rfl, hi, hso, hm, hbl⟩ := hrel
    rename World => W0
    have hz2 : w.heap.size + 1 ≤ W0.heap.size := Nat.le_trans hz1 hbl.size
    have hml : m ≤ l.length := by rw [hm]; simp; omega
    by_cases hlt : i < l.length
    · obtain ⟨ad, hA, _, g0, g1⟩ := (h.below ((HB1.out.trans (hbl.mono (by omega))).mono hK)).get2 hlt
      subst hA
      have HX := Lib.hid (rfl : l[i] = l[i])
      obtain ⟨x, hx⟩ : ∃ x, x = l[i] := ⟨_, rfl⟩
      rw [← hx] at g0 g1
      have u0 := g0 _ rfl
      have u1 := g1 1 (.int .u32 x.t) (by decide) rfl
      have u2 := g1 2 (.int .u32 x.m) (by decide) rfl
      have u3 := g1 3 (.int .i64 x.k) (by decide) rfl
      have u4 := g1 4 (.int .i64 x.n) (by decide) rfl
      have u5 := g1 5 (.string x.x) (by decide) rfl
      replace HX := Lib.hid hx.symm
      clear g0 g1
      have hc : (-1 : Int) < (i : Int) := by omega
      clear hx
      have HT := Lib.hid (htd N i hlt)
      have HSO := Lib.hid hso
      have HBW := Lib.hid hbl
      have HM := Lib.hid hm
      clear hso hbl hm
      go_wp2_with (at_builtin; refine wpList_pushE Try.underlying34 info_rv rfl (by decide) W0 rfl (.tmp 33) (.tmp 38) rfl (w.heap.size + 1) (.slice A' m c') _ rfl HSO.out x _ rfl rfl (encV_one _) _ W0.heap.size rfl rfl (m + 1) (by rw [← HM.out]) (by unfold maxLen; omega) (by omega) hz2 ?_; intro A2 cap2 w2 hps2 hgrow2 hat2; have B2 : Below (w.heap.size + 1) w1 w2 := grown_belowE HBW.out hgrow2 hz2 (fun _ h => (HSO.out.lt _ h).1))
      go_roundw
      case rel => exact ⟨i + 1, A2, cap2, m + 1, by go_num, rfl, by omega, by rw [HT.out, if_pos (by omega), HX.out]; exact hps2, by rw [HT.out, if_pos (by omega), List.length_append, ← HM.out]; rfl, B2⟩
      case measure => simp [intOf]; omega
    · obtain rfl : i = l.length := by omega
      rw [List.take_length] at hso hm
      obtain ⟨L, hL⟩ : ∃ L, L = l.drop N := ⟨_, rfl⟩
      rw [← hL] at hso hm
      have HLL := Lib.hid hL
      subst hm
      clear hL
      have HSO := Lib.hid hso
      have HF := Lib.hid (HB1.out.trans (hbl.mono (by omega)))
      clear hso hbl
      go_wp2
      refine bodyPost_ret (v := .slice A' L.length c') (by simp [results, Try.results20, go_sem]) rfl ?_
      rw [← HLL.out]
      exact ⟨A', c', rfl, (HSO.out.sr encV_len).1, HF.out, fun ad h => Nat.le_trans (Nat.le_succ _) (HSO.out.lt ad.block (by rw [h]; rfl)).1⟩
set_option maxRecDepth 100000 in
set_option maxHeartbeats 6400000 in
theorem rcut_gone (h : Sr encV 6 w K A cap l) (hK : K ≤ w.heap.size) (hs : Chn l) (hmx : l.length ≤ 900000) {p : Nat} (hp : posV l a b c = p + 1) (hlt0 : p < l.length) (hk : l[p].k = 3) : Calls Try.prog 20 #[.slice A l.length cap, stv a b c] w (CutP w (l.drop (p + 1))) := by
  obtain ⟨N, hN⟩ : ∃ N, N = (p + 1) := ⟨_, rfl⟩
  rw [← hN]
  have htd := fun N i hlt => @tdrop_succ l N i hlt
  have HU : Hid (∀ w', Below w.heap.size w w' → Calls Try.prog 29 #[.slice A l.length cap, stv a b c] w' fun e w'' => e = .returned (.int .i64 (p : Int)) ∧ Below w'.heap.size w' w'') := Lib.hid (fun w' hb' => (last_any (h.below (hb'.mono hK)) (Nat.le_trans hK hb'.size) hs).mono (by rintro e w'' ⟨rfl, hb⟩; rw [hp]; exact ⟨ret_int (by omega), hb⟩))
  have hcl := h.le
  have hcm := h.max
  unfold maxLen at hcm
  clear hs
  go_enter Try.func20, Try.ntmps20
  have HB0 := Lib.hid ((Below.refl w.heap.size w).alloc (Nat.le_refl _) (.cells #[.int .i64 a, .int .u32 b, .int .u32 c] 24))
  have HU0 := Lib.hid (HU.out _ HB0.out)
  clear HU
  go_wp2_with fail
  refine HU0.out.mono ?_
  rintro e w1 ⟨rfl, b1⟩
  have HB1 := Lib.hid (HB0.out.trans (b1.mono HB0.out.size))
  have hz1 : w.heap.size + 1 ≤ w1.heap.size := Nat.le_trans (by simp) b1.size
  clear b1 HU0
  clear hp
  go_wp2_with fail
  go_loopw [6, 7] (fun sv iv wr => ∃ (i : Nat) (A' : Option Addr) (c' m : Nat), iv = .int .i64 (i : Int) ∧ sv = .slice A' m c' ∧ i ≤ l.length ∧ So encV 6 wr (w.heap.size + 1) 26 (.slice A' m c') ((l.take i).drop N) ∧ m = ((l.take i).drop N).length ∧ Below (w.heap.size + 1) w1 wr) (fun _ iv _ => l.length - (intOf iv).toNat)
  case atStart => exact ⟨0, none, 0, 0, rfl, rfl, Nat.zero_le _, by simpa using So.empty _ _ _ _ _, by simp, Below.refl _ _⟩
  case round =>
    obtain ⟨i, A', c', m, rfl, rfl, hi, hso, hm, hbl⟩ := hrel
    rename World => W0
    have hz2 : w.heap.size + 1 ≤ W0.heap.size := Nat.le_trans hz1 hbl.size
    have hml : m ≤ l.length := by rw [hm]; simp; omega
    by_cases hlt : i < l.length
    · obtain ⟨ad, hA, _, g0, g1⟩ := (h.below ((HB1.out.trans (hbl.mono (by omega))).mono hK)).get2 hlt
      subst hA
      have HX := Lib.hid (rfl : l[i] = l[i])
      obtain ⟨x, hx⟩ : ∃ x, x = l[i] := ⟨_, rfl⟩
      rw [← hx] at g0 g1
      have u0 := g0 _ rfl
      have u1 := g1 1 (.int .u32 x.t) (by decide) rfl
      have u2 := g1 2 (.int .u32 x.m) (by decide) rfl
      have u3 := g1 3 (.int .i64 x.k) (by decide) rfl
      have u4 := g1 4 (.int .i64 x.n) (by decide) rfl
      have u5 := g1 5 (.string x.x) (by decide) rfl
      replace HX := Lib.hid hx.symm
      clear g0 g1
      rcases Nat.lt_trichotomy i p with h1 | h1 | h1
      · have hc : ¬ ((p : Int) < (i : Int)) := by omega
        have he : ((i : Int) == (p : Int)) = false := by simp; omega
        clear hx hk
        have HT := Lib.hid (htd N i hlt)
        have HSO := Lib.hid hso
        have HBW := Lib.hid hbl
        have HM := Lib.hid hm
        clear hso hbl hm
        go_wp2
        go_roundw
        case rel => exact ⟨i + 1, A', c', m, by go_num, rfl, by omega, by rw [HT.out, if_neg (by omega), List.append_nil]; exact HSO.out, by rw [HT.out, if_neg (by omega), List.append_nil]; exact HM.out, HBW.out⟩
        case measure => simp [intOf]; omega
      · subst h1
        rw [hx, hk] at u3
        have hc : ¬ ((i : Int) < (i : Int)) := by omega
        clear hx hk
        have HT := Lib.hid (htd N i hlt)
        have HSO := Lib.hid hso
        have HBW := Lib.hid hbl
        have HM := Lib.hid hm
        clear hso hbl hm
        go_wp2
        go_roundw
        case rel => exact ⟨i + 1, A', c', m, by go_num, rfl, by omega, by rw [HT.out, if_neg (by omega), List.append_nil]; exact HSO.out, by rw [HT.out, if_neg (by omega), List.append_nil]; exact HM.out, HBW.out⟩
        case measure => simp [intOf]; omega
      · have hc : (p : Int) < (i : Int) := by omega
        clear hx hk
        have HT := Lib.hid (htd N i hlt)
        have HSO := Lib.hid hso
        have HBW := Lib.hid hbl
        have HM := Lib.hid hm
        clear hso hbl hm
        go_wp2_with (at_builtin; refine wpList_pushE Try.underlying34 info_rv rfl (by decide) W0 rfl (.tmp 33) (.tmp 38) rfl (w.heap.size + 1) (.slice A' m c') _ rfl HSO.out x _ rfl rfl (encV_one _) _ W0.heap.size rfl rfl (m + 1) (by rw [← HM.out]) (by unfold maxLen; omega) (by omega) hz2 ?_; intro A2 cap2 w2 hps2 hgrow2 hat2; have B2 : Below (w.heap.size + 1) w1 w2 := grown_belowE HBW.out hgrow2 hz2 (fun _ h => (HSO.out.lt _ h).1))
        go_roundw
        case rel => exact ⟨i + 1, A2, cap2, m + 1, by go_num, rfl, by omega, by rw [HT.out, if_pos (by omega), HX.out]; exact hps2, by rw [HT.out, if_pos (by omega), List.length_append, ← HM.out]; rfl, B2⟩
        case measure => simp [intOf]; omega
    · obtain rfl : i = l.length := by omega
      rw [List.take_length] at hso hm
      obtain ⟨L, hL⟩ : ∃ L, L = l.drop N := ⟨_, rfl⟩
      rw [← hL] at hso hm
      have HLL := Lib.hid hL
      subst hm
      clear hL
      have HSO := Lib.hid hso
      have HF := Lib.hid (HB1.out.trans (hbl.mono (by omega)))
      clear hso hbl
      go_wp2
      refine bodyPost_ret (v := .slice A' L.length c') (by simp [results, Try.results20, go_sem]) rfl ?_
      rw [← HLL.out]
      exact ⟨A', c', rfl, (HSO.out.sr encV_len).1, HF.out, fun ad h => Nat.le_trans (Nat.le_succ _) (HSO.out.lt ad.block (by rw [h]; rfl)).1⟩
set_option maxRecDepth 100000 in
set_option maxHeartbeats 6400000 in
theorem rcut_keep (h : Sr encV 6 w K A cap l) (hK : K ≤ w.heap.size) (hs : Chn l) (hmx : l.length ≤ 900000) {p : Nat} (hp : posV l a b c = p + 1) (hlt0 : p < l.length) (hk : l[p].k ≠ 3) : Calls Try.prog 20 #[.slice A l.length cap, stv a b c] w (CutP w (l.drop p)) := by
  obtain ⟨N, hN⟩ : ∃ N, N = p := ⟨_, rfl⟩
  rw [← hN]
  have htd := fun N i hlt => @tdrop_succ l N i hlt
  have HU : Hid (∀ w', Below w.heap.size w w' → Calls Try.prog 29 #[.slice A l.length cap, stv a b c] w' fun e w'' => e = .returned (.int .i64 (p : Int)) ∧ Below w'.heap.size w' w'') := Lib.hid (fun w' hb' => (last_any (h.below (hb'.mono hK)) (Nat.le_trans hK hb'.size) hs).mono (by rintro e w'' ⟨rfl, hb⟩; rw [hp]; exact ⟨ret_int (by omega), hb⟩))
  have hcl := h.le
  have hcm := h.max
  unfold maxLen at hcm
  clear hs
  go_enter Try.func20, Try.ntmps20
  have HB0 := Lib.hid ((Below.refl w.heap.size w).alloc (Nat.le_refl _) (.cells #[.int .i64 a, .int .u32 b, .int .u32 c] 24))
  have HU0 := Lib.hid (HU.out _ HB0.out)
  clear HU
  go_wp2_with fail
  refine HU0.out.mono ?_
  rintro e w1 ⟨rfl, b1⟩
  have HB1 := Lib.hid (HB0.out.trans (b1.mono HB0.out.size))
  have hz1 : w.heap.size + 1 ≤ w1.heap.size := Nat.le_trans (by simp) b1.size
  clear b1 HU0
  clear hp
  go_wp2_with fail
  go_loopw [6, 7] (fun sv iv wr => ∃ (i : Nat) (A' : Option Addr) (c' m : Nat), iv = .int .i64 (i : Int) ∧ sv = .slice A' m c' ∧ i ≤ l.length ∧ So encV 6 wr (w.heap.size + 1) 26 (.slice A' m c') ((l.take i).drop N) ∧ m = ((l.take i).drop N).length ∧ Below (w.heap.size + 1) w1 wr) (fun _ iv _ => l.length - (intOf iv).toNat)
  case atStart => exact ⟨0, none, 0, 0, rfl, rfl, Nat.zero_le _, by simpa using So.empty _ _ _ _ _, by simp, Below.refl _ _⟩
  case round =>
    obtain ⟨i, A', c', m, rfl, rfl, hi, hso, hm, hbl⟩ := hrel
    rename World => W0
    have hz2 : w.heap.size + 1 ≤ W0.heap.size := Nat.le_trans hz1 hbl.size
    have hml : m ≤ l.length := by rw [hm]; simp; omega
    by_cases hlt : i < l.length
    · obtain ⟨ad, hA, _, g0, g1⟩ := (h.below ((HB1.out.trans (hbl.mono (by omega))).mono hK)).get2 hlt
      subst hA
      have HX := Lib.hid (rfl : l[i] = l[i])
      obtain ⟨x, hx⟩ : ∃ x, x = l[i] := ⟨_, rfl⟩
      rw [← hx] at g0 g1
      have u0 := g0 _ rfl
      have u1 := g1 1 (.int .u32 x.t) (by decide) rfl
      have u2 := g1 2 (.int .u32 x.m) (by decide) rfl
      have u3 := g1 3 (.int .i64 x.k) (by decide) rfl
      have u4 := g1 4 (.int .i64 x.n) (by decide) rfl
      have u5 := g1 5 (.string x.x) (by decide) rfl
      replace HX := Lib.hid hx.symm
      clear g0 g1
      rcases Nat.lt_trichotomy i p with h1 | h1 | h1
      · have hc : ¬ ((p : Int) < (i : Int)) := by omega
        have he : ((i : Int) == (p : Int)) = false := by simp; omega
        clear hx hk
        have HT := Lib.hid (htd N i hlt)
        have HSO := Lib.hid hso
        have HBW := Lib.hid hbl
        have HM := Lib.hid hm
        clear hso hbl hm
        go_wp2
        go_roundw
        case rel => exact ⟨i + 1, A', c', m, by go_num, rfl, by omega, by rw [HT.out, if_neg (by omega), List.append_nil]; exact HSO.out, by rw [HT.out, if_neg (by omega), List.append_nil]; exact HM.out, HBW.out⟩
        case measure => simp [intOf]; omega
      · subst h1
        have hkb : (x.k != 3) = true := by rw [hx]; simpa using hk
        have hc : ¬ ((i : Int) < (i : Int)) := by omega
        clear hx hk
        have HT := Lib.hid (htd N i hlt)
        have HSO := Lib.hid hso
        have HBW := Lib.hid hbl
        have HM := Lib.hid hm
        clear hso hbl hm
        go_wp2_with (at_builtin; refine wpList_pushE Try.underlying34 info_rv rfl (by decide) W0 rfl (.tmp 33) (.tmp 38) rfl (w.heap.size + 1) (.slice A' m c') _ rfl HSO.out x _ rfl rfl (encV_one _) _ W0.heap.size rfl rfl (m + 1) (by rw [← HM.out]) (by unfold maxLen; omega) (by omega) hz2 ?_; intro A2 cap2 w2 hps2 hgrow2 hat2; have B2 : Below (w.heap.size + 1) w1 w2 := grown_belowE HBW.out hgrow2 hz2 (fun _ h => (HSO.out.lt _ h).1))
        go_roundw
        case rel => exact ⟨i + 1, A2, cap2, m + 1, by go_num, rfl, by omega, by rw [HT.out, if_pos (by omega), HX.out]; exact hps2, by rw [HT.out, if_pos (by omega), List.length_append, ← HM.out]; rfl, B2⟩
        case measure => simp [intOf]; omega
      · have hc : (p : Int) < (i : Int) := by omega
        clear hx hk
        have HT := Lib.hid (htd N i hlt)
        have HSO := Lib.hid hso
        have HBW := Lib.hid hbl
        have HM := Lib.hid hm
        clear hso hbl hm
        go_wp2_with (at_builtin; refine wpList_pushE Try.underlying34 info_rv rfl (by decide) W0 rfl (.tmp 33) (.tmp 38) rfl (w.heap.size + 1) (.slice A' m c') _ rfl HSO.out x _ rfl rfl (encV_one _) _ W0.heap.size rfl rfl (m + 1) (by rw [← HM.out]) (by unfold maxLen; omega) (by omega) hz2 ?_; intro A2 cap2 w2 hps2 hgrow2 hat2; have B2 : Below (w.heap.size + 1) w1 w2 := grown_belowE HBW.out hgrow2 hz2 (fun _ h => (HSO.out.lt _ h).1))
        go_roundw
        case rel => exact ⟨i + 1, A2, cap2, m + 1, by go_num, rfl, by omega, by rw [HT.out, if_pos (by omega), HX.out]; exact hps2, by rw [HT.out, if_pos (by omega), List.length_append, ← HM.out]; rfl, B2⟩
        case measure => simp [intOf]; omega
    · obtain rfl : i = l.length := by omega
      rw [List.take_length] at hso hm
      obtain ⟨L, hL⟩ : ∃ L, L = l.drop N := ⟨_, rfl⟩
      rw [← hL] at hso hm
      have HLL := Lib.hid hL
      subst hm
      clear hL
      have HSO := Lib.hid hso
      have HF := Lib.hid (HB1.out.trans (hbl.mono (by omega)))
      clear hso hbl
      go_wp2
      refine bodyPost_ret (v := .slice A' L.length c') (by simp [results, Try.results20, go_sem]) rfl ?_
      rw [← HLL.out]
      exact ⟨A', c', rfl, (HSO.out.sr encV_len).1, HF.out, fun ad h => Nat.le_trans (Nat.le_succ _) (HSO.out.lt ad.block (by rw [h]; rfl)).1⟩
theorem rcut_any (h : Sr encV 6 w K A cap l) (hK : K ≤ w.heap.size) (hs : Chn l) (hmx : l.length ≤ 900000) : Calls Try.prog 20 #[.slice A l.length cap, stv a b c] w (CutP w (l.drop (cutN l a b c))) := by
  rcases hp : posV l a b c with _ | p
  · have e : cutN l a b c = 0 := by unfold cutN; rw [last_none hp]
    rw [e]
    exact rcut_first h hK hs hmx hp
  · have hlt : p < l.length := by have := pos_le l a b c; omega
    by_cases hk : l[p].k = 3
    · have e : cutN l a b c = p + 1 := by unfold cutN; rw [last_pos hp hlt]; simp [hk, hp]
      rw [e]
      exact rcut_gone h hK hs hmx hp hlt hk
    · have e : cutN l a b c = p := by unfold cutN; rw [last_pos hp hlt]; simp [hk, hp]
      rw [e]
      exact rcut_keep h hK hs hmx hp hlt hk
end
end Go.Proofs.Ytbeclajbpfglgaa
