/- sort.Search over a chain's versions: how many of them don't stand behind a stamp. -/
import Derived.Test.YtbeclajbpfglgaaChV
import Derived.Deep.RegionLaw
import Derived.LoopTactic
namespace Go.Proofs.Ytbeclajbpfglgaa
open Go.RowKit

/-- Does a version stand behind a stamp? -/
def gtB (v : Ve) (a b c : Int) : Bool := decide (0 < cmpS v.w v.t v.m a b c)
def ltV (u v : Ve) : Prop := cmpS u.w u.t u.m v.w v.t v.m = -1
def Chn (l : List Ve) : Prop := l.Pairwise ltV
def posV (l : List Ve) (a b c : Int) : Nat := (l.takeWhile fun v => !gtB v a b c).length
theorem gt_trans {u v : Ve} {a b c : Int} (h : ltV u v) (hv : gtB v a b c = false) : gtB u a b c = false := by
  unfold gtB at *
  unfold ltV at h
  have h1 := cmpS_cases u.w u.t u.m v.w v.t v.m
  have h2 := cmpS_cases v.w v.t v.m a b c
  have h3 := cmpS_cases u.w u.t u.m a b c
  simp only [decide_eq_false_iff_not] at hv ⊢
  omega
theorem pos_of {a b c : Int} : ∀ {l : List Ve} {r : Nat}, Chn l → r ≤ l.length → (∀ x, 0 < r → l[r - 1]? = some x → gtB x a b c = false) → (∀ x, l[r]? = some x → gtB x a b c = true) → r = posV l a b c
  | [], r, _, hr, _, _ => by simp at hr; subst hr; rfl
  | x :: l, 0, _, _, _, h2 => by
    have := h2 x rfl
    simp [posV, this]
  | x :: l, r + 1, hs, hr, h1, h2 => by
    obtain ⟨g1, g2⟩ := List.pairwise_cons.1 hs
    have hr' : r ≤ l.length := by simpa using hr
    have hx : gtB x a b c = false := by
      rcases Nat.eq_zero_or_pos r with rfl | hp
      · exact h1 x (by omega) rfl
      · have hlt : r - 1 < l.length := by omega
        have e : (x :: l)[r + 1 - 1]? = some l[r - 1] := by
          rw [Nat.add_sub_cancel, List.getElem?_cons, if_neg (by omega), List.getElem?_eq_getElem hlt]
        exact gt_trans (g1 _ (List.getElem_mem hlt)) (h1 _ (by omega) e)
    have ih := pos_of (a := a) (b := b) (c := c) (r := r) g2 hr' (fun y hp hy => h1 y (by omega) (by
      rw [Nat.add_sub_cancel, List.getElem?_cons, if_neg (by omega)]; exact hy)) (fun y hy => h2 y (by simpa using hy))
    have e : posV (x :: l) a b c = posV l a b c + 1 := by simp [posV, hx]
    rw [e, ← ih]
theorem pos_le (l : List Ve) (a b c : Int) : posV l a b c ≤ l.length := by
  have := congrArg List.length (List.takeWhile_append_dropWhile (p := fun v => !gtB v a b c) (l := l))
  rw [List.length_append] at this
  unfold posV
  omega

structure Vin (w : World) (b1 b2 : Nat) (A : Option Addr) (cap K : Nat) (l : List Ve) (a b c : Int) : Prop where
  x1 : w.cell? ⟨b1, 0, none⟩ = some (.slice A l.length cap)
  y0 : w.cell? ⟨b2, 0, none⟩ = some (.int .i64 a)
  y1 : w.cell? ⟨b2, 1, none⟩ = some (.int .u32 b)
  y2 : w.cell? ⟨b2, 2, none⟩ = some (.int .u32 c)
  sr : Sr encV 6 w K A cap l
  kk : K ≤ w.heap.size
  ok : ∀ v ∈ l, Vok v
  b0 : 0 ≤ b ∧ b ≤ 4294967295
  c0 : 0 ≤ c ∧ c ≤ 4294967295
section
variable {w w' : World} {b1 b2 : Nat} {A : Option Addr} {cap K i j : Nat} {l : List Ve} {a b c : Int}
theorem Vin.below (h : Vin w b1 b2 A cap K l a b c) (hb : Below w.heap.size w w') : Vin w' b1 b2 A cap K l a b c :=
  ⟨kept hb h.x1, kept hb h.y0, kept hb h.y1, kept hb h.y2, h.sr.below (hb.mono h.kk), Nat.le_trans h.kk hb.size, h.ok, h.b0, h.c0⟩
set_option maxRecDepth 100000 in
set_option maxHeartbeats 1000000 in
theorem up1_any (h : Vin w b1 b2 A cap K l a b c) {i : Nat} (hi : i < l.length) {v : Ve} (hv : l[i]? = some v) :
    Calls Try.prog 34 #[.int .i64 (i : Int), .pointer (some ⟨b1, 0, none⟩), .pointer (some ⟨b2, 0, none⟩)] w fun e w' => e = .returned (.bool (gtB v a b c)) ∧ Below w.heap.size w w' := by
  obtain ⟨hi2, rfl⟩ := List.getElem?_eq_some_iff.1 hv
  obtain ⟨ad, rfl, hb, g0, g1⟩ := h.sr.get2 hi
  have x1 := h.x1
  have y0 := h.y0
  have y1 := h.y1
  have y2 := h.y2
  have hvo := h.ok _ (List.getElem_mem hi)
  generalize l[i] = v at *
  have e0 := g0 _ rfl
  have e1 := g1 1 (.int .u32 v.t) (by decide) rfl
  have e2 := g1 2 (.int .u32 v.m) (by decide) rfl
  have hcap := h.sr.le
  have hmx := h.sr.max
  unfold maxLen at hmx
  have HC := Lib.hid (fun w => compare_any v.w v.t v.m a b c hvo.t0 hvo.t1 hvo.m0 hvo.m1 h.b0.1 h.b0.2 h.c0.1 h.c0.2 w)
  clear h g0 g1 hvo hv
  go_enter Try.func34, Try.ntmps34
  go_wp2_with fail
  go_region_law (first
    | (go_simp; go_at_call 22; refine (HC.out _).mono ?_; rintro e w1 ⟨rfl, hb1⟩))
  all_goals
    go_wp2
    go_ret
    exact ⟨rfl, ((Tn.drew (P := fun _ => False) w).below (Nat.le_refl _) (fun _ _ h => h.elim)).trans hb1⟩
/-- Between the bounds. -/
structure Sb (l : List Ve) (a b c : Int) (i j : Nat) : Prop where
  ij : i ≤ j
  jl : j ≤ l.length
  lo : ∀ x, 0 < i → l[i - 1]? = some x → gtB x a b c = false
  hi : ∀ x, l[j]? = some x → gtB x a b c = true
theorem Sb.up (h : Sb l a b c i j) {k : Nat} (hk : k < j) (hg : ∀ x, l[k]? = some x → gtB x a b c = false) : Sb l a b c (k + 1) j := ⟨hk, h.jl, fun x _ hx => hg x (by simpa using hx), h.hi⟩
theorem Sb.down (h : Sb l a b c i j) {k : Nat} (hk : i ≤ k) (hk2 : k < j) (hg : ∀ x, l[k]? = some x → gtB x a b c = true) : Sb l a b c i k := ⟨hk, by have := h.jl; omega, h.lo, hg⟩
set_option maxRecDepth 100000 in
set_option maxHeartbeats 1000000 in
theorem search_any (h : Vin w b1 b2 A cap K l a b c) (hs : Chn l) (hmx : l.length ≤ 1000000) :
    Calls Try.prog 33 #[.int .i64 (l.length : Int), .func (.func 34) #[] #[.pointer (some ⟨b1, 0, none⟩), .pointer (some ⟨b2, 0, none⟩)]] w fun e w' => e = .returned (.int .i64 (posV l a b c : Nat)) ∧ Below w.heap.size w w' := by
  have HV := Lib.hid h
  have HS := Lib.hid hs
  clear h hs
  go_enter Try.func33, Try.ntmps33
  go_wp2_with fail
  go_loopw [5, 6] (fun iv jv wr => ∃ i j : Nat, iv = .int .i64 (i : Int) ∧ jv = .int .i64 (j : Int) ∧ Sb l a b c i j ∧ Below w.heap.size w wr) (fun iv jv _ => (intOf jv - intOf iv).toNat)
  case atStart => exact ⟨0, l.length, rfl, rfl, ⟨Nat.zero_le _, Nat.le_refl _, fun _ h => absurd h (by omega), fun x hx => by simp at hx⟩, Below.refl _ _⟩
  case round =>
    obtain ⟨i, j, rfl, rfl, hsb, hbl⟩ := hrel
    rename World => W0
    have hij := hsb.ij
    have hjl := hsb.jl
    have HSB := Lib.hid hsb
    have HBL := Lib.hid hbl
    clear hsb hbl
    by_cases hlt : i < j
    · have hk : (i + j) / 2 < l.length := by omega
      have ek : (((i + j) / 2 : Nat) : Int) = ((i : Int) + (j : Int)) / 2 := by omega
      have hk0 : 0 ≤ ((i : Int) + (j : Int)) / 2 := by omega
      have hk1 : ((i : Int) + (j : Int)) / 2 ≤ 1000000 := by omega
      cases hg : gtB l[(i + j) / 2] a b c with
      | true =>
        have HC := Lib.hid (up1_any (HV.out.below HBL.out) hk (List.getElem?_eq_getElem hk))
        rw [hg, ek] at HC
        have HN := Lib.hid (HSB.out.down (k := (i + j) / 2) (by omega) (by omega) (fun x hx => by rw [List.getElem?_eq_getElem hk] at hx; injection hx with hx; rw [← hx]; exact hg))
        clear hg ek
        go_wp2_with fail
        refine HC.out.mono ?_
        rintro e W1 ⟨rfl, hb1⟩
        have HB2 := Lib.hid (HBL.out.trans (hb1.mono HBL.out.size))
        clear hb1
        go_wp2
        go_roundw
        case rel => exact ⟨i, (i + j) / 2, rfl, congrArg (Value.int .i64) (by omega), HN.out, HB2.out⟩
        case measure => simp [intOf]; omega
      | false =>
        have HC := Lib.hid (up1_any (HV.out.below HBL.out) hk (List.getElem?_eq_getElem hk))
        rw [hg, ek] at HC
        have HN := Lib.hid (HSB.out.up (k := (i + j) / 2) (by omega) (fun x hx => by rw [List.getElem?_eq_getElem hk] at hx; injection hx with hx; rw [← hx]; exact hg))
        clear hg ek
        go_wp2_with fail
        refine HC.out.mono ?_
        rintro e W1 ⟨rfl, hb1⟩
        have HB2 := Lib.hid (HBL.out.trans (hb1.mono HBL.out.size))
        clear hb1
        go_wp2
        go_roundw
        case rel => exact ⟨(i + j) / 2 + 1, j, congrArg (Value.int .i64) (by omega), rfl, HN.out, HB2.out⟩
        case measure => simp [intOf]; omega
    · obtain rfl : i = j := by omega
      have e := pos_of HS.out hjl HSB.out.lo HSB.out.hi
      go_wp2
      go_ret
      exact ⟨ret_int (by rw [e]), HBL.out⟩
end
/-- How many of a chain's versions don't stand behind a stamp. -/
theorem upto_any {w : World} {A : Option Addr} {cap K : Nat} {l : List Ve} {a b c : Int} (h : Sr encV 6 w K A cap l) (hK : K ≤ w.heap.size) (ho : ∀ v ∈ l, Vok v) (hs : Chn l) (hmx : l.length ≤ 1000000) (hb : 0 ≤ b ∧ b ≤ 4294967295) (hc : 0 ≤ c ∧ c ≤ 4294967295) :
    Calls Try.prog 28 #[.slice A l.length cap, .agg #[.int .i64 a, .int .u32 b, .int .u32 c]] w fun e w' => e = .returned (.int .i64 (posV l a b c : Nat)) ∧ Below w.heap.size w w' := by
  have HH := Lib.hid h
  have HO := Lib.hid ho
  have HS := Lib.hid hs
  clear h ho hs
  go_enter Try.func28, Try.ntmps28
  go_wp2_with fail
  have b0 : Below w.heap.size w ((w.alloc (.cells #[.slice A l.length cap] 35)).alloc (.cells #[.int .i64 a, .int .u32 b, .int .u32 c] 29)) := ((Below.refl _ _).alloc (Nat.le_refl _) _).alloc (by simp) _
  refine (search_any (K := K) (⟨by simp, by simp, by simp, by simp, HH.out.below (b0.mono hK), Nat.le_trans hK b0.size, HO.out, hb, hc⟩ : Vin _ w.heap.size (w.heap.size + 1) A cap K l a b c) HS.out hmx).mono ?_
  rintro e w1 ⟨rfl, hb1⟩
  have hfin := b0.trans (hb1.mono b0.size)
  go_wp2
  go_ret
  exact ⟨rfl, hfin⟩
end Go.Proofs.Ytbeclajbpfglgaa
