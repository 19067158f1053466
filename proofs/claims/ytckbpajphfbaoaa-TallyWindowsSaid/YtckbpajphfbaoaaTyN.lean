/- The document's Total: its digits. -/
import Derived.Test.YtckbpajphfbaoaaTyH
import Derived.Test.YtckbpajphfbaoaaTyDe
import Derived.BigQuiet
namespace Go.Proofs.Ytckbpajphfbaoaa
open Go.RowKit

theorem cellO {X : World} {p q : Addr} {u v : Value} (hne : p ≠ q) (h : X.cell? q = some v) : (X.setCell p u).cell? q = some v := by
  rw [World.cell?_setCell_other]
  · exact h
  · exact hne
def upd (f : Nat → Int) (i : Nat) (x : Int) : Nat → Int := fun j => if j = i then x else f j
/-- Eight digits in a box. -/
structure Ds (w : World) (D : Nat) (f : Nat → Int) : Prop where
  c : ∀ i, i < 8 → w.cell? ⟨D, i, none⟩ = some (.int .i64 (f i))
  fz : ∀ i, w.frozen? ⟨D, i, none⟩ = false
theorem Ds.put {w : World} {D : Nat} {f : Nat → Int} (h : Ds w D f) (i : Nat) (x : Int) : Ds (w.setCell ⟨D, i, none⟩ (.int .i64 x)) D (upd f i x) := by
  refine ⟨fun j hj => ?_, fun j => by simp [go_sem, h.fz]⟩
  by_cases e : j = i
  · subst e
    simp [go_sem, h.c j hj, upd]
  · rw [cellO (by intro he; injection he with _ he; exact e he.symm) (h.c j hj)]
    simp [upd, e]
def dv (f : Nat → Int) : Int := f 0 + f 1 * 65536 + f 2 * 4294967296 + f 3 * 281474976710656 + f 4 * 18446744073709551616 + f 5 * 1208925819614629174706176 + f 6 * 79228162514264337593543950336 + f 7 * 5192296858534827628530496329220096
def pw : Nat → Int
  | 0 => 1
  | 1 => 65536
  | 2 => 4294967296
  | 3 => 281474976710656
  | _ => 18446744073709551616
/-- The digits while one number is added (s = 1) or taken away (s = -1). -/
structure In (s T B : Int) (k : Nat) (v : Int) (f : Nat → Int) : Prop where
  v0 : 0 ≤ v
  vb : v * pw k < 18446744073709551616
  val : dv f + s * (v * pw k) = T
  lo : ∀ i, i < 4 → -(B + 65535) ≤ f i ∧ f i ≤ B + 65535
  un : ∀ i, k ≤ i → i < 4 → -B ≤ f i ∧ f i ≤ B
  hi : ∀ i, 4 ≤ i → f i = 0
theorem upd_at (f : Nat → Int) (i : Nat) (x : Int) : upd f i x i = x := by simp [upd]
theorem upd_ne (f : Nat → Int) {i j : Nat} (x : Int) (h : j ≠ i) : upd f i x j = f j := by simp [upd, h]
theorem In.step {s T B : Int} {k : Nat} {v : Int} {f : Nat → Int} (hs : s = 1 ∨ s = -1) (h : In s T B k v f) (hk : k < 4) : In s T B (k + 1) (v / 65536) (upd f k (f k + s * (v % 65536))) := by
  obtain ⟨v0, vb, val, lo, un, hi⟩ := h
  have hk' := un k (Nat.le_refl _) hk
  have hm : 0 ≤ v % 65536 ∧ v % 65536 ≤ 65535 := by omega
  have hf : -(B + 65535) ≤ f k + s * (v % 65536) ∧ f k + s * (v % 65536) ≤ B + 65535 := by rcases hs with rfl | rfl <;> omega
  refine ⟨by omega, ?_, ?_, fun i hi4 => ?_, fun i h1 h2 => ?_, fun i h4 => ?_⟩
  · obtain rfl | rfl | rfl | rfl : k = 0 ∨ k = 1 ∨ k = 2 ∨ k = 3 := by omega
    all_goals simp only [pw] at vb ⊢; omega
  · obtain rfl | rfl | rfl | rfl : k = 0 ∨ k = 1 ∨ k = 2 ∨ k = 3 := by omega
    all_goals
      simp only [pw, dv] at val ⊢
      rw [upd_at]
      repeat rw [upd_ne _ _ (by decide)]
      rcases hs with rfl | rfl <;> omega
  · by_cases e : i = k
    · subst e; rw [upd_at]; exact hf
    · rw [upd_ne _ _ e]; exact lo i hi4
  · rw [upd_ne _ _ (by omega)]; exact un i (by omega) h2
  · rw [upd_ne _ _ (by omega)]; exact hi i h4
/-- The digits between two numbers. -/
structure Ou (T B : Int) (f : Nat → Int) : Prop where
  val : dv f = T
  lo : ∀ i, i < 4 → -B ≤ f i ∧ f i ≤ B
  hi : ∀ i, 4 ≤ i → f i = 0
theorem Ou.start {s T B v : Int} {f : Nat → Int} (h : Ou T B f) (h0 : 0 ≤ v) (h1 : v < 18446744073709551616) : In s (T + s * v) B 0 v f :=
  ⟨h0, by simpa [pw] using h1, by rw [h.val]; simp [pw], fun i hi => by have := h.lo i hi; omega, fun i _ hi => h.lo i hi, h.hi⟩
theorem In.stop {s T B v : Int} {f : Nat → Int} (h : In s T B 4 v f) : Ou T (B + 65535) f := by
  obtain ⟨v0, vb, val, lo, un, hi⟩ := h
  simp only [pw] at vb val
  obtain rfl : v = 0 := by omega
  exact ⟨by simpa using val, lo, hi⟩
/-- The digits while carries go up. -/
structure Cy (V : Int) (k : Nat) (f : Nat → Int) : Prop where
  val : dv f = V
  dn : ∀ i, i < k → 0 ≤ f i ∧ f i ≤ 65535
  at_ : -2199023255552 ≤ f k ∧ f k ≤ 2199023255552
  up : ∀ i, k < i → i < 8 → -1099511627776 ≤ f i ∧ f i ≤ 1099511627776
theorem Cy.step {V : Int} {k : Nat} {f : Nat → Int} (h : Cy V k f) (hk : k < 7) : Cy V (k + 1) (upd (upd f k (f k - f k / 65536 * 65536)) (k + 1) (f (k + 1) + f k / 65536)) := by
  obtain ⟨val, dn, hat, up⟩ := h
  have hu := up (k + 1) (by omega) (by omega)
  refine ⟨?_, fun i hi => ?_, ?_, fun i h1 h2 => ?_⟩
  · obtain rfl | rfl | rfl | rfl | rfl | rfl | rfl : k = 0 ∨ k = 1 ∨ k = 2 ∨ k = 3 ∨ k = 4 ∨ k = 5 ∨ k = 6 := by omega
    all_goals
      simp only [dv] at val ⊢
      simp only [upd]
      simp
      omega
  · rw [upd_ne _ _ (by omega)]
    by_cases e : i = k
    · subst e; rw [upd_at]; omega
    · rw [upd_ne _ _ e]; exact dn i (by omega)
  · rw [upd_at]; omega
  · rw [upd_ne _ _ (by omega), upd_ne _ _ (by omega)]; exact up i (by omega) h2
theorem floor_neg {x : Int} (h : x.tmod 65536 < 0) : x.tdiv 65536 - 1 = x / 65536 := by
  have h1 := Int.mul_tdiv_add_tmod x 65536
  have h2 := Int.tmod_lt_of_pos x (show (0 : Int) < 65536 by decide)
  have h3 : -65536 < x.tmod 65536 := by
    have := Int.lt_tmod_of_pos x (show (0 : Int) < 65536 by decide)
    omega
  omega
theorem floor_pos {x : Int} (h : ¬ x.tmod 65536 < 0) : x.tdiv 65536 = x / 65536 := by
  have h1 := Int.mul_tdiv_add_tmod x 65536
  have h2 := Int.tmod_lt_of_pos x (show (0 : Int) < 65536 by decide)
  omega
/-- The four lower digits as a number. -/
def top (f : Nat → Int) : Nat → Int
  | 0 => ((f 3 * 65536 + f 2) * 65536 + f 1) * 65536 + f 0
  | 1 => (f 3 * 65536 + f 2) * 65536 + f 1
  | 2 => f 3 * 65536 + f 2
  | 3 => f 3
  | _ => 0
theorem Cy.fits {V : Int} {f : Nat → Int} (h : Cy V 7 f) : (f 4 = 0 ∧ f 5 = 0 ∧ f 6 = 0 ∧ f 7 = 0 → 0 ≤ V ∧ V < 18446744073709551616 ∧ top f 0 = V) ∧ (0 ≤ V ∧ V < 18446744073709551616 → f 4 = 0 ∧ f 5 = 0 ∧ f 6 = 0 ∧ f 7 = 0) := by
  obtain ⟨val, dn, hat, up⟩ := h
  have d0 := dn 0 (by omega)
  have d1 := dn 1 (by omega)
  have d2 := dn 2 (by omega)
  have d3 := dn 3 (by omega)
  have d4 := dn 4 (by omega)
  have d5 := dn 5 (by omega)
  have d6 := dn 6 (by omega)
  simp only [dv] at val
  constructor
  · rintro ⟨e4, e5, e6, e7⟩
    rw [e4, e5, e6, e7] at val
    simp only [top]
    omega
  · intro hV
    omega
def sumZ : List Int → Int
  | [] => 0
  | x :: r => x + sumZ r
theorem sumZ_app (a b : List Int) : sumZ (a ++ b) = sumZ a + sumZ b := by
  induction a with
  | nil => simp [sumZ]
  | cons x a ih => simp only [List.cons_append, sumZ, ih]; omega
theorem sumZ_next {l : List Int} {k : Nat} (h : k < l.length) : sumZ (l.take (k + 1)) = sumZ (l.take k) + l[k] := by
  rw [List.take_succ_eq_append_getElem h, sumZ_app]
  simp [sumZ]
end Go.Proofs.Ytckbpajphfbaoaa
