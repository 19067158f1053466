/- A statement that makes one variable and turns memory by one call. -/
import Derived.Test.YteibigiehpkdjaaLets
import Derived.Test.YteibigiehpkdjaaAt
namespace Go.Proofs.Yteibigiehpkdjaa
open Go.RowKit


/-- Values, one call (t) that turns block b, one variable that is made (m) and stored into (m + 1): what holds of those that have come up. -/
structure Let1 (S W0 W1 : World → Prop) (N t m : Nat) (xs : Nat → Value) (y : Int × Int × Int) (l : Nat → Bool) (vs : Nat → Value) (w : World) : Prop where
  s : S w
  s0 : l t = false → W0 w
  s1 : l t = true → W1 w
  n : N ≤ w.heap.size
  v : ∀ j, j ≠ m → j ≠ m + 1 → l j = true → vs j = xs j
  p : l m = true → ∃ n, vs m = .pointer (some ⟨n, 0, none⟩) ∧ N ≤ n ∧ n < w.heap.size ∧ Room3 w n
  h : l (m + 1) = true → l m = true ∧ l t = true ∧ ∀ n, vs m = .pointer (some ⟨n, 0, none⟩) → At3 w n y

variable {S W0 W1 : World → Prop} {N t m : Nat} {xs : Nat → Value} {y : Int × Int × Int} {l : Nat → Bool} {vs : Nat → Value} {w : World}

theorem Let1.value (J : Let1 S W0 W1 N t m xs y l vs w) {i : Nat} (hit : i ≠ t) (him : i ≠ m) (hin : i ≠ m + 1) {v : Value} (hv : v = xs i) {w' : World} (hb : Below w.heap.size w w') (hS : S w') (h0 : W0 w → W0 w') (h1 : W1 w → W1 w') :
    Let1 S W0 W1 N t m xs y (upd l i true) (upd vs i v) w' where
  s := hS
  s0 := fun h => by rw [upd_ne _ _ (Ne.symm hit)] at h; exact h0 (J.s0 h)
  s1 := fun h => by rw [upd_ne _ _ (Ne.symm hit)] at h; exact h1 (J.s1 h)
  n := Nat.le_trans J.n hb.size
  v := fun j hj hj' hl => by
    by_cases e : j = i
    · subst e; rw [upd_same]; exact hv
    · rw [upd_ne _ _ e] at hl ⊢; exact J.v j hj hj' hl
  p := fun hl => by
    rw [upd_ne _ _ (Ne.symm him)] at hl ⊢
    obtain ⟨b, a1, a2, a3, a4⟩ := J.p hl
    exact ⟨b, a1, a2, Nat.lt_of_lt_of_le a3 hb.size, a4.below a3 hb⟩
  h := fun hl => by
    rw [upd_ne _ _ (Ne.symm hin)] at hl
    rw [upd_ne _ _ (Ne.symm him), upd_ne _ _ (Ne.symm hit), upd_ne _ _ (Ne.symm him)]
    obtain ⟨a1, a2, a3⟩ := J.h hl
    exact ⟨a1, a2, fun n hn => (a3 n hn).below hb⟩

theorem Let1.turn (J : Let1 S W0 W1 N t m xs y l vs w) (hlt : l t = false) (htm : t ≠ m) (htn : t ≠ m + 1) {b : Nat} (hbN : b < N) {v : Value} (hv : v = xs t) {w' : World} (ho : Only b w w') (hS : S w') (h1 : W1 w') :
    Let1 S W0 W1 N t m xs y (upd l t true) (upd vs t v) w' where
  s := hS
  s0 := fun h => by rw [upd_same] at h; cases h
  s1 := fun _ => h1
  n := Nat.le_trans J.n ho.size
  v := fun j hj hj' hl => by
    by_cases e : j = t
    · subst e; rw [upd_same]; exact hv
    · rw [upd_ne _ _ e] at hl ⊢; exact J.v j hj hj' hl
  p := fun hl => by
    rw [upd_ne _ _ (Ne.symm htm)] at hl ⊢
    obtain ⟨n, a1, a2, a3, a4⟩ := J.p hl
    refine ⟨n, a1, a2, Nat.lt_of_lt_of_le a3 ho.size, fun o hlo => ?_⟩
    obtain ⟨c1, c2⟩ := a4 o hlo
    have hne : n ≠ b := by omega
    cases hc : w.cell? ⟨n, o, none⟩ with
    | none => rw [hc] at c1; cases c1
    | some u => exact ⟨isOf (ho.cell (p := ⟨n, o, none⟩) hne hc), ho.frz (p := ⟨n, o, none⟩) hne a3 c2⟩
  h := fun hl => by
    rw [upd_ne _ _ (Ne.symm htn)] at hl
    obtain ⟨_, a2, _⟩ := J.h hl
    rw [hlt] at a2; cases a2

theorem Let1.made (J : Let1 S W0 W1 N t m xs y l vs w) (htm : t ≠ m) (hl : l m = false) {z0 z1 z2 : Value} {T : TypeId} (hS : S (w.alloc (.cells #[z0, z1, z2] T))) (h0 : W0 w → W0 (w.alloc (.cells #[z0, z1, z2] T))) (h1 : W1 w → W1 (w.alloc (.cells #[z0, z1, z2] T))) :
    Let1 S W0 W1 N t m xs y (upd l m true) (upd vs m (.pointer (some ⟨w.heap.size, 0, none⟩))) (w.alloc (.cells #[z0, z1, z2] T)) := by
  have hb : Below w.heap.size w (w.alloc (.cells #[z0, z1, z2] T)) := (Below.refl _ _).alloc (Nat.le_refl _) _
  refine ⟨hS, fun h => ?_, fun h => ?_, Nat.le_trans J.n hb.size, fun j hj hj' hl' => ?_, fun _ => ?_, fun hl' => ?_⟩
  · rw [upd_ne _ _ htm] at h; exact h0 (J.s0 h)
  · rw [upd_ne _ _ htm] at h; exact h1 (J.s1 h)
  · rw [upd_ne _ _ hj] at hl' ⊢; exact J.v j hj hj' hl'
  · rw [upd_same]
    refine ⟨w.heap.size, rfl, J.n, by simp, fun o ho => ?_⟩
    match o, ho with
    | 0, _ => exact ⟨by simp, by simp⟩
    | 1, _ => exact ⟨by simp, by simp⟩
    | 2, _ => exact ⟨by simp, by simp⟩
  · rw [upd_ne _ _ (by omega)] at hl'
    obtain ⟨a1, _, _⟩ := J.h hl'
    rw [hl] at a1; cases a1

theorem Let1.put (J : Let1 S W0 W1 N t m xs y l vs w) (htn : t ≠ m + 1) (hm : l m = true) (ht : l t = true) {n : Nat} (hn : vs m = .pointer (some ⟨n, 0, none⟩)) {v : Value} (hS : S (store3 w n y)) (h1 : W1 w → W1 (store3 w n y)) :
    Let1 S W0 W1 N t m xs y (upd l (m + 1) true) (upd vs (m + 1) v) (store3 w n y) := by
  have hsz : (store3 w n y).heap.size = w.heap.size := store3_size w n y
  obtain ⟨n', e1, e2, e3, e4⟩ := J.p hm
  have en : n' = n := by rw [hn] at e1; simpa using e1.symm
  subst en
  refine ⟨hS, fun h => ?_, fun h => ?_, by rw [hsz]; exact J.n, fun j hj hj' hl' => ?_, fun hl' => ?_, fun _ => ?_⟩
  · rw [upd_ne _ _ htn, ht] at h; cases h
  · exact h1 (J.s1 ht)
  · rw [upd_ne _ _ hj'] at hl' ⊢; exact J.v j hj hj' hl'
  · rw [upd_ne _ _ (by omega)]
    exact ⟨n', hn, e2, by rw [hsz]; exact e3, e4.store⟩
  · rw [upd_ne _ _ (by omega), upd_ne _ _ htn, upd_ne _ _ (by omega)]
    refine ⟨hm, ht, fun k hk => ?_⟩
    have ek : k = n' := by rw [hn] at hk; simpa using hk.symm
    subst ek
    exact At3.store e4

end Go.Proofs.Yteibigiehpkdjaa
