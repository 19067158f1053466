/- What stands in a segment: the mathematics. -/
import Derived.Test.YtpckbbjlihhpdaaScanM
namespace Go.Proofs.Ytpckbbjlihhpdaa

/-- Behind the base: the records, whether the seal has come, the place. -/
def walGo (l : List UInt8) (s : Bool) (n : Nat) : List (List UInt8) × Bool × Nat :=
  if _h : (openB l).2.2.2 = 0 then
    if (openB l).1 = 1 then
      let r := walGo (l.drop (openB l).2.2.1) s (n + (openB l).2.2.1)
      ((openB l).2.1 :: r.1, r.2)
    else if (openB l).1 = 3 ∧ s = false then
      walGo (l.drop (openB l).2.2.1) true (n + (openB l).2.2.1)
    else ([], s, n)
  else ([], s, n)
termination_by l.length
decreasing_by all_goals (have h9 := openB_used (by assumption : (openB l).2.2.2 = 0); rw [List.length_drop]; omega)
section
variable {l : List UInt8} {s : Bool} {n : Nat}
theorem walGo_bad (h : ¬ (openB l).2.2.2 = 0) : walGo l s n = ([], s, n) := by rw [walGo, dif_neg h]
theorem walGo_rec (h : (openB l).2.2.2 = 0) (k : (openB l).1 = 1) : walGo l s n = ((openB l).2.1 :: (walGo (l.drop (openB l).2.2.1) s (n + (openB l).2.2.1)).1, (walGo (l.drop (openB l).2.2.1) s (n + (openB l).2.2.1)).2) := by
  rw [walGo, dif_pos h, if_pos k]
theorem walGo_seal (h : (openB l).2.2.2 = 0) (k : (openB l).1 = 3) : walGo l false n = walGo (l.drop (openB l).2.2.1) true (n + (openB l).2.2.1) := by
  rw [walGo, dif_pos h, if_neg (by rw [k]; decide), if_pos ⟨k, rfl⟩]
theorem walGo_else (h : (openB l).2.2.2 = 0) (k : ¬ (openB l).1 = 1) (k3 : ¬ ((openB l).1 = 3 ∧ s = false)) : walGo l s n = ([], s, n) := by
  rw [walGo, dif_pos h, if_neg k, if_neg k3]
theorem walGo_nil : walGo [] s n = ([], s, n) := walGo_bad (by simp [openB])
end
/-- The base, the records, how many bytes; none: nothing stands there. -/
def readB (b : List UInt8) : Option (List UInt8 × List (List UInt8) × Nat) :=
  if (openB b).2.2.2 = 0 ∧ (openB b).1 = 2 then
    if (walGo (b.drop (openB b).2.2.1) false (openB b).2.2.1).2.1 = true then some ((openB b).2.1, (walGo (b.drop (openB b).2.2.1) false (openB b).2.2.1).1, (walGo (b.drop (openB b).2.2.1) false (openB b).2.2.1).2.2) else none
  else none
def recsB (rs : List (List UInt8)) : List UInt8 := rs.flatMap (sealB 1)
def framesB (base : List UInt8) (rs : List (List UInt8)) : List UInt8 := sealB 2 base ++ recsB rs ++ sealB 3 []
theorem open_at (k : UInt8) (p r : List UInt8) (hl : p.length ≤ 1048576) : (openB (sealB k p ++ r)).1 = k ∧ (openB (sealB k p ++ r)).2.1 = p ∧ (openB (sealB k p ++ r)).2.2.1 = 9 + p.length ∧ (openB (sealB k p ++ r)).2.2.2 = 0 ∧ (sealB k p ++ r).drop (9 + p.length) = r := by
  rw [openB_seal k p r hl]
  refine ⟨rfl, rfl, rfl, rfl, ?_⟩
  rw [← sealB_length k p, List.drop_left]
theorem walGo_recs : ∀ (rs : List (List UInt8)) (r : List UInt8) (s : Bool) (n : Nat), (∀ x ∈ rs, x.length ≤ 1048576) → walGo (recsB rs ++ r) s n = (rs ++ (walGo r s (n + (recsB rs).length)).1, (walGo r s (n + (recsB rs).length)).2)
  | [], r, s, n, _ => by simp [recsB]
  | x :: rs, r, s, n, h => by
    have hx := h x (by simp)
    obtain ⟨h1, h2, h3, h4, h5⟩ := open_at 1 x (recsB rs ++ r) hx
    have e : recsB (x :: rs) ++ r = sealB 1 x ++ (recsB rs ++ r) := by simp [recsB]
    have el : (recsB (x :: rs)).length = 9 + x.length + (recsB rs).length := by simp [recsB, sealB_length]
    rw [e, walGo_rec h4 h1, h2, h3, h5, walGo_recs rs r s _ (fun y hy => h y (by simp [hy])), el, show n + (9 + x.length) + (recsB rs).length = n + (9 + x.length + (recsB rs).length) by omega]
    rfl
theorem walGo_end (rs : List (List UInt8)) (s : Bool) (n : Nat) (h : ∀ x ∈ rs, x.length ≤ 1048576) : walGo (recsB rs) s n = (rs, s, n + (recsB rs).length) := by
  have := walGo_recs rs [] s n h
  rw [List.append_nil, walGo_nil, List.append_nil] at this
  exact this
/-- What was laid, and records behind it. -/
theorem readB_frames (base : List UInt8) (rs qs : List (List UInt8)) (hb : base.length ≤ 1048576) (hr : ∀ x ∈ rs, x.length ≤ 1048576) (hq : ∀ x ∈ qs, x.length ≤ 1048576) :
    readB (framesB base rs ++ recsB qs) = some (base, rs ++ qs, (framesB base rs ++ recsB qs).length) := by
  obtain ⟨h1, h2, h3, h4, h5⟩ := open_at 2 base (recsB rs ++ (sealB 3 [] ++ recsB qs)) hb
  obtain ⟨g1, g2, g3, g4, g5⟩ := open_at 3 [] (recsB qs) (by simp)
  have e : framesB base rs ++ recsB qs = sealB 2 base ++ (recsB rs ++ (sealB 3 [] ++ recsB qs)) := by simp [framesB]
  have hw : walGo (recsB rs ++ (sealB 3 [] ++ recsB qs)) false (9 + base.length) = (rs ++ qs, true, (framesB base rs ++ recsB qs).length) := by
    rw [walGo_recs rs _ false _ hr, walGo_seal g4 g1, g3, g5, walGo_end qs _ _ hq]
    simp only [framesB, List.length_append, sealB_length]
  rw [e]
  unfold readB
  rw [if_pos ⟨h4, h1⟩, h2, h3, h5, hw, ← e]
  rfl
theorem recsB_snoc (rs : List (List UInt8)) (p : List UInt8) : recsB (rs ++ [p]) = recsB rs ++ sealB 1 p := by simp [recsB]
theorem recsB_len (rs : List (List UInt8)) {k : Nat} (h : ∀ x ∈ rs, x.length ≤ k) : (recsB rs).length ≤ rs.length * (9 + k) := by
  induction rs with
  | nil => simp [recsB]
  | cons x rs ih =>
    have h1 := h x (by simp)
    have h2 := ih fun y hy => h y (by simp [hy])
    have el : (recsB (x :: rs)).length = 9 + x.length + (recsB rs).length := by simp [recsB, sealB_length]
    rw [el, List.length_cons, Nat.add_mul]
    omega
end Go.Proofs.Ytpckbbjlihhpdaa
