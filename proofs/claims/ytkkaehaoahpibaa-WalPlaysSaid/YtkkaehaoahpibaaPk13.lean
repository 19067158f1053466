/- The log's frames: with, frames. -/
import Derived.Test.YtkkaehaoahpibaaPk12
import Derived.Test.YtkkaehaoahpibaaPk1
import Derived.Deep.AppendLies
import Derived.Test.YtkkaehaoahpibaaPk11
namespace Go.Proofs.Ytkkaehaoahpibaa

/-- Behind the base: the records, whether the seal has come, the place. -/
def walGo (l : List UInt8) (s : Bool) (n : Nat) : List (List UInt8) × Bool × Nat :=
  if _h : (openB l).2.2.2 = 0 then
    if (openB l).1 = 1 then
      let r := walGo (l.drop (openB l).2.2.1) s (n + (openB l).2.2.1)
      ((openB l).2.1 :: r.1, r.2)
    else if (openB l).1 = 3 ∧ s = false then
      walGo (l.drop (openB l).2.2.1) true (n + (openB l).2.2.1)
    else ([], s, n)
  else ([], s, n)
termination_by l.length
decreasing_by all_goals (have h9 := openB_used (by assumption : (openB l).2.2.2 = 0); rw [List.length_drop]; omega)
section
variable {l : List UInt8} {s : Bool} {n : Nat}
theorem walGo_bad (h : ¬ (openB l).2.2.2 = 0) : walGo l s n = ([], s, n) := by rw [walGo, dif_neg h]
theorem walGo_rec (h : (openB l).2.2.2 = 0) (k : (openB l).1 = 1) : walGo l s n = ((openB l).2.1 :: (walGo (l.drop (openB l).2.2.1) s (n + (openB l).2.2.1)).1, (walGo (l.drop (openB l).2.2.1) s (n + (openB l).2.2.1)).2) := by
  rw [walGo, dif_pos h, if_pos k]
theorem walGo_seal (h : (openB l).2.2.2 = 0) (k : (openB l).1 = 3) : walGo l false n = walGo (l.drop (openB l).2.2.1) true (n + (openB l).2.2.1) := by
  rw [walGo, dif_pos h, if_neg (by rw [k]; decide), if_pos ⟨k, rfl⟩]
theorem walGo_else (h : (openB l).2.2.2 = 0) (k : ¬ (openB l).1 = 1) (k3 : ¬ ((openB l).1 = 3 ∧ s = false)) : walGo l s n = ([], s, n) := by
  rw [walGo, dif_pos h, if_neg k, if_neg k3]
theorem walGo_nil : walGo [] s n = ([], s, n) := walGo_bad (by simp [openB])
end
/-- The base, the records, how many bytes; none: nothing stands there. -/
def readB (b : List UInt8) : Option (List UInt8 × List (List UInt8) × Nat) :=
  if (openB b).2.2.2 = 0 ∧ (openB b).1 = 2 then
    if (walGo (b.drop (openB b).2.2.1) false (openB b).2.2.1).2.1 = true then some ((openB b).2.1, (walGo (b.drop (openB b).2.2.1) false (openB b).2.2.1).1, (walGo (b.drop (openB b).2.2.1) false (openB b).2.2.1).2.2) else none
  else none
def recsB (rs : List (List UInt8)) : List UInt8 := rs.flatMap (sealB 1)
def framesB (base : List UInt8) (rs : List (List UInt8)) : List UInt8 := sealB 2 base ++ recsB rs ++ sealB 3 []
theorem open_at (k : UInt8) (p r : List UInt8) (hl : p.length ≤ 1048576) : (openB (sealB k p ++ r)).1 = k ∧ (openB (sealB k p ++ r)).2.1 = p ∧ (openB (sealB k p ++ r)).2.2.1 = 9 + p.length ∧ (openB (sealB k p ++ r)).2.2.2 = 0 ∧ (sealB k p ++ r).drop (9 + p.length) = r := by
  rw [openB_seal k p r hl]
  refine ⟨rfl, rfl, rfl, rfl, ?_⟩
  rw [← sealB_length k p, List.drop_left]
theorem walGo_recs : ∀ (rs : List (List UInt8)) (r : List UInt8) (s : Bool) (n : Nat), (∀ x ∈ rs, x.length ≤ 1048576) → walGo (recsB rs ++ r) s n = (rs ++ (walGo r s (n + (recsB rs).length)).1, (walGo r s (n + (recsB rs).length)).2)
  | [], r, s, n, _ => by simp [recsB]
  | x :: rs, r, s, n, h => by
    have hx := h x (by simp)
    obtain ⟨h1, h2, h3, h4, h5⟩ := open_at 1 x (recsB rs ++ r) hx
    have e : recsB (x :: rs) ++ r = sealB 1 x ++ (recsB rs ++ r) := by simp [recsB]
    have el : (recsB (x :: rs)).length = 9 + x.length + (recsB rs).length := by simp [recsB, sealB_length]
    rw [e, walGo_rec h4 h1, h2, h3, h5, walGo_recs rs r s _ (fun y hy => h y (by simp [hy])), el, show n + (9 + x.length) + (recsB rs).length = n + (9 + x.length + (recsB rs).length) by omega]
    rfl
theorem walGo_end (rs : List (List UInt8)) (s : Bool) (n : Nat) (h : ∀ x ∈ rs, x.length ≤ 1048576) : walGo (recsB rs) s n = (rs, s, n + (recsB rs).length) := by
  have := walGo_recs rs [] s n h
  rw [List.append_nil, walGo_nil, List.append_nil] at this
  exact this
/-- What was laid, and records behind it. -/
theorem readB_frames (base : List UInt8) (rs qs : List (List UInt8)) (hb : base.length ≤ 1048576) (hr : ∀ x ∈ rs, x.length ≤ 1048576) (hq : ∀ x ∈ qs, x.length ≤ 1048576) :
    readB (framesB base rs ++ recsB qs) = some (base, rs ++ qs, (framesB base rs ++ recsB qs).length) := by
  obtain ⟨h1, h2, h3, h4, h5⟩ := open_at 2 base (recsB rs ++ (sealB 3 [] ++ recsB qs)) hb
  obtain ⟨g1, g2, g3, g4, g5⟩ := open_at 3 [] (recsB qs) (by simp)
  have e : framesB base rs ++ recsB qs = sealB 2 base ++ (recsB rs ++ (sealB 3 [] ++ recsB qs)) := by simp [framesB]
  have hw : walGo (recsB rs ++ (sealB 3 [] ++ recsB qs)) false (9 + base.length) = (rs ++ qs, true, (framesB base rs ++ recsB qs).length) := by
    rw [walGo_recs rs _ false _ hr, walGo_seal g4 g1, g3, g5, walGo_end qs _ _ hq]
    simp only [framesB, List.length_append, sealB_length]
  rw [e]
  unfold readB
  rw [if_pos ⟨h4, h1⟩, h2, h3, h5, hw, ← e]
  rfl
theorem recsB_snoc (rs : List (List UInt8)) (p : List UInt8) : recsB (rs ++ [p]) = recsB rs ++ sealB 1 p := by simp [recsB]
theorem recsB_len (rs : List (List UInt8)) {k : Nat} (h : ∀ x ∈ rs, x.length ≤ k) : (recsB rs).length ≤ rs.length * (9 + k) := by
  induction rs with
  | nil => simp [recsB]
  | cons x rs ih =>
    have h1 := h x (by simp)
    have h2 := ih fun y hy => h y (by simp [hy])
    have el : (recsB (x :: rs)).length = 9 + x.length + (recsB rs).length := by simp [recsB, sealB_length]
    rw [el, List.length_cons, Nat.add_mul]
    omega
end Go.Proofs.Ytkkaehaoahpibaa
namespace Go.Proofs.Ytkkaehaoahpibaa

def walP : List (UInt8 × List UInt8) → Bool → Nat → List (List UInt8) × Bool × Nat
  | [], s, n => ([], s, n)
  | (k, p) :: r, s, n => if k = 1 then (p :: (walP r s (n + (9 + p.length))).1, (walP r s (n + (9 + p.length))).2) else if k = 3 ∧ s = false then walP r true (n + (9 + p.length)) else ([], s, n)
theorem walGo_P : ∀ (m : Nat) (l : List UInt8) (s : Bool) (n : Nat), l.length ≤ m → walGo l s n = walP (scanB l).1 s n
  | 0, l, s, n, h => by
    have : l = [] := List.eq_nil_of_length_eq_zero (by omega)
    subst this
    rw [walGo_nil, scanB_nil]
    rfl
  | m + 1, l, s, n, h => by
    by_cases h0 : (openB l).2.2.2 = 0
    · have hu := openB_used h0
      have hd : (l.drop (openB l).2.2.1).length ≤ m := by rw [List.length_drop]; omega
      have e9 : (openB l).2.2.1 = 9 + (openB l).2.1.length := hu.2.2.2
      rw [scanB_ok h0]
      simp only [walP]
      rw [← e9]
      by_cases h1 : (openB l).1 = 1
      · rw [walGo_rec h0 h1, if_pos h1, walGo_P m _ s _ hd]
      · rw [if_neg h1]
        by_cases h3 : (openB l).1 = 3 ∧ s = false
        · rw [if_pos h3]
          obtain ⟨h3, rfl⟩ := h3
          rw [walGo_seal h0 h3, walGo_P m _ true _ hd]
        · rw [walGo_else h0 h1 h3, if_neg h3]
    · rw [walGo_bad h0, scanB_no h0]
      rfl
/-- The same by the frames. -/
def readP : List (UInt8 × List UInt8) → Option (List UInt8 × List (List UInt8) × Nat)
  | [] => none
  | (k, p) :: r => if k = 2 then (if (walP r false (9 + p.length)).2.1 = true then some (p, (walP r false (9 + p.length)).1, (walP r false (9 + p.length)).2.2) else none) else none
theorem readB_P (b : List UInt8) : readB b = readP (scanB b).1 := by
  unfold readB
  by_cases h0 : (openB b).2.2.2 = 0
  · have hu := openB_used h0
    have e9 : (openB b).2.2.1 = 9 + (openB b).2.1.length := hu.2.2.2
    rw [scanB_ok h0]
    simp only [readP]
    by_cases h2 : (openB b).1 = 2
    · rw [if_pos ⟨h0, h2⟩, if_pos h2, walGo_P _ _ false _ (Nat.le_refl _), e9]
    · rw [if_neg (fun h => h2 h.2), if_neg h2]
  · rw [if_neg (fun h => h0 h.1), scanB_no h0]
    rfl
/-- Behind some frames: the records so far, the seal, the place. -/
structure Sp (ps : List (UInt8 × List UInt8)) (i : Nat) (s : Bool) (n : Nat) (rs : List (List UInt8)) (r : List (UInt8 × List UInt8)) (n0 : Nat) : Prop where
  eq : walP r false n0 = (rs ++ (walP (ps.drop i) s n).1, (walP (ps.drop i) s n).2)
section
variable {ps r : List (UInt8 × List UInt8)} {i n n0 : Nat} {s : Bool} {rs : List (List UInt8)} {k : UInt8} {p : List UInt8}
theorem Sp.rec_ (h : Sp ps i s n rs r n0) (hi : ps[i]? = some (k, p)) (hk : k = 1) : Sp ps (i + 1) s (n + (9 + p.length)) (rs ++ [p]) r n0 := by
  obtain ⟨hl, he⟩ := List.getElem?_eq_some_iff.1 hi
  have hd : ps.drop i = (k, p) :: ps.drop (i + 1) := by rw [List.drop_eq_getElem_cons hl, he]
  have h1 := h.eq
  rw [hd] at h1
  simp only [walP, if_pos hk] at h1
  exact ⟨by rw [h1]; simp⟩
theorem Sp.seal_ (h : Sp ps i false n rs r n0) (hi : ps[i]? = some (k, p)) (hk : k = 3) : Sp ps (i + 1) true (n + (9 + p.length)) rs r n0 := by
  obtain ⟨hl, he⟩ := List.getElem?_eq_some_iff.1 hi
  have hd : ps.drop i = (k, p) :: ps.drop (i + 1) := by rw [List.drop_eq_getElem_cons hl, he]
  have h1 := h.eq
  rw [hd] at h1
  subst hk
  simp only [walP] at h1
  rw [if_neg (by decide), if_pos (by simp)] at h1
  exact ⟨h1⟩
theorem Sp.stop (h : Sp ps i s n rs r n0) (hi : ps[i]? = some (k, p)) (h1 : ¬ k = 1) (h3 : ¬ (k = 3 ∧ s = false)) : walP r false n0 = (rs, s, n) := by
  obtain ⟨hl, he⟩ := List.getElem?_eq_some_iff.1 hi
  have hd : ps.drop i = (k, p) :: ps.drop (i + 1) := by rw [List.drop_eq_getElem_cons hl, he]
  have h2 := h.eq
  rw [hd] at h2
  simp only [walP, if_neg h1, if_neg h3, List.append_nil] at h2
  exact h2
theorem Sp.done (h : Sp ps i s n rs r n0) (hi : ps.length ≤ i) : walP r false n0 = (rs, s, n) := by
  have h2 := h.eq
  rw [List.drop_eq_nil_of_le hi] at h2
  simpa [walP] using h2
end
end Go.Proofs.Ytkkaehaoahpibaa
namespace Go.Proofs.Ytkkaehaoahpibaa
open Go.RowKit

/-- The slice at A with capacity cap reads as the pieces ps, in memory below block K. -/
structure Rr (w : World) (K : Nat) (A : Option Addr) (cap : Nat) (ps : List (List UInt8)) : Prop where
  le : ps.length ≤ cap
  max : cap ≤ maxLen
  nil : A = none → cap = 0
  at_ : 0 < ps.length → ∃ ad : Addr, A = some ad ∧ ad.block < K ∧ ∀ (i : Nat) p, ps[i]? = some p → ∃ A' cap', w.cell? (ad.add i) = some (.slice A' p.length cap') ∧ Bs w K A' cap' p

/-- v is a slice of the call's own (blocks from K on, elements of type T) that holds the pieces ps. -/
def Rw (w : World) (K : Nat) (T : TypeId) (v : Value) (ps : List (List UInt8)) : Prop :=
  ∃ xs : List Value, w.ownsRow K T 1 v ps.length xs ∧ ∀ (i : Nat) p, ps[i]? = some p → ∃ A cap, xs[i]? = some (.slice A p.length cap) ∧ Bs w w.heap.size A cap p ∧ ∀ ad : Addr, A = some ad → 0 < p.length → K ≤ ad.block ∧ v.ownBlock ≠ some ad.block

section
variable {w w' : World} {K K' cap : Nat} {A : Option Addr} {ps : List (List UInt8)}
theorem Rr.keep (h : Rr w K A cap ps) (hk : ∀ p : Addr, p.block < K → w'.cell? p = w.cell? p) : Rr w' K A cap ps :=
  ⟨h.le, h.max, h.nil, fun hn => by
    obtain ⟨ad, e, hb, hc⟩ := h.at_ hn
    refine ⟨ad, e, hb, fun i p hi => ?_⟩
    obtain ⟨A', c', h2, h3⟩ := hc i p hi
    exact ⟨A', c', (hk _ (by rw [block_of_add]; exact hb)).trans h2, h3.keep hk⟩⟩
theorem Rr.below (h : Rr w K A cap ps) (hb : Below K w w') : Rr w' K A cap ps := h.keep fun _ hp => hb.cell hp
theorem Rr.more (h : Rr w K A cap ps) (hK : K ≤ K') : Rr w K' A cap ps :=
  ⟨h.le, h.max, h.nil, fun hn => by
    obtain ⟨ad, e, hb, hc⟩ := h.at_ hn
    refine ⟨ad, e, by omega, fun i p hi => ?_⟩
    obtain ⟨A', c', h2, h3⟩ := hc i p hi
    exact ⟨A', c', h2, h3.more hK⟩⟩
theorem Rr.drewN (h : Rr w K A cap ps) (n : Nat) : Rr (w.drewN n) K A cap ps := h.keep fun _ _ => rfl
theorem Rr.get (h : Rr w K A cap ps) {i : Nat} (hi : i < ps.length) : ∃ ad : Addr, A = some ad ∧ ad.block < K ∧ ∃ A' cap', w.cell? (ad.add i) = some (.slice A' ps[i].length cap') ∧ Bs w K A' cap' ps[i] := by
  obtain ⟨ad, e, hb, hc⟩ := h.at_ (by omega)
  exact ⟨ad, e, hb, hc i ps[i] (List.getElem?_eq_getElem hi)⟩
theorem Rr.to (h : Rr w K A cap ps) {j : Nat} (hj : j ≤ ps.length) : Rr w K A cap (ps.take j) := by
  have hle := h.le
  have hlen : (ps.take j).length = j := by simp; omega
  refine ⟨by omega, h.max, h.nil, fun hn => ?_⟩
  obtain ⟨ad, e, hb, hc⟩ := h.at_ (by omega)
  refine ⟨ad, e, hb, fun i p hi => hc i p ?_⟩
  rw [List.getElem?_take] at hi
  split at hi
  · exact hi
  · cases hi
theorem Rr.alloc (h : Rr w K A cap ps) (hK : K ≤ w.heap.size) (o : Obj) : Rr (w.alloc o) K A cap ps := h.keep fun _ hp => World.cell?_alloc_lt _ _ _ (by omega)

variable {T : TypeId} {v : Value}
theorem Rw.empty (w : World) (K : Nat) (T : TypeId) : Rw w K T (.slice none 0 0) [] := ⟨[], World.ownsRow_nil w K _ _, fun i p h => by simp at h⟩
theorem Rw.below (h : Rw w K T v ps) (hb : Below w.heap.size w w') : Rw w' K T v ps := by
  obtain ⟨xs, ho, hx⟩ := h
  refine ⟨xs, World.ownsRow.kept (row := none) ho ⟨hb.os, hb.tape, hb.output, hb.size, fun k hk _ => hb.block k hk⟩ (by cases h' : v.ownBlock <;> simp), fun i p hi => ?_⟩
  obtain ⟨A, c, h2, h3, h4⟩ := hx i p hi
  exact ⟨A, c, h2, (h3.below hb).more hb.size, h4⟩
theorem Rw.more (h : Rw w K T v ps) (hK : K' ≤ K) : Rw w K' T v ps := by
  obtain ⟨xs, ho, hx⟩ := h
  refine ⟨xs, ?_, fun i p hi => ?_⟩
  · rcases ho.2 with ⟨he, h0⟩ | ⟨g, cap', cur, he, hb, hg⟩
    · exact ⟨ho.1, .inl ⟨he, h0⟩⟩
    · exact ⟨ho.1, .inr ⟨g, cap', cur, he, by omega, hg⟩⟩
  · obtain ⟨A, c, h2, h3, h4⟩ := hx i p hi
    exact ⟨A, c, h2, h3, fun ad e hl => ⟨Nat.le_trans hK (h4 ad e hl).1, (h4 ad e hl).2⟩⟩
theorem Rw.lt (h : Rw w K T v ps) : ∀ k, v.ownBlock = some k → K ≤ k ∧ k < w.heap.size := by
  obtain ⟨xs, ho, _⟩ := h
  exact World.ownsRow.lt ho
theorem Rw.pr {n : Nat} (h : Rw w K T (.slice A n cap) ps) : Rr w w.heap.size A cap ps ∧ ps.length = n := by
  obtain ⟨xs, ho, hx⟩ := h
  rcases ho.2 with ⟨he, h0⟩ | ⟨g, cap', cur, he, hb, hg, hn, hc, hs, ht⟩
  · injection he with h1 h2 h3
    subst h1 h2 h3
    exact ⟨⟨by omega, Nat.zero_le _, fun _ => rfl, fun h => absurd h (by omega)⟩, h0⟩
  · injection he with h1 h2 h3
    subst h1 h3
    refine ⟨⟨hn, hc, (fun h => by cases h), fun hl => ⟨_, rfl, ?_, fun i p hi => ?_⟩⟩, h2.symm⟩
    · rcases Nat.lt_or_ge g w.heap.size with hlt | hge
      · exact hlt
      · rw [Array.getElem?_eq_none hge] at hg; cases hg
    · obtain ⟨A, c, h2, h3, _⟩ := hx i p hi
      exact ⟨A, c, ho.cells (g := g) rfl _ _ h2, h3⟩
theorem Rw.form (h : Rw w K T v ps) : ∃ A cap, v = .slice A ps.length cap := by
  obtain ⟨xs, ho, _⟩ := h
  rcases ho.2 with ⟨he, h0⟩ | ⟨g, cap', cur, he, _⟩
  · exact ⟨none, 0, by rw [he, h0]⟩
  · exact ⟨_, _, he⟩
theorem Rw.alloc (h : Rw w K T v ps) (o : Obj) : Rw (w.alloc o) K T v ps := h.below ((Below.refl _ _).alloc (Nat.le_refl _) o)
/-- All of it outlives a turn of other blocks. -/
theorem Rw.tn {P : Nat → Prop} (h : Rw w K T v ps) (t : Tn P w w') (hn : ∀ k, K ≤ k → ¬ P k) : Rw w' K T v ps := by
  obtain ⟨xs, ho, hx⟩ := h
  have hlt := World.ownsRow.lt ho
  refine ⟨xs, ?_, fun i p hi => ?_⟩
  · rcases ho.2 with ⟨he, h0⟩ | ⟨g, cap', cur, he, hb', hg, hrest⟩
    · exact ⟨ho.1, .inl ⟨he, h0⟩⟩
    · subst he
      have h9 := hlt g rfl
      exact ⟨ho.1, .inr ⟨g, cap', cur, rfl, hb', (t.block g h9.2 (hn g h9.1)).trans hg, hrest⟩⟩
  · obtain ⟨A, c, h2, h3, h4⟩ := hx i p hi
    exact ⟨A, c, h2, (t.bs h3 fun hl ad e => hn _ (h4 ad e hl).1).more t.size, h4⟩
/-- One piece more, at the law that append obeys. -/
theorem Rw.push {v' : Value} {w1 : World} {p : List UInt8} {B : Option Addr} {c : Nat} {xs : List Value} (h : w.ownsRow K T 1 v ps.length xs)
    (hx : ∀ (i : Nat) p, ps[i]? = some p → ∃ A cap, xs[i]? = some (.slice A p.length cap) ∧ Bs w w.heap.size A cap p ∧ ∀ ad : Addr, A = some ad → 0 < p.length → K ≤ ad.block ∧ v.ownBlock ≠ some ad.block)
    (hb : Bs w w.heap.size B c p) (hne : ∀ ad : Addr, B = some ad → 0 < p.length → K ≤ ad.block ∧ v.ownBlock ≠ some ad.block)
    (hown : w1.ownsRow K T 1 v' (ps.length + 1) (xs ++ [.slice B p.length c])) (hgrow : w.grownBy w1 v.ownBlock) (hat : ∀ g, v'.ownBlock = some g → v.ownBlock = some g ∨ w.heap.size ≤ g) : Rw w1 K T v' (ps ++ [p]) := by
  have hxl : xs.length = ps.length := by have := h.1; omega
  have far : ∀ {A : Option Addr} {cap : Nat} {q : List UInt8}, Bs w w.heap.size A cap q → (∀ ad : Addr, A = some ad → 0 < q.length → K ≤ ad.block ∧ v.ownBlock ≠ some ad.block) → (Bs w1 w1.heap.size A cap q ∧ ∀ ad : Addr, A = some ad → 0 < q.length → K ≤ ad.block ∧ v'.ownBlock ≠ some ad.block) := fun {A cap q} hq hn => by
    refine ⟨⟨hq.le, hq.max, hq.nil, fun hl => ?_⟩, fun ad e hl => ⟨(hn ad e hl).1, fun he => ?_⟩⟩
    · obtain ⟨ad, e, hlt, hc⟩ := hq.at_ hl
      exact ⟨ad, e, Nat.lt_of_lt_of_le hlt hgrow.size, fun j u hu => (hgrow.cell_far _ (by rw [block_of_add]; exact hlt) (by rw [block_of_add]; exact fun e' => (hn ad e hl).2 e'.symm)).trans (hc j u hu)⟩
    · obtain ⟨ad', e', hlt, _⟩ := hq.at_ hl
      rw [e] at e'
      cases e'
      rcases hat _ he with h' | h'
      · exact (hn ad e hl).2 h'
      · omega
  refine ⟨xs ++ [.slice B p.length c], by rw [List.length_append]; exact hown, fun i p' hi => ?_⟩
  rcases Nat.lt_or_ge i ps.length with hlt | hge
  · rw [List.getElem?_append_left hlt] at hi
    obtain ⟨A, cp, h2, h3, h4⟩ := hx i p' hi
    obtain ⟨f1, f2⟩ := far h3 h4
    rw [List.getElem?_append_left (by omega)]
    exact ⟨A, cp, h2, f1, f2⟩
  · have hil : i = ps.length := by
      have := (List.getElem?_eq_some_iff.1 hi).1
      simp at this; omega
    subst hil
    simp at hi
    subst hi
    obtain ⟨f1, f2⟩ := far hb hne
    rw [List.getElem?_append_right (by omega), hxl]
    exact ⟨B, c, by simp, f1, f2⟩
end

section
variable {P : Program}
theorem wpList_pushR {T ST : TypeId} (hund : P.underlying ST = some (.slice T)) {z : Value} (hinfo : (P.info? T).map (fun i => (i.zero, i.size, i.bytes)) = some (some z, 1, 24)) (hz : z.cells.size = 1)
    {ops : Array Oper} {rest : List Oper} {o : Oper} {a : Act} {Q : Exit → Act → World → Prop} (w : World) (hgd : o.guard = none) (s x : Operand)
    (ho : o.op = .call { callee := .builtin .append, args := #[s, x], argTypes := #[ST, ST] }) (K : Nat) (v : Value) (ps : List (List UInt8)) (hs : a.eval s = v) (hown : Rw w K T v ps)
    (p : List UInt8) (B : Option Addr) (c H : Nat) (hH : w.heap.size = H) (hxx : a.eval x = .slice (some ⟨H, 0, none⟩) 1 1) (hb : Bs w w.heap.size B c p) (hne : ∀ ad : Addr, B = some ad → 0 < p.length → K ≤ ad.block ∧ v.ownBlock ≠ some ad.block)
    (N : Nat) (hN : ps.length + 1 = N) (hsz : N * 24 ≤ 140737488355328) (hK : K ≤ H)
    (h : ∀ A' cap' w', Rw w' K T (.slice A' N cap') (ps ++ [p]) → w.grownBy w' v.ownBlock → (∀ g, (Value.slice A' N cap').ownBlock = some g → v.ownBlock = some g ∨ w.heap.size ≤ g) → wpList P ops Q rest (a.put o.dst (.slice A' N cap')) w') :
    wpList P ops Q (o :: rest) a (w.alloc (.cells #[.slice B p.length c] T)) := by
  subst hH hN
  obtain ⟨xs, hx1, hx2⟩ := hown
  obtain ⟨i0, hi, hz0, hz1, hz2⟩ := info_parts hinfo
  refine wpList_append_lies _ hgd s x ST ho K T i0 z 1 24 hund hi hz0 hz1 hz2 hz (by decide) v ps.length xs hs (World.ownsRow.alloc hx1 _) ⟨w.heap.size, 0, none⟩ 1 1 [.slice B p.length c] hxx rfl
    (World.news_of_block (heap_alloc_new w _)) (by intro u hu; simp at hu; subst hu; rfl) (by omega) (by unfold maxLen; omega) hsz (by simp; omega) _ rfl ?_
  intro g cap w1 hown1 hgrow1 hat1 hlt1
  have hg : w.grownBy w1 v.ownBlock := ⟨hgrow1.os, hgrow1.tape, hgrow1.output, Nat.le_trans (by simp) hgrow1.size, fun i hi hne => (hgrow1.block i (by simp; omega) hne).trans (Below.heap_alloc w _ i hi)⟩
  have hat2 : ∀ g', (Value.slice (some ⟨g, 0, none⟩) (ps.length + 1) cap).ownBlock = some g' → v.ownBlock = some g' ∨ w.heap.size ≤ g' := fun g' hg' => by
    have : g' = g := by simpa [Value.ownBlock] using hg'.symm
    subst this
    rcases hat1 with h1 | h1
    · exact .inl h1
    · right; rw [h1]; simp
  exact h _ _ w1 (Rw.push hx1 hx2 hb hne hown1 hg hat2) hg hat2
end
end Go.Proofs.Ytkkaehaoahpibaa
namespace Go.Proofs.Ytkkaehaoahpibaa
open Go.RowKit Go.BigFrame

set_option maxRecDepth 100000 in
set_option maxHeartbeats 1600000 in
theorem with_any (k : UInt8) (K K' : Nat) (B : Option Addr) (nB cB : Nat) (lb : List UInt8) (hnB : lb.length = nB) (A : Option Addr) (c : Nat) (p : List UInt8) (w : World) (ho : Ob w K (.slice B nB cB) lb) (hK : K ≤ w.heap.size) (hp : Bs w K' A c p) (hK' : K' ≤ w.heap.size) (hl : p.length ≤ 1048576) (hsz : nB + (9 + p.length) ≤ 140737488355328) :
    Calls Try.prog 38 #[.slice B nB cB, bv k, .slice A p.length c] w fun e w' => ∃ A' c', e = .returned (.slice A' (nB + (9 + p.length)) c') ∧ Ob w' K (.slice A' (nB + (9 + p.length)) c') (lb ++ sealB k p) ∧ Below K w w' := by
  subst hnB
  have HS := Lib.hid (seal_ok k K' A c p w hp hK' hl)
  have hbl := ho.bs.1.le
  have hbm := ho.bs.1.max
  unfold maxLen at hbm
  have HO := Lib.hid ho
  have hsl := sealB_length k p
  clear hp ho
  go_enter Try.func38, Try.ntmps38
  go_wp2_with (first
    | (go_at_call 56; refine HS.out.mono ?_; rintro e w1 ⟨A1, c1, rfl, ho1, hb1⟩; have z1 := hb1.size)
    | (at_builtin; refine wpList_app _ rfl (.tmp 15) (.tmp 16) rfl K (.slice B lb.length cB) lb rfl (HO.out.below hb1) A1 (9 + p.length) c1 (sealB k p) rfl hsl w1.heap.size ho1.bs.1 (lb.length + (9 + p.length)) (by rw [hsl]) (by omega) (by omega) ?_; intro A2 c2 w2 ho2 gr2 at2; have B2 : Below K w w2 := grown_below (hb1.mono hK) gr2 (by omega) (fun _ h => (HO.out.lt _ h).1)))
  go_ret
  exact ⟨A2, c2, rfl, ho2, B2⟩
theorem recsB_take (rs : List (List UInt8)) {i : Nat} (h : i < rs.length) : recsB (rs.take (i + 1)) = recsB (rs.take i) ++ sealB 1 rs[i] := by
  rw [List.take_add_one, List.getElem?_eq_getElem h]
  exact recsB_snoc _ _
theorem recsB_le (rs : List (List UInt8)) (i : Nat) : (recsB (rs.take i)).length ≤ (recsB rs).length := by
  conv => rhs; rw [← List.take_append_drop i rs]
  unfold recsB
  rw [List.flatMap_append, List.length_append]
  omega
theorem framesB_len (base : List UInt8) (rs : List (List UInt8)) : (framesB base rs).length = 9 + base.length + (recsB rs).length + 9 := by simp [framesB, sealB_length]; omega
set_option maxRecDepth 100000 in
set_option maxHeartbeats 1600000 in
theorem frames_any (K : Nat) (A1 : Option Addr) (c1 : Nat) (base : List UInt8) (A2 : Option Addr) (c2 : Nat) (rs : List (List UInt8)) (w : World) (hb : Bs w K A1 c1 base) (hr : Rr w K A2 c2 rs) (hK : K ≤ w.heap.size) (hl : base.length ≤ 1048576) (hrl : ∀ x ∈ rs, x.length ≤ 1048576) (hsz : (framesB base rs).length ≤ 140737488355328) :
    Calls Try.prog 43 #[.agg #[.slice A1 base.length c1, .slice A2 rs.length c2]] w (NewBytes w (framesB base rs)) := by
  have hbl := hb.le
  have hbm := hb.max
  unfold maxLen at hbm
  have hrle := hr.le
  have hrm := hr.max
  unfold maxLen at hrm
  rw [framesB_len] at hsz
  have hw1 : Below K w (w.alloc (.cells #[.slice A1 base.length c1, .slice A2 rs.length c2] 69)) := (Below.refl _ _).alloc hK _
  have hw2 : Below (w.heap.size) w (w.alloc (.cells #[.slice A1 base.length c1, .slice A2 rs.length c2] 69)) := (Below.refl _ _).alloc (Nat.le_refl _) _
  have H1 := Lib.hid (with_any 2 (w.heap.size + 1) K none 0 0 [] rfl A1 c1 base _ (Ob.empty (w.alloc (.cells #[.slice A1 base.length c1, .slice A2 rs.length c2] 69)) _) (by simp) (hb.below hw1) (by simp; omega) hl (by simp; omega))
  have HR := Lib.hid hr
  have HW1 := Lib.hid hw1
  have HW2 := Lib.hid hw2
  clear hb hr hw1 hw2
  go_enter Try.func43, Try.ntmps43
  go_wp2_with (go_at_call 38; refine H1.out.mono ?_; rintro e w1 ⟨A3, c3, rfl, ho1, hb1⟩; have y0 := hb1.cell (p := ⟨w.heap.size, 0, none⟩) (Nat.lt_succ_self _); have y1 := hb1.cell (p := ⟨w.heap.size, 1, none⟩) (Nat.lt_succ_self _); simp [go_sem] at y0 y1; have z1 := hb1.size; simp at z1; have HO1 := Lib.hid ho1; have HB1 := Lib.hid hb1; clear ho1 hb1)
  go_loopw [12, 3] (fun iv bw wr => ∃ (i : Nat) (A' : Option Addr) (N c' : Nat), iv = .int .i64 (i : Int) ∧ bw = .slice A' N c' ∧ N = 9 + base.length + (recsB (rs.take i)).length ∧ i ≤ rs.length ∧ Hid (Ob wr (w.heap.size + 1) (.slice A' N c') (sealB 2 base ++ recsB (rs.take i))) ∧ Hid (Below (w.heap.size + 1) w1 wr)) (fun iv _ _ => rs.length - (intOf iv).toNat)
  case atStart => exact ⟨0, A3, _, c3, rfl, rfl, by simp [recsB], Nat.zero_le _, by simpa [recsB] using HO1, Lib.hid (Below.refl _ _)⟩
  case round =>
    obtain ⟨i, A4, N, c4, rfl, rfl, hN, hi, HO, HB⟩ := hrel
    rename World => wr
    have hzr := HB.out.size
    have hall : Below w.heap.size w wr := (HW2.out.trans ((HB1.out.trans HB.out).mono (by simp)))
    have HALL := Lib.hid hall
    have hle2 := recsB_le rs i
    have hlen : (sealB 2 base ++ recsB (rs.take i)).length = 9 + base.length + (recsB (rs.take i)).length := by rw [List.length_append, sealB_length]
    clear hall
    by_cases hlt : i < rs.length
    · obtain ⟨ad, e2, had, A5, c5, x5, bs5⟩ := (HR.out.below (HALL.out.mono hK)).get hlt
      subst e2
      have i1 : (i : Int) < rs.length := by omega
      have hx := hrl rs[i] (List.getElem_mem hlt)
      have htk := recsB_take rs hlt
      have hle3 := recsB_le rs (i + 1)
      rw [htk, List.length_append, sealB_length] at hle3
      have H2 := Lib.hid (with_any 1 (w.heap.size + 1) K A4 N c4 _ (by omega) A5 c5 rs[i] wr HO.out (by omega) bs5 (by omega) hx (by omega))
      have HTK := Lib.hid htk
      generalize rs[i] = q at x5 H2 HTK
      have HN2 : Hid (N + (9 + q.length) = 9 + base.length + (recsB (rs.take (i + 1))).length) := Lib.hid (by rw [HTK.out, List.length_append, sealB_length]; omega)
      clear bs5 hx htk hle3 hlen hle2 hN
      go_wp2_with (go_at_call 38; refine H2.out.mono ?_; rintro e w2 ⟨A6, c6, rfl, ho2, hb2⟩)
      go_roundw
      case rel => exact ⟨i + 1, A6, _, c6, by go_num, rfl, HN2.out, hlt, Lib.hid (by rw [HTK.out, ← List.append_assoc]; exact ho2), Lib.hid (HB.out.trans hb2)⟩
      case measure => simp [intOf]; omega
    · obtain rfl : i = rs.length := by omega
      have hst : (sealB 2 base ++ recsB (rs.take rs.length)) = sealB 2 base ++ recsB rs := by rw [List.take_length]
      rw [hst] at HO hlen
      rw [List.take_length] at hlen hN
      have H3 := Lib.hid (with_any 3 (w.heap.size + 1) 0 A4 N c4 _ (by omega) none 0 [] wr HO.out (by omega) ⟨Nat.le_refl _, Nat.zero_le _, fun _ => rfl, fun h => absurd h (by simp)⟩ (Nat.zero_le _) (by simp) (by simp only [List.length_nil]; omega))
      have HF : Hid ((framesB base rs).length = N + 9) := Lib.hid (by rw [framesB_len]; omega)
      clear hlen hle2 hN
      go_wp2_with (go_at_call 38; refine H3.out.mono ?_; rintro e w2 ⟨A6, c6, rfl, ho2, hb2⟩)
      go_ret
      refine ⟨A6, c6, by rw [HF.out]; rfl, ?_, HALL.out.trans (hb2.mono (by simp))⟩
      rw [HF.out]
      exact ho2.more (by simp)
end Go.Proofs.Ytkkaehaoahpibaa
