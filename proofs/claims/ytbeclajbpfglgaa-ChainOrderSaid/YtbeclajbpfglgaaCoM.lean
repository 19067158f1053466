/- Versions exchanged in place; the order in which versions are put. -/
import Derived.Test.YtbeclajbpfglgaaCPuts
import Derived.Test.YtbeclajbpfglgaaChN
namespace Go.Proofs.Ytbeclajbpfglgaa
open Go.RowKit

theorem flat_setV (x : Ve) : ∀ (l : List Ve) (i : Nat), ((((((l.flatMap encV).set (i * 6) (.int .i64 x.w)).set (i * 6 + 1) (.int .u32 x.t)).set (i * 6 + 2) (.int .u32 x.m)).set (i * 6 + 3) (.int .i64 x.k)).set (i * 6 + 4) (.int .i64 x.n)).set (i * 6 + 5) (.string x.x) = (l.set i x).flatMap encV
  | [], i => by simp
  | y :: l, 0 => by simp [encV]
  | y :: l, i + 1 => by
    have ih := flat_setV x l i
    have e : (i + 1) * 6 = (((((i * 6 + 1) + 1) + 1) + 1) + 1) + 1 := by omega
    rw [List.flatMap_cons, List.set_cons_succ, List.flatMap_cons, ← ih, e]
    rfl
section
variable {w : World} {K g n cap : Nat} {A : Option Addr} {T : TypeId} {l : List Ve}
theorem vs_addr (h : So encV 6 w K T (.slice A n cap) l) : n = l.length ∧ ((A = none ∧ cap = 0 ∧ l = []) ∨ ∃ g, A = some ⟨g, 0, none⟩ ∧ K ≤ g ∧ g < w.heap.size) := by
  rcases h.2 with ⟨he, h0⟩ | ⟨g, cap', cur, he, hb, hg, _⟩
  · injection he with h1 h2 h3
    exact ⟨by omega, .inl ⟨h1, h3, List.eq_nil_of_length_eq_zero h0⟩⟩
  · injection he with h1 h2 h3
    refine ⟨h2, .inr ⟨g, h1, hb, ?_⟩⟩
    rcases Nat.lt_or_ge g w.heap.size with hlt | hge
    · exact hlt
    · rw [Array.getElem?_eq_none hge] at hg; cases hg
def put6 (w : World) (g o : Nat) (x : Ve) : World := (((((w.setCell ⟨g, o, none⟩ (.int .i64 x.w)).setCell ⟨g, o + 1, none⟩ (.int .u32 x.t)).setCell ⟨g, o + 2, none⟩ (.int .u32 x.m)).setCell ⟨g, o + 3, none⟩ (.int .i64 x.k)).setCell ⟨g, o + 4, none⟩ (.int .i64 x.n)).setCell ⟨g, o + 5, none⟩ (.string x.x)
theorem vs_set (h : So encV 6 w K T (.slice (some ⟨g, 0, none⟩) n cap) l) (i : Nat) (x : Ve) : So encV 6 (put6 w g (i * 6) x) K T (.slice (some ⟨g, 0, none⟩) n cap) (l.set i x) := by
  have hn := (vs_addr h).1
  subst hn
  have h1 := (World.ownsRow.stored h (i * 6) (.int .i64 x.w)).1
  have h2 := (World.ownsRow.stored h1 (i * 6 + 1) (.int .u32 x.t)).1
  have h3 := (World.ownsRow.stored h2 (i * 6 + 2) (.int .u32 x.m)).1
  have h4 := (World.ownsRow.stored h3 (i * 6 + 3) (.int .i64 x.k)).1
  have h5 := (World.ownsRow.stored h4 (i * 6 + 4) (.int .i64 x.n)).1
  have h6 := (World.ownsRow.stored h5 (i * 6 + 5) (.string x.x)).1
  unfold So
  rw [List.length_set, ← flat_setV]
  exact h6
theorem put6_below {B : Nat} {a w : World} {g o : Nat} {x : Ve} (h : Below B a w) (hs : B ≤ g) : Below B a (put6 w g o x) :=
  (((((h.setCell (p := ⟨g, o, none⟩) hs _).setCell (p := ⟨g, o + 1, none⟩) hs _).setCell (p := ⟨g, o + 2, none⟩) hs _).setCell (p := ⟨g, o + 3, none⟩) hs _).setCell (p := ⟨g, o + 4, none⟩) hs _).setCell (p := ⟨g, o + 5, none⟩) hs _
theorem vs_slot (h : So encV 6 w K T (.slice (some ⟨g, 0, none⟩) n cap) l) {i : Nat} {x : Ve} (hi : l[i]? = some x) : (∀ j u, (encV x)[j]? = some u → w.cell? ⟨g, i * 6 + j, none⟩ = some u) ∧ ∀ j, w.frozen? ⟨g, j, none⟩ = false := by
  have hn := (vs_addr h).1
  subst hn
  refine ⟨fun j u hu => ?_, fun j => World.ownsRow.frozenAt h _⟩
  have h1 := World.ownsRow.cells h (g := g) rfl _ _ (flatMap_get encV_len l i x hi j u hu)
  unfold Addr.add at h1
  split at h1
  · next e => rw [e]; exact h1
  · simpa using h1
end
def swV (l : List Ve) (a b : Nat) : List Ve := (l.set a (l.getD b nilV)).set b (l.getD a nilV)
theorem swV_comm (l : List Ve) (a b : Nat) : (l.set b (l.getD a nilV)).set a (l.getD b nilV) = swV l a b := by
  unfold swV
  by_cases h : a = b
  · subst h; rfl
  · exact List.set_comm _ _ (fun e => h e.symm)
theorem getDV {l : List Ve} {i : Nat} (h : i < l.length) : l.getD i nilV = l[i] := by
  rw [List.getD_eq_getElem?_getD, List.getElem?_eq_getElem h]; rfl
theorem swV_perm {l : List Ve} {a b : Nat} (ha : a < l.length) (hb : b < l.length) : (swV l a b).Perm l := by
  unfold swV
  rw [getDV ha, getDV hb]
  exact List.set_set_perm ha hb
theorem ins_perm (l : List Ve) (v : Ve) : (insV l v).Perm (l ++ [v]) := by
  unfold insV
  have e : l ++ [v] = l.take (posV l v.w v.t v.m) ++ (l.drop (posV l v.w v.t v.m) ++ [v]) := by rw [← List.append_assoc, List.take_append_drop]
  rw [e]
  refine List.Perm.append_left _ ?_
  exact (List.perm_append_singleton v _).symm
theorem chn_perm_eq : ∀ {l m : List Ve}, l.Perm m → Chn l → Chn m → l = m
  | [], m, hp, _, _ => hp.nil_eq
  | x :: l, [], hp, _, _ => absurd hp.symm.nil_eq (by simp)
  | x :: l, y :: m, hp, hl, hm => by
    have hx : x ∈ y :: m := hp.subset (by simp)
    have hy : y ∈ x :: l := hp.symm.subset (by simp)
    have hl' := List.pairwise_cons.1 hl
    have hm' := List.pairwise_cons.1 hm
    have e : x = y := by
      rcases List.mem_cons.1 hx with h | h
      · exact h
      · rcases List.mem_cons.1 hy with h' | h'
        · exact h'.symm
        · exact absurd (hl'.1 y h') (fun h2 => ltV_asymm h2 (hm'.1 x h))
    subst e
    rw [chn_perm_eq (List.Perm.cons_inv hp) hl'.2 hm'.2]
theorem same_symm {u v : Ve} (h : sameAt u v = false) : sameAt v u = false := by
  unfold sameAt at *
  have h2 := of_decide_eq_false h
  exact decide_eq_false fun ⟨a, b, c⟩ => h2 ⟨a.symm, b.symm, c.symm⟩
theorem chn_apart {l : List Ve} (h : Chn l) : l.Pairwise fun u v => sameAt u v = false := by
  refine h.imp fun {u v} h => ?_
  cases e : sameAt u v with
  | false => rfl
  | true =>
    exfalso
    unfold sameAt at e
    obtain ⟨h1, h2, h3⟩ := of_decide_eq_true e
    unfold ltV at h
    rw [h1, h2, h3, cmp_self] at h
    omega
/-- The next one of another order of a chain's versions is put. -/
theorem next_put {c q d : List Ve} (hc : Chn c) (hq : q.Perm c) (hr : ∀ u ∈ c, rightV u = true) {i : Nat} (hi : i < q.length) (hd : d.Perm (q.take i)) : putV d q[i] = (0, insV d q[i]) ∧ (Chn d → Chn (insV d q[i])) ∧ (insV d q[i]).Perm (q.take (i + 1)) := by
  have hap : q.Pairwise fun u v => sameAt u v = false := (hq.pairwise_iff (fun {u v} h => same_symm h)).2 (chn_apart hc)
  have hnone : d.any (sameAt · q[i]) = false := by
    rw [List.any_eq_false]
    intro u hu
    have hu2 : u ∈ q.take i := hd.subset hu
    obtain ⟨j, hj, rfl⟩ := List.mem_iff_getElem.1 hu2
    have hj' : j < i := by simp at hj; omega
    rw [List.getElem_take]
    have := (List.pairwise_iff_getElem.1 hap) j i (by omega) hi hj'
    simpa using this
  have hri : rightV q[i] = true := hr _ (hq.subset (List.getElem_mem hi))
  refine ⟨by unfold putV; rw [if_neg (by simp [hri]), if_neg (by simp [hnone])]; rfl, fun h => put_chn h hnone, ?_⟩
  rw [List.take_succ_eq_append_getElem hi]
  exact (ins_perm d q[i]).trans (hd.append_right _)
end Go.Proofs.Ytbeclajbpfglgaa
