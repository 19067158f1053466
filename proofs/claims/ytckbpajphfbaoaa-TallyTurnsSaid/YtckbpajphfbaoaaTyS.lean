/- Two samples of a slice, exchanged in place. -/
import Derived.Test.YtckbpajphfbaoaaTyDe
namespace Go.Proofs.Ytckbpajphfbaoaa
open Go.RowKit

abbrev nilS : Smp := (0, 0)
theorem getDS {l : List Smp} {i : Nat} (h : i < l.length) : l.getD i nilS = l[i] := by rw [List.getD_eq_getElem?_getD, List.getElem?_eq_getElem h]; rfl
theorem s_getD {w : World} {K cap : Nat} {A : Option Addr} {l : List Smp} (h : Sr encS 2 w K A cap l) {i : Nat} (hi : i < l.length) : ∃ ad : Addr, A = some ad ∧ ad.block < K ∧ w.cell? (ad.add (i * 2)) = some (.int .i64 (l.getD i nilS).1) ∧ w.cell? ⟨(ad.add (i * 2)).block, (ad.add (i * 2)).off + 1, none⟩ = some (.int .i64 (l.getD i nilS).2) := by
  rw [getDS hi]
  exact s_cells h hi
theorem So.len {α : Type} {enc : α → List Value} {k : Nat} {w : World} {K : Nat} {T : TypeId} {A : Option Addr} {n cap : Nat} {l : List α} (h : So enc k w K T (.slice A n cap) l) : n = l.length := by
  obtain ⟨A', c', e⟩ := h.form
  injection e
theorem so_addr {α : Type} {enc : α → List Value} {k : Nat} {w : World} {K : Nat} {T : TypeId} {A : Option Addr} {n cap : Nat} {l : List α} (h : So enc k w K T (.slice A n cap) l) : (A = none ∧ cap = 0 ∧ l = []) ∨ ∃ g, A = some ⟨g, 0, none⟩ ∧ K ≤ g ∧ g < w.heap.size := by
  rcases h.2 with ⟨he, h0⟩ | ⟨g, cap', cur, he, hb, hg, _⟩
  · injection he with h1 h2 h3
    exact .inl ⟨h1, h3, List.eq_nil_of_length_eq_zero h0⟩
  · injection he with h1 h2 h3
    refine .inr ⟨g, h1, hb, ?_⟩
    rcases Nat.lt_or_ge g w.heap.size with hlt | hge
    · exact hlt
    · rw [Array.getElem?_eq_none hge] at hg; cases hg
theorem flat_set (x : Smp) : ∀ (l : List Smp) (i : Nat), ((l.flatMap encS).set (i * 2) (.int .i64 x.1)).set (i * 2 + 1) (.int .i64 x.2) = (l.set i x).flatMap encS
  | [], i => by simp
  | y :: l, 0 => by simp [encS]
  | y :: l, i + 1 => by
    have ih := flat_set x l i
    have e : (i + 1) * 2 = (i * 2 + 1) + 1 := by omega
    rw [List.flatMap_cons, List.set_cons_succ, List.flatMap_cons, ← ih, e]
    rfl
section
variable {w : World} {K g n cap : Nat} {l : List Smp}
theorem sm_set (h : So encS 2 w K 46 (.slice (some ⟨g, 0, none⟩) n cap) l) (i : Nat) (x : Smp) : So encS 2 ((w.setCell ⟨g, i * 2, none⟩ (.int .i64 x.1)).setCell ⟨g, i * 2 + 1, none⟩ (.int .i64 x.2)) K 46 (.slice (some ⟨g, 0, none⟩) n cap) (l.set i x) := by
  have hn := So.len h
  subst hn
  have h1 := (World.ownsRow.stored h (i * 2) (.int .i64 x.1)).1
  have h2 := (World.ownsRow.stored h1 (i * 2 + 1) (.int .i64 x.2)).1
  unfold So
  rw [List.length_set, ← flat_set]
  exact h2
theorem sm_slot (h : So encS 2 w K 46 (.slice (some ⟨g, 0, none⟩) n cap) l) {i : Nat} (hi : i < l.length) : w.cell? ⟨g, i * 2, none⟩ = some (.int .i64 (l.getD i nilS).1) ∧ w.cell? ⟨g, i * 2 + 1, none⟩ = some (.int .i64 (l.getD i nilS).2) ∧ w.frozen? ⟨g, i * 2, none⟩ = false ∧ w.frozen? ⟨g, i * 2 + 1, none⟩ = false := by
  have hn := So.len h
  subst hn
  have hs := So.sr encS_len h
  obtain ⟨ad, e, _, h0, h1⟩ := s_getD hs.1 hi
  cases e
  have a0 : (⟨g, 0, none⟩ : Addr).add (i * 2) = ⟨g, i * 2, none⟩ := by unfold Addr.add; split <;> simp_all
  rw [a0] at h0 h1
  exact ⟨h0, h1, World.ownsRow.frozenAt h _, World.ownsRow.frozenAt h _⟩
end
def swS (l : List Smp) (a b : Nat) : List Smp := (l.set a (l.getD b nilS)).set b (l.getD a nilS)
theorem swS_comm (l : List Smp) (a b : Nat) : (l.set b (l.getD a nilS)).set a (l.getD b nilS) = swS l a b := by
  unfold swS
  by_cases h : a = b
  · subst h; rfl
  · exact List.set_comm _ _ (fun e => h e.symm)
theorem swS_perm {l : List Smp} {a b : Nat} (ha : a < l.length) (hb : b < l.length) : (swS l a b).Perm l := by
  unfold swS
  rw [getDS ha, getDS hb]
  exact List.set_set_perm ha hb
theorem swS_length (l : List Smp) (a b : Nat) : (swS l a b).length = l.length := by simp [swS]
end Go.Proofs.Ytckbpajphfbaoaa
