/- Two elements of a slice of labels, exchanged in place. -/
import Derived.Test.YtpkadghdnlkfiabLbMk
namespace Go.Proofs.Ytpkadghdnlkfiab
open Go.RowKit

theorem flat_set (x : Pp) : ∀ (l : List Pp) (i : Nat), ((l.flatMap encP).set (i * 2) (.string x.1)).set (i * 2 + 1) (.string x.2) = (l.set i x).flatMap encP
  | [], i => by simp
  | y :: l, 0 => by simp [encP]
  | y :: l, i + 1 => by
    have ih := flat_set x l i
    have e : (i + 1) * 2 = (i * 2 + 1) + 1 := by omega
    rw [List.flatMap_cons, List.set_cons_succ, List.flatMap_cons, ← ih, e]
    rfl
section
variable {w : World} {K g n cap : Nat} {l : List Pp}
theorem la_set (h : La w K (.slice (some ⟨g, 0, none⟩) n cap) l) (i : Nat) (x : Pp) : La ((w.setCell ⟨g, i * 2, none⟩ (.string x.1)).setCell ⟨g, i * 2 + 1, none⟩ (.string x.2)) K (.slice (some ⟨g, 0, none⟩) n cap) (l.set i x) := by
  have hn := So.len h
  subst hn
  have h1 := (World.ownsRow.stored h (i * 2) (.string x.1)).1
  have h2 := (World.ownsRow.stored h1 (i * 2 + 1) (.string x.2)).1
  unfold La So
  rw [List.length_set, ← flat_set]
  exact h2
theorem la_slot (h : La w K (.slice (some ⟨g, 0, none⟩) n cap) l) {i : Nat} (hi : i < l.length) : w.cell? ⟨g, i * 2, none⟩ = some (.string (l.getD i nilP).1) ∧ w.cell? ⟨g, i * 2 + 1, none⟩ = some (.string (l.getD i nilP).2) ∧ w.frozen? ⟨g, i * 2, none⟩ = false ∧ w.frozen? ⟨g, i * 2 + 1, none⟩ = false := by
  have hn := So.len h
  subst hn
  have hs := So.sr encP_len h
  obtain ⟨ad, e, _, h0, h1⟩ := lr_at hs.1 hi
  cases e
  have a0 : (⟨g, 0, none⟩ : Addr).add (i * 2) = ⟨g, i * 2, none⟩ := by unfold Addr.add; split <;> simp_all
  rw [a0] at h0 h1
  exact ⟨h0, h1, World.ownsRow.frozenAt h _, World.ownsRow.frozenAt h _⟩
end
def swL (l : List Pp) (a b : Nat) : List Pp := (l.set a (l.getD b nilP)).set b (l.getD a nilP)
theorem swL_comm (l : List Pp) (a b : Nat) : (l.set b (l.getD a nilP)).set a (l.getD b nilP) = swL l a b := by
  unfold swL
  by_cases h : a = b
  · subst h; rfl
  · exact List.set_comm _ _ (fun e => h e.symm)
theorem swL_perm {l : List Pp} {a b : Nat} (ha : a < l.length) (hb : b < l.length) : (swL l a b).Perm l := by
  unfold swL
  rw [getD_get ha, getD_get hb]
  exact List.set_set_perm ha hb
theorem swL_length (l : List Pp) (a b : Nat) : (swL l a b).length = l.length := by simp [swL]
end Go.Proofs.Ytpkadghdnlkfiab
