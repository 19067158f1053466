/- Slices of ints that the call owns. -/
import Derived.Test.YtldflhledobfnabByW
import Derived.Deep.AppendLies
namespace Go.Proofs.Ytldflhledobfnab
open Go.RowKit

abbrev iv (n : Nat) : Value := .int .i64 (n : Int)
def Oi (w : World) (K : Nat) (v : Value) (es : List Nat) : Prop := w.ownsRow K 3 1 v es.length (es.map iv)
theorem info_i64 : (Try.prog.info? 3).map (fun i => (i.zero, i.size, i.bytes)) = some (some (.int .i64 0), 1, 8) := by kernel_rfl

theorem own_ne {w : World} {K K' T T' s s' n n' : Nat} {v v' : Value} {xs xs' : List Value} (h : w.ownsRow K T s v n xs) (h' : w.ownsRow K' T' s' v' n' xs') (hne : T ≠ T') : v.ownBlock = none ∨ v.ownBlock ≠ v'.ownBlock := by
  rcases h.2 with ⟨rfl, _⟩ | ⟨g, cap, cur, rfl, _, hg, _⟩
  · exact .inl rfl
  · right
    rcases h'.2 with ⟨rfl, _⟩ | ⟨g', cap', cur', rfl, _, hg', _⟩
    · simp [Value.ownBlock]
    · intro e
      have : g = g' := by simpa [Value.ownBlock] using e
      subst this
      rw [hg] at hg'
      simp at hg'
      exact hne hg'.2

section
variable {w w' : World} {K : Nat} {es : List Nat} {v : Value}
theorem Oi.empty (w : World) (K : Nat) : Oi w K (.slice none 0 0) [] := World.ownsRow_nil w K _ _
theorem Oi.below (h : Oi w K v es) (hb : Below w.heap.size w w') : Oi w' K v es :=
  World.ownsRow.kept (row := none) h ⟨hb.os, hb.tape, hb.output, hb.size, fun k hk _ => hb.block k hk⟩ (by cases h' : v.ownBlock <;> simp)
theorem Oi.alloc (h : Oi w K v es) (o : Obj) : Oi (w.alloc o) K v es := World.ownsRow.alloc h o
theorem Oi.keep (h : Oi w K v es) {row : Option Nat} (hg : w.grownBy w' row) (hne : v.ownBlock = none ∨ v.ownBlock ≠ row) : Oi w' K v es := World.ownsRow.kept h hg hne
theorem Oi.lt (h : Oi w K v es) : ∀ k, v.ownBlock = some k → K ≤ k ∧ k < w.heap.size := World.ownsRow.lt h
theorem Oi.get {A : Option Addr} {n cap k : Nat} (h : Oi w K (.slice A n cap) es) (hk : k < es.length) : n = es.length ∧ n ≤ cap ∧ cap ≤ maxLen ∧ ∃ g, A = some ⟨g, 0, none⟩ ∧ w.cell? ⟨g, k, none⟩ = some (iv es[k]) := by
  rcases h.2 with ⟨he, h0⟩ | ⟨g, cap', cur, he, hb, hg, hn, hc, hs, ht⟩
  · omega
  · injection he with h1 h2 h3
    subst h1 h2 h3
    refine ⟨rfl, hn, hc, g, rfl, ?_⟩
    have := h.cells (g := g) rfl k (iv es[k]) (by simp [hk])
    have e : (⟨g, 0, none⟩ : Addr).add k = ⟨g, k, none⟩ := by unfold Addr.add; split <;> simp_all
    rwa [e] at this

theorem wpList_pushi {ops : Array Oper} {rest : List Oper} {o : Oper} {a : Act} {Q : Exit → Act → World → Prop} (w : World) (hgd : o.guard = none) (s x : Operand)
    (ho : o.op = .call { callee := .builtin .append, args := #[s, x], argTypes := #[25, 25] }) (K : Nat) (v : Value) (es : List Nat) (hs : a.eval s = v) (hown : Oi w K v es)
    (m H : Nat) (hH : w.heap.size = H) (hxx : a.eval x = .slice (some ⟨H, 0, none⟩) 1 1) (N : Nat) (hN : es.length + 1 = N) (hsz : N * 8 ≤ 140737488355328) (hK : K ≤ H)
    (h : ∀ A' cap' w', Oi w' K (.slice A' N cap') (es ++ [m]) → w.grownBy w' v.ownBlock → wpList Try.prog ops Q rest (a.put o.dst (.slice A' N cap')) w') :
    wpList Try.prog ops Q (o :: rest) a (w.alloc (.cells #[iv m] 3)) := by
  subst hH hN
  obtain ⟨i0, hi, hz0, hz1, hz2⟩ := info_parts info_i64
  refine wpList_append_lies _ hgd s x 25 ho K 3 i0 (.int .i64 0) 1 8 Try.underlying25 hi hz0 hz1 hz2 rfl (by decide) v es.length (es.map iv) hs (World.ownsRow.alloc hown _) ⟨w.heap.size, 0, none⟩ 1 1 [iv m] hxx rfl
    (World.news_of_block (heap_alloc_new w _)) (by intro u hu; simp at hu; subst hu; rfl) (by omega) (by unfold maxLen; omega) hsz (by simp; omega) _ rfl ?_
  intro g cap w1 hown1 hgrow1 hat1 hlt1
  have hg : w.grownBy w1 v.ownBlock := ⟨hgrow1.os, hgrow1.tape, hgrow1.output, Nat.le_trans (by simp) hgrow1.size, fun i hi hne => (hgrow1.block i (by simp; omega) hne).trans (Below.heap_alloc w _ i hi)⟩
  refine h _ _ w1 ?_ hg
  unfold Oi
  rw [List.length_append, List.map_append]
  exact hown1
end
end Go.Proofs.Ytldflhledobfnab
