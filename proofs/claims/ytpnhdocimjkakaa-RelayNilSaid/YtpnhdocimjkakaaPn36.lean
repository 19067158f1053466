/- A relay: New; a node that is the only member; law 16's awake. -/
import Derived.Test.YtpnhdocimjkakaaPn35
namespace Go.Proofs.Ytpnhdocimjkakaa
open Go.RowKit Go.BigFrame Go.Maps

def R0 (id : Int) : Rs := ⟨id, 0, 0, [], [], 0, 0, false⟩
/-- The relay of a view's only member: all that it has is sure. -/
def S1 (id : Int) (lg : List Ez) : Rs := ⟨id, 1, id, [id], lg, 1, (lg.length : Int), true⟩
theorem settle1 (id : Int) (f : Int → Int) (h : Int → Bool) (lg : List Ez) (z : Ez) : settleR (fun j => if j = id then ((lg ++ [z]).length : Int) else f j) (fun j => h j || decide (j = id)) { S1 id lg with lg := lg ++ [z] } = S1 id (lg ++ [z]) := by
  have h1 : ((S1 id lg).ms.any fun m => !(h m || decide (m = id))) = false := by simp [S1]
  unfold settleR
  rw [if_neg (by rw [show ({ S1 id lg with lg := lg ++ [z] } : Rs).ms = (S1 id lg).ms from rfl, h1]; decide)]
  have e : leastB (fun j => if j = id then ((lg ++ [z]).length : Int) else f j) [id] ((lg ++ [z]).length : Int) = ((lg ++ [z]).length : Int) := by
    unfold leastB
    simp
  show (⟨id, 1, id, [id], lg ++ [z], 1, max (lg.length : Int) (leastB _ [id] ((lg ++ [z]).length : Int)), true⟩ : Rs) = _
  rw [e]
  have e2 : max (lg.length : Int) ((lg ++ [z]).length : Int) = ((lg ++ [z]).length : Int) := by rw [List.length_append]; simp; omega
  rw [e2]
  rfl
def NewRP (w : World) (id : Int) (e : Ending) (w' : World) : Prop :=
  e = .returned (.tuple #[.pointer (some ⟨w.heap.size, 0, none⟩), .int .i64 0]) ∧ Rn w' w.heap.size w.heap.size none 0 none 0 (.map none) (R0 id) ∧ Below w.heap.size w w'
set_option maxRecDepth 100000 in
theorem newr_any (id : Int) (h0 : 0 ≤ id) (h1 : id < 8) (w : World) : Calls Try.prog 35 #[.int .i64 id] w (NewRP w id) := by
  have d0 : decide (id < 0) = false := decide_eq_false (by omega)
  have d1 : decide (8 ≤ id) = false := decide_eq_false (by omega)
  go_enter Try.func35, Try.ntmps35
  go_wp2_with fail
  go_ret2
  exact ⟨rfl, ⟨Bxo.new _ _ _, So.empty _ _ _ _ _, So.empty _ _ _ _ _, Nat.le_refl _⟩, (Below.refl _ _).alloc (Nat.le_refl _) _⟩
end Go.Proofs.Ytpnhdocimjkakaa
