/- s[i:], s[:i] of a slice of rows of k cells, each in one equation. -/
import Derived.Test.YtcgkbpjfbahleaaEl
namespace Go.Proofs.Ytcgkbpjfbahleaa
open Go.RowKit
section
variable {P : Program} {ST : TypeId} {k : Nat} (hu : P.underlying ST = some (.slice (P.elem ST))) (hs : ∀ w, (sizeOf (P.elem ST)).run P w = .ok k w)
include hu hs
theorem slice_fromK (A : Option Addr) (n cap j : Nat) (hj : j ≤ n) (w : World) :
    (Instr.slice ST (.slice A n cap) (some (.int .i64 (j : Int))) none none).run P w = .ok (.slice (if cap = j then A else A.map (·.add (j * k))) (n - j) (cap - j)) w := by
  have h := run_slice_l (P := P) (w := w) (t := ST) (a := A) (len := n) (cap := cap) hu .i64 (j : Int) (by omega) (by omega)
  rw [h, hs]
  simp [Result.andThen, sliced]
theorem slice_toK (A : Option Addr) (n cap j : Nat) (hj : j ≤ cap) (w : World) :
    (Instr.slice ST (.slice A n cap) none (some (.int .i64 (j : Int))) none).run P w = .ok (.slice A j cap) w := by
  have h := run_slice_h (P := P) (w := w) (t := ST) (a := A) (len := n) (cap := cap) hu .i64 (j : Int) (by omega) (by omega)
  rw [h, hs]
  have : ∀ a : Addr, a.add 0 = a := fun a => by unfold Addr.add; rw [if_pos rfl]
  cases A <;> simp [Result.andThen, sliced, this]
end
section
variable {α : Type} {enc : α → List Value} {k : Nat} {w : World} {K cap : Nat} {A : Option Addr} {l : List α}
theorem Sr.from (h : Sr enc k w K A cap l) {j : Nat} (hj : j ≤ l.length) : Sr enc k w K (if cap = j then A else A.map (·.add (j * k))) (cap - j) (l.drop j) := by
  have hle := h.le
  have hm := h.max
  have hl : (l.drop j).length = l.length - j := List.length_drop
  refine ⟨by omega, by omega, fun e => ?_, fun hn => ?_⟩
  · by_cases hc : cap = j
    · omega
    · rw [if_neg hc] at e
      cases A with
      | none => have := h.nil rfl; omega
      | some a => cases e
  · obtain ⟨ad, e, hb, hc⟩ := h.at_ (by omega)
    subst e
    rw [if_neg (by omega)]
    refine ⟨ad.add (j * k), rfl, by rw [el_block_of_add]; exact hb, fun i x hi q u hu => ?_⟩
    rw [List.getElem?_drop] at hi
    have := hc (j + i) x hi q u hu
    rwa [el_add_of_add, show j * k + (i * k + q) = (j + i) * k + q by rw [Nat.add_mul]; omega]
end
end Go.Proofs.Ytcgkbpjfbahleaa
