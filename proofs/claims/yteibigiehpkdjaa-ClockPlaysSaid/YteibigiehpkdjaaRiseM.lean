/- What a clock gives, in numbers: it stands behind what it was to stand behind, up to the bound, not below the reading; and stores into one box leave the rest. -/
import Derived.Test.YteibigiehpkdjaaUpdB
import Derived.Test.YteibigiehpkdjaaAwake
namespace Go.Proofs.Yteibigiehpkdjaa
open Go.RowKit

theorem nx_rise {a b : Int} (h : nxE a b = 0) : a < nxA a b ∨ a = nxA a b ∧ b < nxB a b := by
  revert h; unfold nxE nxA nxB; (repeat' split) <;> intro h <;> omega
theorem nx_bd {a b : Int} (hb0 : 0 ≤ b) (hb1 : b ≤ 4294967295) : 0 ≤ nxB a b ∧ nxB a b ≤ 4294967295 := by
  unfold nxB; (repeat' split) <;> omega
theorem gv_facts {up ph lw lt : Int} (h : gvE up ph lw lt = 0) (l0 : 0 ≤ lt) (l1 : lt ≤ 4294967295) :
    gvA up ph lw lt ≤ up ∧ ph ≤ gvA up ph lw lt ∧ (lw < gvA up ph lw lt ∨ lw = gvA up ph lw lt ∧ lt < gvB up ph lw lt) ∧ (0 ≤ gvB up ph lw lt ∧ gvB up ph lw lt ≤ 4294967295) := by
  have hb := nx_bd (a := lw) l0 l1
  have hr := nx_rise (a := lw) (b := lt)
  have hA : gvA up ph lw lt = cdA ph lw lt := by simp [gvA, h]
  have hB : gvB up ph lw lt = cdB ph lw lt := by simp [gvB, h]
  rw [hA, hB]
  unfold gvE at h
  split at h
  · rename_i hc
    split at h
    · omega
    · rename_i hu
      unfold cdE at hc
      unfold cdA cdB
      unfold cdA at hu
      split
      · rename_i hl
        rw [if_pos hl] at hc hu
        omega
      · rename_i hl
        rw [if_neg hl] at hc hu
        have := hr hc
        omega
  · rename_i hc; exact absurd h hc
theorem gv_same {up ph lw lt lw0 lt0 : Int} (h : gvE up ph lw lt ≠ 0) : gvW up ph lw lt lw0 = lw0 ∧ gvT up ph lw lt lt0 = lt0 := by
  simp [gvW, gvT, h]
theorem gv_new {up ph lw lt lw0 lt0 mk : Int} (h : gvE up ph lw lt = 0) : gvW up ph lw lt lw0 = gvA up ph lw lt ∧ gvT up ph lw lt lt0 = gvB up ph lw lt ∧ gvM up mk ph lw lt = mk := by
  simp [gvW, gvT, gvA, gvB, gvM, h]
theorem cmp_less {a b c x y z : Int} (h : a < x ∨ a = x ∧ b < y) : cmpS a b c x y z = -1 := by
  unfold cmpS; (repeat' split) <;> omega

/-- Three cells of one box. -/
def set3 (w : World) (s : Nat) (x y z : Value) : World := ((w.setCell ⟨s, 0, none⟩ x).setCell ⟨s, 1, none⟩ y).setCell ⟨s, 2, none⟩ z
theorem set3_cell {w : World} {s : Nat} {x y z v : Value} {p : Addr} (hne : s ≠ p.block) (h : w.cell? p = some v) : (set3 w s x y z).cell? p = some v := by
  have ne : ∀ i : Nat, (⟨s, i, none⟩ : Addr) ≠ p := fun i e => hne (congrArg Addr.block e)
  exact cellO (ne _) (cellO (ne _) (cellO (ne _) h))
theorem set3_frozen {w : World} {s : Nat} {x y z : Value} {p : Addr} (h : w.frozen? p = false) : (set3 w s x y z).frozen? p = false := frS (frS (frS h))
theorem Clk.set3 {w : World} {s b : Nat} {x y z : Value} {off up mk lw lt : Int} (h : Clk w b off up mk lw lt) (hne : s ≠ b) : Clk (set3 w s x y z) b off up mk lw lt :=
  ⟨set3_cell hne h.c0, set3_cell hne h.c1, set3_cell hne h.c2, set3_cell hne h.c3, set3_cell hne h.c4, set3_cell hne h.c5, fun i => set3_frozen (h.f i)⟩
theorem set3_below {B : Nat} {a w : World} {s : Nat} {x y z : Value} (h : Below B a w) (hs : B ≤ s) : Below B a (set3 w s x y z) :=
  ((h.setCell (p := ⟨s, 0, none⟩) hs _).setCell (p := ⟨s, 1, none⟩) hs _).setCell (p := ⟨s, 2, none⟩) hs _

theorem set3_at0 {w : World} {s : Nat} {x y z v : Value} (h : w.cell? ⟨s, 0, none⟩ = some v) : (set3 w s x y z).cell? ⟨s, 0, none⟩ = some x := cellO (by simp) (cellO (by simp) (cellS (isOf h)))
theorem set3_at1 {w : World} {s : Nat} {x y z v : Value} (h : w.cell? ⟨s, 1, none⟩ = some v) : (set3 w s x y z).cell? ⟨s, 1, none⟩ = some y := cellO (by simp) (cellS (isS (isOf h)))
theorem set3_at2 {w : World} {s : Nat} {x y z v : Value} (h : w.cell? ⟨s, 2, none⟩ = some v) : (set3 w s x y z).cell? ⟨s, 2, none⟩ = some z := cellS (isS (isS (isOf h)))
theorem frz_below {W w1 : World} {b : Nat} {v : Value} (hb : Below W.heap.size W w1) (hc : W.cell? ⟨b, 0, none⟩ = some v) (hf : ∀ j, W.frozen? ⟨b, j, none⟩ = false) : ∀ j, w1.frozen? ⟨b, j, none⟩ = false := fun j =>
  keptF hb (show b < _ from World.block_lt_of_cell? W _ hc) (hf j)
theorem upper_below (b : Nat) (off up mk lw lt : Int) (w : World) (hk : Clk w b off up mk lw lt) :
    Calls Try.prog 31 #[.pointer (some ⟨b, 0, none⟩)] w fun e w' => e = .returned (.int .i64 up) ∧ Below w.heap.size w w' :=
  (upper_any b off up mk lw lt w hk).mono fun _ _ ⟨he, hw⟩ => ⟨he, hw ▸ Below.refl _ _⟩

end Go.Proofs.Yteibigiehpkdjaa
