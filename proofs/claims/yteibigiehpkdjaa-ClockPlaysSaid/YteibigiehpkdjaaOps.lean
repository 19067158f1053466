/- How the steps among a statement's arguments are read: a slice of structs of five cells. -/
import Derived.Test.YteibigiehpkdjaaArgs
import Derived.Deep.Slices
import Derived.ChangeSame
import Derived.Deep.Strs
namespace Go.Proofs.Yteibigiehpkdjaa
open Go.ChangeShapes Go.WideShapes Go.ChangeAt Go.RowKit Go.Joins Go.Deep

theorem cellsOp : Try.prog.cellsOf 51 = 5 := by kernel_rfl
theorem cellsI : Try.prog.cellsOf 3 = 1 := by kernel_rfl
theorem cellsI64 : Try.prog.cellsOf 2 = 1 := by kernel_rfl
theorem cellsU32 : Try.prog.cellsOf 22 = 1 := by kernel_rfl

/-- A step in memory. -/
def OpAt (w : World) (b o : Nat) : Prop := ∃ k ph x y z : Int, (-9223372036854775808 ≤ k ∧ k ≤ 9223372036854775807) ∧ (-9223372036854775808 ≤ ph ∧ ph ≤ 9223372036854775807) ∧ (-9223372036854775808 ≤ x ∧ x ≤ 9223372036854775807) ∧ (0 ≤ y ∧ y ≤ 4294967295) ∧ (0 ≤ z ∧ z ≤ 4294967295) ∧
  w.cell? ⟨b, o, none⟩ = some (.int .i64 k) ∧ w.cell? ⟨b, o + 1, none⟩ = some (.int .i64 ph) ∧ w.cell? ⟨b, o + 2, none⟩ = some (.int .i64 x) ∧ w.cell? ⟨b, o + 3, none⟩ = some (.int .u32 y) ∧ w.cell? ⟨b, o + 4, none⟩ = some (.int .u32 z)

theorem spot_of_cell {w : World} {a : Addr} {v : Value} (h : w.cell? a = some v) : a.spot = none := by
  unfold World.cell? at h
  split at h
  · cases hs : a.spot with
    | none => rfl
    | some x => simp [hs] at h
  · cases h

theorem adr (b off n j : Nat) : ((⟨b, off, none⟩ : Addr).add n).add j = ⟨b, off + n + j, none⟩ := by
  unfold Addr.add
  (repeat' split) <;> simp_all

theorem open_ops {H : Type} {enc : TypeId × Value → H} {W : World} {base fuel : Nat} {spare : Nat → Bool} {held : Bool} {cs : List Value} {x : DataW H × List MemPlace}
    (h : DataW.trod enc Try.prog W base spare held fuel 41 cs = some x) :
    cs = [.slice none 0 0] ∨ ∃ (b off len cap : Nat) (sp : Option _), cs = [.slice (some ⟨b, off, sp⟩) len cap] ∧ len ≤ cap ∧ cap ≤ maxLen ∧ (0 < len → sp = none) ∧ ∀ i, i < len → OpAt W b (off + 5 * i) := by
  rcases open_slice Try.underlying41 h with ⟨h0, _⟩ | ⟨⟨b, off, sp⟩, len, cap, m, n, D, Pl, hcs, hb, hl, hm, hmm, hx, hi⟩
  · exact .inl h0
  · have hlm : len ≤ m := by rw [hmm]; split <;> omega
    have none0 : 0 < len → sp = none := fun h0 => by
      obtain ⟨cs', hc, ht⟩ := hi 0 (by omega)
      rw [cellsOp] at hc
      obtain ⟨_, hcl, hat⟩ := World.cells?_some hc
      have hc0 := hat 0 (by omega)
      have : cs'[0]? = some (cs'[0]'(by omega)) := List.getElem?_eq_getElem (by omega)
      rw [this] at hc0
      have h1 := spot_of_cell hc0
      simpa [Addr.add] using h1
    have one : ∀ i, i < len → OpAt W b (off + 5 * i) := fun i hil => by
      have hsp := none0 (by omega)
      subst hsp
      obtain ⟨cs', hc, ht⟩ := hi i (by omega)
      rw [cellsOp] at hc
      obtain ⟨_, hcl, hat⟩ := World.cells?_some hc
      obtain ⟨ys, n', _, _, hlen, hyl, hf⟩ := DataW.trod_struct Try.underlying51 ht
      match cs', hcl with
      | [u0, u1, u2, u3, u4], _ =>
        match ys, hyl with
        | [y0, y1, y2], _ =>
          have h0 := hf 0 _ rfl
          have h1 := hf 1 _ rfl
          have h2 := hf 2 _ rfl
          simp [cellsI, cellsI64, cellsSt] at h0 h1 h2
          obtain ⟨zs, n2, _, _, _, hzl, hg⟩ := DataW.trod_struct Try.underlying24 h2
          match zs, hzl with
          | [z0, z1, z2], _ =>
            have g0 := hg 0 _ rfl
            have g1 := hg 1 _ rfl
            have g2 := hg 2 _ rfl
            simp [cellsI64, cellsU32] at g0 g1 g2
            obtain ⟨k, e0, _, wk⟩ := DataW.trod_int Try.underlying3 h0
            obtain ⟨ph, e1, _, wp⟩ := DataW.trod_int Try.underlying2 h1
            obtain ⟨a, e2, _, wa⟩ := DataW.trod_int Try.underlying2 g0
            obtain ⟨b', e3, _, wb⟩ := DataW.trod_int Try.underlying22 g1
            obtain ⟨c, e4, _, wc⟩ := DataW.trod_int Try.underlying22 g2
            simp at e0 e1 e2 e3 e4
            subst e0 e1 e2 e3 e4
            have c0 := hat 0 (by omega)
            have c1 := hat 1 (by omega)
            have c2 := hat 2 (by omega)
            have c3 := hat 3 (by omega)
            have c4 := hat 4 (by omega)
            rw [adr] at c0 c1 c2 c3 c4
            refine ⟨k, ph, a, b', c, by simpa [Lit.wf, IntKind.min, IntKind.max, IntKind.signed, IntKind.bits] using wk, by simpa [Lit.wf, IntKind.min, IntKind.max, IntKind.signed, IntKind.bits] using wp, by simpa [Lit.wf, IntKind.min, IntKind.max, IntKind.signed, IntKind.bits] using wa, by simpa [Lit.wf, IntKind.min, IntKind.max, IntKind.signed, IntKind.bits] using wb, by simpa [Lit.wf, IntKind.min, IntKind.max, IntKind.signed, IntKind.bits] using wc, ?_, ?_, ?_, ?_, ?_⟩
            · simpa [Nat.mul_comm] using c0
            · simpa [Nat.mul_comm] using c1
            · simpa [Nat.mul_comm] using c2
            · simpa [Nat.mul_comm] using c3
            · simpa [Nat.mul_comm] using c4
    refine .inr ⟨b, off, len, cap, sp, hcs, hl, hm, none0, one⟩

end Go.Proofs.Yteibigiehpkdjaa
