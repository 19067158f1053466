/- The two controls side by side: what ViewPlays carries. -/
import Derived.Test.YtcgkbpjfbahleaaVw8
namespace Go.Proofs.Ytcgkbpjfbahleaa
open Go.RowKit Go.BigFrame

theorem ch_cases (c : Vc) (p : Int) (ms : List Int) : (∃ r, r ≠ 0 ∧ chV c p ms = (r, c)) ∨ (rightV 1 p ms = true ∧ hasB c.sf p = true ∧ c.e < 4611686018427387904 ∧ chV c p ms = (0, ⟨c.e + 1, p, ms, c.sf.filter fun n => hasB ms n⟩)) := by
  unfold chV
  by_cases h1 : rightV 1 p ms = false
  · exact .inl ⟨1, by decide, by rw [if_pos h1]⟩
  by_cases h2 : hasB c.sf p = false
  · exact .inl ⟨111, by decide, by rw [if_neg h1, if_pos h2]⟩
  by_cases h3 : 4611686018427387904 ≤ c.e
  · exact .inl ⟨20, by decide, by rw [if_neg h1, if_neg h2, if_pos h3]⟩
  · exact .inr ⟨by simpa using h1, by simpa using h2, by omega, by rw [if_neg h1, if_neg h2, if_neg h3]⟩
/-- The document's control in a box. -/
structure Dq (wr : World) (q : Nat) (c : Vc) (mA : Option Addr) (m2 : Nat) (sA : Option Addr) (s2 : Nat) : Prop where
  x0 : wr.cell? ⟨q, 0, none⟩ = some (.int .i64 c.e)
  x1 : wr.cell? ⟨q, 1, none⟩ = some (.int .i64 c.p)
  x2 : wr.cell? ⟨q, 2, none⟩ = some (.slice mA c.ms.length m2)
  x3 : wr.cell? ⟨q, 3, none⟩ = some (.slice sA c.sf.length s2)
  fr : ∀ j, wr.frozen? ⟨q, j, none⟩ = false
  sm : Sr encI 1 wr wr.heap.size mA m2 c.ms
  ss : Sr encI 1 wr wr.heap.size sA s2 c.sf
section
variable {w w' : World} {q m2 s2 b h g mc sc : Nat} {c : Vc} {mA sA : Option Addr}
theorem Dq.lt (x : Dq w q c mA m2 sA s2) : q < w.heap.size := World.block_lt_of_cell? w _ x.x0
theorem Dq.tn {P : Nat → Prop} (x : Dq w q c mA m2 sA s2) (t : Tn P w w') (pq : ¬ P q) (pm : ∀ ad, mA = some ad → ¬ P ad.block) (ps : ∀ ad, sA = some ad → ¬ P ad.block) : Dq w' q c mA m2 sA s2 :=
  ⟨t.cell x.x0 pq, t.cell x.x1 pq, t.cell x.x2 pq, t.cell x.x3 pq, fun j => (t.frozen (p := ⟨q, j, none⟩) x.lt pq).trans (x.fr j), (x.sm.tn t fun _ ad e => pm ad e).more t.size, (x.ss.tn t fun _ ad e => ps ad e).more t.size⟩
theorem Dq.below (x : Dq w q c mA m2 sA s2) (hb : Below w.heap.size w w') : Dq w' q c mA m2 sA s2 := x.tn (Tn.ofNew (P := fun _ => False) hb) id (fun _ _ => id) (fun _ _ => id)
/-- Four cells written over: another control. -/
theorem Dq.put {c' : Vc} {mA' sA' : Option Addr} {m2' s2' : Nat} {wr : World} (x : Dq wr q c mA m2 sA s2) (h1 : Sr encI 1 wr wr.heap.size mA' m2' c'.ms) (h2 : Sr encI 1 wr wr.heap.size sA' s2' c'.sf) (n1 : ∀ ad, mA' = some ad → ad.block ≠ q) (n2 : ∀ ad, sA' = some ad → ad.block ≠ q) :
    Dq ((((wr.setCell ⟨q, 0, none⟩ (.int .i64 c'.e)).setCell ⟨q, 1, none⟩ (.int .i64 c'.p)).setCell ⟨q, 2, none⟩ (.slice mA' c'.ms.length m2')).setCell ⟨q, 3, none⟩ (.slice sA' c'.sf.length s2')) q c' mA' m2' sA' s2' ∧
    Tn (· = q) wr ((((wr.setCell ⟨q, 0, none⟩ (.int .i64 c'.e)).setCell ⟨q, 1, none⟩ (.int .i64 c'.p)).setCell ⟨q, 2, none⟩ (.slice mA' c'.ms.length m2')).setCell ⟨q, 3, none⟩ (.slice sA' c'.sf.length s2')) := by
  have y0 := x.x0
  have y1 := x.x1
  have y2 := x.x2
  have y3 := x.x3
  have t : Tn (· = q) wr ((((wr.setCell ⟨q, 0, none⟩ (.int .i64 c'.e)).setCell ⟨q, 1, none⟩ (.int .i64 c'.p)).setCell ⟨q, 2, none⟩ (.slice mA' c'.ms.length m2')).setCell ⟨q, 3, none⟩ (.slice sA' c'.sf.length s2')) := (((Tn.setCell _ q 0 _).then (Tn.setCell _ q 1 _)).then (Tn.setCell _ q 2 _)).then (Tn.setCell _ q 3 _)
  refine ⟨⟨?_, ?_, ?_, ?_, fun j => ?_, (h1.tn t fun _ ad e => n1 ad e).more t.size, (h2.tn t fun _ ad e => n2 ad e).more t.size⟩, t⟩
  · simp [go_sem, y0]
  · simp [go_sem, y1]
  · simp [go_sem, y2]
  · simp [go_sem, y3]
  · simp only [World.frozen?_setCell]; exact x.fr j
/-- What holds ahead of each step. -/
structure Vz (w wr : World) (b q h g mc sc : Nat) (mA : Option Addr) (m2 : Nat) (sA : Option Addr) (s2 : Nat) (c : Vc) : Prop where
  ct : Ct wr b h g mc sc c
  dq : Dq wr q c mA m2 sA s2
  ok : VcOk c
  bl : Below w.heap.size w wr
  k : w.heap.size ≤ b ∧ w.heap.size ≤ h ∧ w.heap.size ≤ g ∧ w.heap.size ≤ q
  ne : q ≠ b ∧ q ≠ h ∧ q ≠ g
  fm : ∀ ad, mA = some ad → ad.block ≠ b ∧ ad.block ≠ h ∧ ad.block ≠ g ∧ ad.block ≠ q
  fs : ∀ ad, sA = some ad → ad.block ≠ b ∧ ad.block ≠ h ∧ ad.block ≠ g ∧ ad.block ≠ q
theorem Vz.below {w wr w' : World} (x : Vz w wr b q h g mc sc mA m2 sA s2 c) (hb : Below wr.heap.size wr w') : Vz w w' b q h g mc sc mA m2 sA s2 c :=
  ⟨x.ct.below hb, x.dq.below hb, x.ok, x.bl.trans (hb.mono x.bl.size), x.k, x.ne, x.fm, x.fs⟩
end
/-- Bytes of an int slice turned in place. -/
theorem So.set99 {w : World} {K : Nat} {T : TypeId} {g n cap : Nat} {l : List Int} (h : So encI 1 w K T (.slice (some ⟨g, 0, none⟩) n cap) l) {i : Nat} (hi : i < n) (x : Int) : So encI 1 (w.setCell ⟨g, i, none⟩ (.int .i64 x)) K T (.slice (some ⟨g, 0, none⟩) n cap) (l.set i x) := by
  have hl := h.lenI
  have := h.set1 encI_len (i := i) (j := 0) (by decide) (u := .int .i64 x) (y := x) (List.getElem?_eq_getElem (by omega)) rfl
  rwa [Nat.mul_one, Nat.add_zero] at this
end Go.Proofs.Ytcgkbpjfbahleaa
