/- A writer in memory: New, Num. -/
import Derived.Test.YtojkbndaleiaaaaDoorNumH
import Derived.Test.YtojkbndaleiaaaaDoorTn
import Derived.Test.YtojkbndaleiaaaaDoorClone
namespace Go.Proofs.YtojkbndaleiaaaaDoor
open Go.RowKit

theorem Ob.form {w : World} {K : Nat} {v : Value} {l : List UInt8} (h : Ob w K v l) : ∃ A c, v = .slice A l.length c := by
  rcases h.2 with ⟨he, h0⟩ | ⟨g, cap', cur, he, _⟩
  · exact ⟨none, 0, by rw [he, h0]⟩
  · exact ⟨_, _, he⟩

/-- A writer at block b that has laid the bytes l; its slice is v. -/
structure Wr (w : World) (K b : Nat) (v : Value) (l : List UInt8) : Prop where
  cell : w.cell? ⟨b, 0, none⟩ = some v
  fro : w.frozen? ⟨b, 0, none⟩ = false
  ob : Ob w K v l
  ne : v.ownBlock ≠ some b
  kb : K ≤ b
/-- A slice that was appended to is where it was, or new. -/
def OwnOr (w : World) (v v' : Value) : Prop := v'.ownBlock = v.ownBlock ∨ ∃ j, v'.ownBlock = some j ∧ w.heap.size ≤ j
theorem OwnOr.refl (w : World) (v : Value) : OwnOr w v v := .inl rfl
theorem OwnOr.trans {w w1 : World} {v v1 v2 : Value} (h : OwnOr w v v1) (h2 : OwnOr w1 v1 v2) (hz : w.heap.size ≤ w1.heap.size) : OwnOr w v v2 := by
  rcases h2 with e | ⟨j, e, hj⟩
  · rcases h with e' | ⟨i, e', hi⟩
    · exact .inl (e.trans e')
    · exact .inr ⟨i, e.trans e', hi⟩
  · exact .inr ⟨j, e, Nat.le_trans hz hj⟩
theorem Wr.lt {w : World} {K b : Nat} {v : Value} {l : List UInt8} (h : Wr w K b v l) : b < w.heap.size := World.block_lt_of_cell? w _ h.cell
/-- What a writer's method did: the writer's block and its slice's have turned. -/
structure Wst (w : World) (K b : Nat) (v : Value) (l : List UInt8) (e : Ending) (w' : World) (v' : Value) : Prop where
  e : e = .returned (.tuple #[])
  wr : Wr w' K b v' l
  tn : Tn (fun k => k = b ∨ v.ownBlock = some k) w w'
  own : OwnOr w v v'
theorem Wr.put {w w1 : World} {K b : Nat} {v v1 : Value} {l l1 : List UInt8} (h : Wr w K b v l) (ho : Ob w1 K v1 l1) (ht : Tn (fun k => k = b ∨ v.ownBlock = some k) w w1) (hc : w1.cell? ⟨b, 0, none⟩ = some v) (hf : w1.frozen? ⟨b, 0, none⟩ = false) (hown : OwnOr w v v1) :
    Wst w K b v l1 (.returned (.tuple #[])) (w1.setCell ⟨b, 0, none⟩ v1) v1 := by
  have hne : v1.ownBlock ≠ some b := by
    rcases hown with e | ⟨j, e, hj⟩
    · rw [e]; exact h.ne
    · rw [e]; intro e2; injection e2 with e2; have := h.lt; omega
  refine ⟨rfl, ⟨World.cell?_setCell_same' _ _ _ (by rw [hc]; rfl), ?_, ?_, hne, h.kb⟩, ht.thenQ (Tn.setCell w1 b 0 v1) (fun k _ e => .inl e), hown⟩
  · rw [World.frozen?_setCell]; exact hf
  · exact (Tn.setCell w1 b 0 v1).ob ho fun k hk e => hne (by rw [hk, e])
theorem Gr.tn {w w' : World} {v v' : Value} {b : Nat} (h : Gr w w' v v') : Tn (fun k => k = b ∨ v.ownBlock = some k) w w' :=
  ⟨h.g.os, h.g.tape, h.g.output, h.g.size, fun k hk hn => h.g.block k hk fun e => hn (.inr e.symm)⟩
theorem Wr.kept {w w1 : World} {K b : Nat} {v v' : Value} {l : List UInt8} (h : Wr w K b v l) (g : Gr w w1 v v') : w1.cell? ⟨b, 0, none⟩ = some v ∧ w1.frozen? ⟨b, 0, none⟩ = false :=
  have hb : w1.heap[b]? = w.heap[b]? := g.g.block b h.lt fun e => h.ne e.symm
  ⟨(World.cell?_of_block hb).trans h.cell, (World.frozen?_of_block hb).trans h.fro⟩

theorem Wr.tn {P : Nat → Prop} {w w' : World} {K b : Nat} {v : Value} {l : List UInt8} (h : Wr w K b v l) (t : Tn P w w') (hb : ¬ P b) (ho : ∀ k, v.ownBlock = some k → ¬ P k) : Wr w' K b v l :=
  ⟨t.cell h.cell hb, (t.frozen (p := ⟨b, 0, none⟩) h.lt hb).trans h.fro, t.ob h.ob ho, h.ne, h.kb⟩
theorem Wr.alloc {w : World} {K b : Nat} {v : Value} {l : List UInt8} (h : Wr w K b v l) (o : Obj) : Wr (w.alloc o) K b v l := h.tn (Tn.alloc (P := fun _ => False) w o) id fun _ _ h => h
theorem Wr.below {w w' : World} {K b : Nat} {v : Value} {l : List UInt8} (h : Wr w K b v l) (hb : Below w.heap.size w w') : Wr w' K b v l := h.tn (Tn.ofNew (P := fun _ => False) hb) id fun _ _ h => h
theorem Gr.belowNil {w w' : World} {v' : Value} (h : Gr w w' (.slice none 0 0) v') : Below w.heap.size w w' :=
  ⟨h.g.os, h.g.tape, h.g.output, h.g.size, fun k hk => h.g.block k hk (by simp [Value.ownBlock])⟩
theorem Gr.newNil {w w' : World} {v' : Value} {K : Nat} {l : List UInt8} (h : Gr w w' (.slice none 0 0) v') (ho : Ob w' K v' l) : Ob w' w.heap.size v' l := by
  rcases ho.2 with ⟨he, h0⟩ | ⟨g, cap', cur, he, hb, hg⟩
  · exact ⟨ho.1, .inl ⟨he, h0⟩⟩
  · refine ⟨ho.1, .inr ⟨g, cap', cur, he, ?_, hg⟩⟩
    subst he
    rcases h.o with e | ⟨j, e, hj⟩
    · cases e
    · have e' : some g = some j := e
      injection e' with e'
      omega

theorem new_any (w : World) : Calls Tryd.prog 9 #[] w fun e w' => e = .returned (.pointer (some ⟨w.heap.size, 0, none⟩)) ∧ w' = w.alloc (.cells #[.slice none 0 0] 68) := by
  go_enter Tryd.func9, Tryd.ntmps9
  go_wp2
  go_ret
  exact ⟨rfl, rfl⟩
theorem wr_new (w : World) (K : Nat) (hK : K ≤ w.heap.size) : Wr (w.alloc (.cells #[.slice none 0 0] 68)) K w.heap.size (.slice none 0 0) [] :=
  ⟨by simp, by simp, Ob.empty _ _, by simp [Value.ownBlock], hK⟩

set_option maxHeartbeats 800000 in
theorem wnum_any (n : Nat) (h1 : n ≤ 18446744073709551615) (K b : Nat) (v : Value) (l : List UInt8) (w : World) (h : Wr w K b v l) (hsz : l.length + 9 ≤ 140737488355328) :
    Calls Tryd.prog 25 #[.pointer (some ⟨b, 0, none⟩), .int .u64 (n : Int)] w fun e w' => ∃ v', Wst w K b v (l ++ numB n) e w' v' := by
  obtain ⟨A, c, rfl⟩ := h.ob.form
  have hlt := h.lt
  have hc0 := h.cell
  have hf0 := h.fro
  have hkb := h.kb
  have HX := Lib.hid h
  have HA := Lib.hid (fun w' (ho : Ob w' K (.slice A l.length c) l) (hK : K ≤ w'.heap.size) => appendNum_any n h1 K A l.length c l w' ho hK hsz)
  clear h
  generalize l ++ numB n = m at *
  go_enter Tryd.func25, Tryd.ntmps25
  go_wp2_with (go_at_call 35; refine (HA.out _ HX.out.ob (by omega)).mono ?_; rintro e w1 ⟨A', c', rfl, ho1, hg1⟩; have hk1 := HX.out.kept hg1; have hk1c := hk1.1; have hk1f := hk1.2)
  go_end0
  exact ⟨_, HX.out.put ho1 hg1.tn hk1c hk1f hg1.o⟩
end Go.Proofs.YtojkbndaleiaaaaDoor
