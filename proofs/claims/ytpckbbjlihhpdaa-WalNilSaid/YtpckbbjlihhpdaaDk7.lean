/- A disk's tear, where bytes are lost. -/
import Derived.Test.YtpckbbjlihhpdaaDk6
namespace Go.Proofs.Ytpckbbjlihhpdaa
open Go.RowKit Go.Maps Go.BigFrame

theorem Bs.to {w : World} {K cap : Nat} {A : Option Addr} {l : List UInt8} (h : Bs w K A cap l) {j : Nat} (hj : j ≤ l.length) : Bs w K A cap (l.take j) := by
  have hle := h.le
  have hlen : (l.take j).length = j := by simp; omega
  refine ⟨by omega, h.max, h.nil, fun hn => ?_⟩
  obtain ⟨ad, e, hb, hc⟩ := h.at_ (by omega)
  refine ⟨ad, e, hb, fun k c hk => hc k c ?_⟩
  rw [List.getElem?_take] at hk
  split at hk
  · exact hk
  · cases hk
theorem upd_upd (M : List Sg) {a b : Sg} (e : a.n = b.n) : upd (upd M a) b = upd M b := by
  unfold upd
  rw [List.map_map]
  refine List.map_congr_left fun t _ => ?_
  show (if (if t.n = a.n then a else t).n = b.n then b else (if t.n = a.n then a else t)) = if t.n = b.n then b else t
  by_cases h : t.n = a.n
  · rw [if_pos h, if_pos e, if_pos (h.trans e)]
  · rw [if_neg h]
theorem filter_upd (M : List Sg) (a : Sg) : ((upd M a).filter fun t => !decide (t.n = a.n)) = M.filter fun t => !decide (t.n = a.n) := by
  induction M with
  | nil => rfl
  | cons x M ih =>
    have e : upd (x :: M) a = (if x.n = a.n then a else x) :: upd M a := rfl
    rw [e]
    by_cases h : x.n = a.n
    · rw [if_pos h, List.filter_cons, List.filter_cons, ih]
      simp [h]
    · rw [if_neg h, List.filter_cons, List.filter_cons, ih]
theorem mem_upd_self {M : List Sg} {s a : Sg} (hs : s ∈ M) (e : a.n = s.n) : a ∈ upd M a := List.mem_map.2 ⟨s, hs, by simp [e]⟩
section
variable {K d mb : Nat} {room used fuse : Int} {down : Bool} {M : List Sg} {w : World} {n : Int}
/-- What a cut of a segment leaves, ahead of its settling. -/
theorem Dk.cutS {w2 : World} (h : Dk w K d mb room used fuse down M) {s : Sg} (hs : s ∈ M) {j : Nat} (hj : s.l ≤ j) (hj2 : j ≤ s.b.length) {A2 : Option Addr} {c2 N : Nat} (hN : N = j) (hb : Below w.heap.size w w2) (ob : Ob w2 w.heap.size (.slice A2 N c2) (s.b.take j)) :
    Dk (w2.setCell ⟨s.g, 0, none⟩ (.slice A2 N c2)) K d mb room used fuse down (upd M ⟨s.n, s.g, .slice A2 N c2, s.b.take j, s.l, s.k⟩) ∧ Tn (bl s) w (w2.setCell ⟨s.g, 0, none⟩ (.slice A2 N c2)) ∧ ∀ k, blD d mb (upd M ⟨s.n, s.g, .slice A2 N c2, s.b.take j, s.l, s.k⟩) k → blD d mb M k ∨ w.heap.size ≤ k := by
  subst hN
  have h2 := h.below hb
  have hc := h2.sg s hs
  have hlt := (h.sg s hs).lt
  have hKw : K ≤ w.heap.size := by have := h.kd; have := h.lt; omega
  have t4 := Tn.setCell w2 s.g 0 (.slice A2 N c2)
  have ho : (Value.slice A2 N c2).ownBlock ≠ some s.g := fun e => by have := (ob.lt _ e).1; omega
  have hlen : (s.b.take N).length = N := by simp; omega
  obtain ⟨D, B⟩ := h2.setN (N := w.heap.size) (fun _ hk => (h.top hk).2) (s' := ⟨s.n, s.g, .slice A2 N c2, s.b.take N, s.l, s.k⟩) hs rfl rfl (t4.mono fun k _ e => .inl e) ⟨World.cell?_setCell_same' _ _ _ (by rw [hc.c0]; rfl), by rw [World.cell?_setCell_other _ _ _ _ (by simp)]; exact hc.c1, by rw [World.cell?_setCell_other _ _ _ _ (by simp)]; exact hc.c2, fun o => by rw [World.frozen?_setCell]; exact hc.fr o, (t4.ob ob fun k hk e => ho (by rw [hk, e])).more hKw, hc.kg, by show s.l ≤ (s.b.take N).length; omega, ho, hc.n1, hc.n2⟩ (.inr fun k hk => (ob.lt k hk).1)
  exact ⟨D, (Tn.ofNew (P := bl s) hb).thenQ t4 fun k _ e => .inl e, B⟩
end
end Go.Proofs.Ytpckbbjlihhpdaa
