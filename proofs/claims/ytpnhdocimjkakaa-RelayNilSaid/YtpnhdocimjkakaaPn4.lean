/- append of a whole slice of flat elements, nil let in, onto a slice of the call's own. -/
import Derived.Test.YtpnhdocimjkakaaPn2
import Derived.Test.YtpnhdocimjkakaaProg
import Derived.Maps.AppendAt
import Derived.OwnWalk
import Derived.Laws.OwnMore
import Derived.Laws.Rows
import Derived.Deep.AppendLies
import Derived.Test.YtpnhdocimjkakaaPn1
namespace Go.Proofs.Ytpnhdocimjkakaa
open Go.RowKit

abbrev bv (c : UInt8) : Value := .int .u8 (c.toNat : Int)
/-- v is a slice of the call's own (blocks from K on) that holds the bytes l. -/
def Ob (w : World) (K : Nat) (v : Value) (l : List UInt8) : Prop := w.ownsRow K 5 1 v l.length (l.map bv)

theorem info_u8 : (Try.prog.info? 5).map (fun i => (i.zero, i.size, i.bytes)) = some (some (.int .u8 0), 1, 1) := by kernel_rfl

section
variable {w w' : World} {K : Nat} {l : List UInt8} {v : Value}
theorem Ob.empty (w : World) (K : Nat) : Ob w K (.slice none 0 0) [] := World.ownsRow_nil w K _ _
theorem Ob.bs {A : Option Addr} {n cap : Nat} (h : Ob w K (.slice A n cap) l) : Bs w w.heap.size A cap l ∧ n = l.length := by
  rcases h.2 with ⟨he, h0⟩ | ⟨g, cap', cur, he, hb, hg, hn, hc, hs, ht⟩
  · injection he with h1 h2 h3
    subst h1 h2 h3
    have : l = [] := List.eq_nil_of_length_eq_zero h0
    subst this
    exact ⟨⟨Nat.le_refl _, by unfold maxLen; omega, fun _ => rfl, fun h => absurd h (by simp)⟩, rfl⟩
  · injection he with h1 h2 h3
    subst h1 h2 h3
    refine ⟨⟨hn, hc, (fun h => by cases h), fun hl => ⟨_, rfl, ?_, fun k c hk => ?_⟩⟩, rfl⟩
    · rcases Nat.lt_or_ge g w.heap.size with hlt | hge
      · exact hlt
      · rw [Array.getElem?_eq_none hge] at hg; cases hg
    · exact h.cells (g := g) rfl k _ (by simp [hk])
theorem Ob.keep (h : Ob w K v l) {row : Option Nat} (hg : w.grownBy w' row) (hne : v.ownBlock = none ∨ v.ownBlock ≠ row) : Ob w' K v l := World.ownsRow.kept h hg hne
theorem Ob.below (h : Ob w K v l) (hb : Below w.heap.size w w') : Ob w' K v l :=
  World.ownsRow.kept (row := none) h ⟨hb.os, hb.tape, hb.output, hb.size, fun k hk _ => hb.block k hk⟩ (by cases h' : v.ownBlock <;> simp)
theorem Ob.alloc (h : Ob w K v l) (o : Obj) : Ob (w.alloc o) K v l := World.ownsRow.alloc h o
theorem Ob.drew (h : Ob w K v l) : Ob w.drew K v l := h
theorem Ob.lt (h : Ob w K v l) : ∀ k, v.ownBlock = some k → K ≤ k ∧ k < w.heap.size := World.ownsRow.lt h
theorem Ob.more {K' : Nat} (h : Ob w K v l) (hK : K' ≤ K) : Ob w K' v l := by
  rcases h.2 with ⟨he, h0⟩ | ⟨g, cap', cur, he, hb, hg⟩
  · exact ⟨h.1, .inl ⟨he, h0⟩⟩
  · exact ⟨h.1, .inr ⟨g, cap', cur, he, by omega, hg⟩⟩
theorem Ob.made {w1 : World} {n : Nat} (h : w1.ownsRow K 5 1 v n []) : Ob w1 K v [] := by
  have : n = 0 := by have := h.1; simp at this; omega
  subst this; exact h

theorem lit_bs (w : World) (T : TypeId) (cs : Array Value) (l : List UInt8) (h : cs.toList = l.map bv) (hl : l.length ≤ maxLen) : Bs (w.alloc (.cells cs T)) (w.heap.size + 1) (some ⟨w.heap.size, 0, none⟩) l.length l :=
  ⟨Nat.le_refl _, hl, (fun h => by cases h), fun _ => ⟨_, rfl, Nat.lt_succ_self _, fun k c hk => by
    have hadd : (⟨w.heap.size, 0, none⟩ : Addr).add k = ⟨w.heap.size, k, none⟩ := by unfold Addr.add; split <;> simp_all
    rw [hadd, cell_of_row (w.alloc (.cells cs T)) w.heap.size k cs T (0, 0) (heap_alloc_new w _), ← Array.getElem?_toList, h]
    simp [hk]⟩⟩

theorem lit_ob (w : World) (K H : Nat) (hH : w.heap.size = H) (hK : K ≤ H) (cs : Array Value) (n : Nat) (l : List UInt8) (h : cs.toList = l.map bv) (hn : l.length = n) (hm : n ≤ maxLen) : Ob (w.alloc (.cells cs 5)) K (.slice (some ⟨H, 0, none⟩) n n) l := by
  subst hH hn
  have := World.ownsRow_lit (e := 5) (size := 1) w cs l.length hK hm (by rw [← Array.length_toList, h]; simp)
  rw [h] at this
  exact this
theorem lit_bsH (w : World) (T : TypeId) (H : Nat) (hH : w.heap.size = H) (cs : Array Value) (n : Nat) (l : List UInt8) (h : cs.toList = l.map bv) (hn : l.length = n) (hm : n ≤ maxLen) : Bs (w.alloc (.cells cs T)) (H + 1) (some ⟨H, 0, none⟩) n l := by
  subst hH hn
  exact lit_bs w T cs l h hm

theorem lit_bsF (w : World) (T : TypeId) (fr : Nat × Nat) (H : Nat) (hH : w.heap.size = H) (cs : Array Value) (n : Nat) (l : List UInt8) (h : cs.toList = l.map bv) (hn : l.length = n) (hm : n ≤ maxLen) : Bs (w.alloc (.cells cs T fr)) (H + 1) (some ⟨H, 0, none⟩) n l := by
  subst hH hn
  refine ⟨Nat.le_refl _, hm, (fun h => by cases h), fun _ => ⟨_, rfl, Nat.lt_succ_self _, fun k c hk => ?_⟩⟩
  have hadd : (⟨w.heap.size, 0, none⟩ : Addr).add k = ⟨w.heap.size, k, none⟩ := by unfold Addr.add; split <;> simp_all
  rw [hadd, cell_of_row (w.alloc (.cells cs T fr)) w.heap.size k cs T fr (heap_alloc_new w _), ← Array.getElem?_toList, h]
  simp [hk]

theorem run_app (w : World) (ty : TypeId) {K K' : Nat} {v : Value} {l m : List UInt8} (hown : Ob w K v l) {A : Option Addr} {cap : Nat} (hsrc : Bs w K' A cap m)
    (hsz : l.length + m.length ≤ 140737488355328) (hbase : K ≤ w.heap.size) :
    ∃ A' cap' w', (Builtin.append_ #[23, 23] ty #[v, .slice A m.length cap]).run Try.prog w = .ok (.slice A' (l.length + m.length) cap') w' ∧ Ob w' K (.slice A' (l.length + m.length) cap') (l ++ m) ∧ w.grownBy w' v.ownBlock ∧
      ((Value.slice A' (l.length + m.length) cap').ownBlock = v.ownBlock ∨ (Value.slice A' (l.length + m.length) cap').ownBlock = some w.heap.size) := by
  have form : ∀ {w' : World} {v' : Value} {k : List UInt8}, Ob w' K v' k → ∃ A' cap', v' = .slice A' k.length cap' := fun h => by
    rcases h.2 with ⟨he, h0⟩ | ⟨g, cap', cur, he, _⟩
    · exact ⟨none, 0, by rw [he, h0]⟩
    · exact ⟨_, _, he⟩
  have hml : m.length ≤ maxLen := Nat.le_trans hsrc.le hsrc.max
  rcases A with _ | ad
  · have hc := hsrc.nil rfl
    have hm0 : m = [] := List.eq_nil_of_length_eq_zero (by have := hsrc.le; omega)
    subst hm0
    subst hc
    obtain ⟨A', cap', hv⟩ := form hown
    obtain ⟨i0, hi, _, _, _⟩ := info_parts info_u8
    have hrun := run_append_owned_none (P := Try.prog) w K 23 ty 5 i0 1 Try.underlying23 hi v _ _ hown
    exact ⟨A', cap', w, by rw [hv] at hrun ⊢; exact hrun, by rw [List.append_nil]; exact hv ▸ hown, ⟨rfl, rfl, rfl, Nat.le_refl _, fun _ _ _ => rfl⟩, .inl (by rw [hv]; rfl)⟩
  · obtain ⟨i0, hi, hz0, hz1, hz2⟩ := info_parts info_u8
    obtain ⟨v', w', hr, h2, h3, _, h5⟩ := run_append_own_at (P := Try.prog) w K 23 ty 5 i0 (.int .u8 0) 1 1 Try.underlying23 hi hz0 hz1 hz2 rfl (by decide) v _ _ hown ad m.length cap (m.map bv) (by simp)
      (fun j u hj => by
        simp only [List.getElem?_map, Option.map_eq_some_iff] at hj
        obtain ⟨c, hc, rfl⟩ := hj
        have hpos : 0 < m.length := by have := (List.getElem?_eq_some_iff.1 hc).1; omega
        obtain ⟨ad', he, _, hcell⟩ := hsrc.at_ hpos
        cases he
        exact hcell j c hc)
      (fun u hu => by
        simp only [List.mem_map] at hu
        obtain ⟨c, _, rfl⟩ := hu; rfl) (by unfold maxLen; omega) (by omega) hbase
    have h2' : Ob w' K v' (l ++ m) := by unfold Ob; rw [List.length_append, List.map_append]; exact h2
    obtain ⟨A', cap', hv⟩ := form h2'
    rw [List.length_append] at hv
    subst hv
    exact ⟨A', cap', w', hr, h2', h3, h5⟩

theorem wpList_app {ops : Array Oper} {rest : List Oper} {o : Oper} {a : Act} {Q : Exit → Act → World → Prop} (w : World) (hgd : o.guard = none) (s x : Operand)
    (ho : o.op = .call { callee := .builtin .append, args := #[s, x], argTypes := #[23, 23] })
    (K : Nat) (v : Value) (l : List UInt8) (hs : a.eval s = v) (hown : Ob w K v l) (A : Option Addr) (M cap : Nat) (m : List UInt8) (hx : a.eval x = .slice A M cap) (hM : m.length = M) (K' : Nat) (hsrc : Bs w K' A cap m)
    (N : Nat) (hN : l.length + m.length = N) (hsz : l.length + m.length ≤ 140737488355328) (hbase : K ≤ w.heap.size)
    (h : ∀ A' cap' w', Ob w' K (.slice A' N cap') (l ++ m) → w.grownBy w' v.ownBlock → ((Value.slice A' N cap').ownBlock = v.ownBlock ∨ (Value.slice A' N cap').ownBlock = some w.heap.size) → wpList Try.prog ops Q rest (a.put o.dst (.slice A' N cap')) w') : wpList Try.prog ops Q (o :: rest) a w := by
  subst hN hM
  refine wpList_plain hgd fun _ hK => ?_
  obtain ⟨A', cap', w', hr, h2, h3, h4⟩ := run_app w o.type hown hsrc hsz hbase
  unfold Oper.wp execOp
  simp only [ho, resolve, invoke, builtin, Sem.run_bind, Sem.run_pure, Result.andThen_ok, List.map_toArray, List.map_cons, List.map_nil, hs, hx, hr]
  exact hK _ _ (h A' cap' w' h2 h3 h4)
end

theorem Ob.stored {w : World} {K g n cap : Nat} {l : List UInt8} (h : Ob w K (.slice (some ⟨g, 0, none⟩) n cap) l) (j : Nat) (c : UInt8) : Ob (w.setCell ⟨g, j, none⟩ (bv c)) K (.slice (some ⟨g, 0, none⟩) n cap) (l.set j c) := by
  have hn := h.bs.2
  subst hn
  have := World.ownsRow.stored h j (bv c)
  unfold Ob
  rw [List.length_set, List.map_set]
  exact this.1
theorem add0 (g j : Nat) : (⟨g, 0, none⟩ : Addr).add j = ⟨g, j, none⟩ := by unfold Addr.add; split <;> simp_all
theorem Ob.addr {w : World} {K n cap : Nat} {A : Option Addr} {l : List UInt8} (h : Ob w K (.slice A n cap) l) (hn : 0 < n) : ∃ g, A = some ⟨g, 0, none⟩ ∧ K ≤ g ∧ g < w.heap.size := by
  have e := h.bs.2
  obtain ⟨g, cap', he, hg, hl⟩ := World.ownsRow.form (h := h) (by omega)
  injection he with h1 h2 h3
  exact ⟨g, h1, hg, hl⟩


theorem Ob.slot {w : World} {K g n cap k : Nat} {l : List UInt8} (h : Ob w K (.slice (some ⟨g, 0, none⟩) n cap) l) (hk : k < l.length) : w.cell? ⟨g, k, none⟩ = some (bv l[k]) ∧ w.frozen? ⟨g, k, none⟩ = false ∧ n = l.length ∧ n ≤ cap ∧ cap ≤ maxLen := by
  have h1 : w.ownsRow K 5 1 (.slice (some ⟨g, 0, none⟩) n cap) n (l.map bv) := by
    have h2 := h
    unfold Ob at h2
    rwa [← h.bs.2] at h2
  have hb := h.bs
  refine ⟨?_, h1.frozenAt k, hb.2, by have := hb.1.le; omega, hb.1.max⟩
  rw [h1.cellAt k (by omega)]
  simp [hk]

end Go.Proofs.Ytpnhdocimjkakaa
namespace Go.Proofs.Ytpnhdocimjkakaa
open Go.RowKit

section
variable {α : Type} {enc : α → List Value} {k : Nat} {P : Program}

theorem flatMap_len (henc : ∀ x, (enc x).length = k) (l : List α) : (l.flatMap enc).length = l.length * k := by
  induction l with
  | nil => simp
  | cons x l ih => rw [List.flatMap_cons, List.length_append, ih, henc, List.length_cons, Nat.add_mul]; omega
theorem flatMap_split (henc : ∀ x, (enc x).length = k) : ∀ (l : List α) (j : Nat) (u : Value), (l.flatMap enc)[j]? = some u → ∃ i x q, l[i]? = some x ∧ (enc x)[q]? = some u ∧ j = i * k + q
  | [], j, u, h => by simp at h
  | y :: l, j, u, h => by
    rw [List.flatMap_cons] at h
    by_cases hj : j < (enc y).length
    · rw [List.getElem?_append_left hj] at h
      exact ⟨0, y, j, rfl, h, by omega⟩
    · rw [List.getElem?_append_right (by omega)] at h
      obtain ⟨i, x, q, h1, h2, h3⟩ := flatMap_split henc l _ u h
      refine ⟨i + 1, x, q, by simpa using h1, h2, ?_⟩
      rw [henc] at h3 hj
      rw [Nat.add_mul]
      omega

theorem run_appE {T ST : TypeId} (hund : P.underlying ST = some (.slice T)) {z : Value} {bytes : Nat} (hinfo : (P.info? T).map (fun i => (i.zero, i.size, i.bytes)) = some (some z, k, bytes)) (hz : z.cells.size = k) (hk : 0 < k)
    (henc : ∀ x, (enc x).length = k) (h1 : ∀ x, ∀ u ∈ enc x, u.oneCell' = true) (w : World) (ty : TypeId) {K K' : Nat} {v : Value} {l m : List α} (hown : So enc k w K T v l) {A : Option Addr} {cap : Nat} (hsrc : Sr enc k w K' A cap m)
    (hm : l.length + m.length ≤ maxLen) (hsz : (l.length + m.length) * bytes ≤ 140737488355328) (hbase : K ≤ w.heap.size) :
    ∃ A' cap' w', (Builtin.append_ #[ST, ST] ty #[v, .slice A m.length cap]).run P w = .ok (.slice A' (l.length + m.length) cap') w' ∧ So enc k w' K T (.slice A' (l.length + m.length) cap') (l ++ m) ∧ w.grownBy w' v.ownBlock ∧
      ((Value.slice A' (l.length + m.length) cap').ownBlock = v.ownBlock ∨ (Value.slice A' (l.length + m.length) cap').ownBlock = some w.heap.size) := by
  obtain ⟨i0, hi, hz0, hz1, hz2⟩ := info_parts hinfo
  rcases A with _ | ad
  · have hc := hsrc.nil rfl
    have hm0 : m = [] := List.eq_nil_of_length_eq_zero (by have := hsrc.le; omega)
    subst hm0
    subst hc
    obtain ⟨A', cap', hv⟩ := hown.form
    have hrun := run_append_owned_none (P := P) w K ST ty T i0 k hund hi v _ _ hown
    exact ⟨A', cap', w, by rw [hv] at hrun ⊢; exact hrun, by rw [List.append_nil]; exact hv ▸ hown, ⟨rfl, rfl, rfl, Nat.le_refl _, fun _ _ _ => rfl⟩, .inl (by rw [hv]; rfl)⟩
  · obtain ⟨v', w', hr, h2, h3, _, h5⟩ := run_append_own_at (P := P) w K ST ty T i0 z k bytes hund hi hz0 hz1 hz2 hz hk v _ _ hown ad m.length cap (m.flatMap enc) (flatMap_len henc m)
      (fun j u hj => by
        obtain ⟨i, x, q, e1, e2, e3⟩ := flatMap_split henc m j u hj
        have hpos : 0 < m.length := by have := (List.getElem?_eq_some_iff.1 e1).1; omega
        obtain ⟨ad', he, _, hcell⟩ := hsrc.at_ hpos
        cases he
        rw [e3]
        exact hcell i x e1 q u e2)
      (fun u hu => by
        obtain ⟨x, _, hx⟩ := List.mem_flatMap.1 hu
        exact h1 x u hx) hm hsz hbase
    have h2' : So enc k w' K T v' (l ++ m) := by unfold So; rw [List.length_append, List.flatMap_append]; exact h2
    obtain ⟨A', cap', hv⟩ := h2'.form
    rw [List.length_append] at hv
    subst hv
    exact ⟨A', cap', w', hr, h2', h3, h5⟩

theorem wpList_appE {T ST : TypeId} (hund : P.underlying ST = some (.slice T)) {z : Value} {bytes : Nat} (hinfo : (P.info? T).map (fun i => (i.zero, i.size, i.bytes)) = some (some z, k, bytes)) (hz : z.cells.size = k) (hk : 0 < k)
    (henc : ∀ x, (enc x).length = k) (h1 : ∀ x, ∀ u ∈ enc x, u.oneCell' = true)
    {ops : Array Oper} {rest : List Oper} {o : Oper} {a : Act} {Q : Exit → Act → World → Prop} (w : World) (hgd : o.guard = none) (s x : Operand)
    (ho : o.op = .call { callee := .builtin .append, args := #[s, x], argTypes := #[ST, ST] })
    (K : Nat) (v : Value) (l : List α) (hs : a.eval s = v) (hown : So enc k w K T v l) (A : Option Addr) (M cap : Nat) (m : List α) (hx : a.eval x = .slice A M cap) (hM : m.length = M) (K' : Nat) (hsrc : Sr enc k w K' A cap m)
    (N : Nat) (hN : l.length + m.length = N) (hm : N ≤ maxLen) (hsz : N * bytes ≤ 140737488355328) (hbase : K ≤ w.heap.size)
    (h : ∀ A' cap' w', So enc k w' K T (.slice A' N cap') (l ++ m) → w.grownBy w' v.ownBlock → ((Value.slice A' N cap').ownBlock = v.ownBlock ∨ (Value.slice A' N cap').ownBlock = some w.heap.size) → wpList P ops Q rest (a.put o.dst (.slice A' N cap')) w') : wpList P ops Q (o :: rest) a w := by
  subst hN hM
  refine wpList_plain hgd fun _ hK => ?_
  obtain ⟨A', cap', w', hr, h2, h3, h4⟩ := run_appE hund hinfo hz hk henc h1 w o.type hown hsrc hm hsz hbase
  unfold Oper.wp execOp
  simp only [ho, resolve, invoke, builtin, Sem.run_bind, Sem.run_pure, Result.andThen_ok, List.map_toArray, List.map_cons, List.map_nil, hs, hx, hr]
  exact hK _ _ (h A' cap' w' h2 h3 h4)

theorem lit_so (w : World) (K : Nat) (T : TypeId) (H : Nat) (hH : w.heap.size = H) (hK : K ≤ H) (cs : Array Value) (n : Nat) (l : List α) (henc : ∀ x, (enc x).length = k) (h : cs.toList = l.flatMap enc) (hn : l.length = n) (hm : n ≤ maxLen) : So enc k (w.alloc (.cells cs T)) K T (.slice (some ⟨H, 0, none⟩) n n) l := by
  subst hH hn
  have := World.ownsRow_lit (e := T) (size := k) w cs l.length hK hm (by rw [← Array.length_toList, h, flatMap_len henc])
  rw [h] at this
  exact this
end
end Go.Proofs.Ytpnhdocimjkakaa
