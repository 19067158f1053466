/- A law for a statement whose order is open, whose operations only make new memory, but for the last but one, a call that waits for all others and turns memory, and whose result the last one takes. -/
import Derived.WalkKit
import Derived.WalkSpells
import Derived.WalkLawsBesides
import Derived.Handy
import Derived.Lib.Hide
import Derived.Deep.RegionHeld3
import Derived.Deep.DeepCutAuto
import Derived.Test.YtpckbbjlihhpdaaProg
import Derived.Maps.AppendAt
import Derived.OwnWalk
import Derived.Laws.OwnMore
import Derived.Laws.Rows
import Derived.Deep.AppendLies
import Derived.Maps.OwnSet
import Derived.Lib.SlKeysI
import Derived.Deep.QuietTactic
import Derived.LoopTactic
import Derived.Ground.SlgmProg
import Derived.Ground.GgzProg
import Derived.Shelf.SortM.SortNone
import Derived.Shelf.SortM.Plain
import Derived.Shelf.SlIterI.Nil
import Derived.Shelf.SlGeneric
import Derived.Shelf.Small.Bits
import Derived.Shelf.Strconv.Itoa0
import Derived.BigQuiet
import Derived.Deep.RegionLaw
import Derived.Laws.BytesArg
import Derived.Lib.SlBytesConst
import Derived.Test.YtpckbbjlihhpdaaRows
import Derived.ProofKit
import Derived.OpenShut
import Derived.Carry
import Derived.ChangeSlices
import Derived.SizedLaws
import Derived.JoinedCond
import Derived.Deep.CondSized
import Derived.Deep.Strs
import Derived.Lib.SmallJoins
import Derived.Orders
namespace Go.Proofs.Ytpckbbjlihhpdaa
open Go.RowKit

theorem bcell {W w1 : World} (hb : Below W.heap.size W w1) : (∀ b o, b < W.heap.size → w1.cell? ⟨b, o, none⟩ = W.cell? ⟨b, o, none⟩) ∧ (∀ b o, b < W.heap.size → w1.frozen? ⟨b, o, none⟩ = W.frozen? ⟨b, o, none⟩) :=
  ⟨fun b o h => hb.cell (p := ⟨b, o, none⟩) h, fun b o h => hb.frozen (p := ⟨b, o, none⟩) h⟩
/-- What a call made behind a world that had only grown. -/
theorem via {B : Nat} {w W w1 : World} (hb : Below W.heap.size W w1) (h : Below B w W) (hB : B ≤ W.heap.size) : Below B w w1 := h.trans (hb.mono hB)
theorem kept {W w1 : World} {p : Addr} {v : Value} (hb : Below W.heap.size W w1) (h : W.cell? p = some v) : w1.cell? p = some v :=
  (hb.cell (World.block_lt_of_cell? W p h)).trans h
theorem keptD {X : World} {p : Addr} {v : Value} (h : X.cell? p = some v) : X.drew.cell? p = some v := h
theorem keptA {X : World} {p : Addr} {v : Value} {o : Obj} (h : X.cell? p = some v) : (X.alloc o).cell? p = some v :=
  (World.cell?_alloc_lt _ _ _ (World.block_lt_of_cell? X p h)).trans h
theorem ret_int {k : IntKind} {a b : Int} (h : a = b) : Ending.returned (.int k a) = .returned (.int k b) := by rw [h]
theorem ret_bool {a b : Bool} (h : a = b) : Ending.returned (.bool a) = .returned (.bool b) := by rw [h]

end Go.Proofs.Ytpckbbjlihhpdaa
namespace Go.Proofs.Ytpckbbjlihhpdaa
open Go.RowKit

theorem block_of_add (a : Addr) (n : Nat) : (a.add n).block = a.block := by unfold Addr.add; split <;> rfl
theorem add_of_add (a : Addr) (i j : Nat) : (a.add i).add j = a.add (i + j) := by
  unfold Addr.add
  by_cases hi : i = 0 <;> by_cases hj : j = 0 <;> simp [hi, hj, Nat.add_assoc]

/-- The slice with address A, length n and capacity cap reads as the bytes l, in memory below block K. -/
structure Bs (w : World) (K : Nat) (A : Option Addr) (cap : Nat) (l : List UInt8) : Prop where
  le : l.length ≤ cap
  max : cap ≤ maxLen
  nil : A = none → cap = 0
  at_ : 0 < l.length → ∃ ad : Addr, A = some ad ∧ ad.block < K ∧ ∀ k c, l[k]? = some c → w.cell? (ad.add k) = some (.int .u8 (c.toNat : Int))

section
variable {w w' : World} {K K' cap : Nat} {A : Option Addr} {l : List UInt8}
theorem Bs.get (h : Bs w K A cap l) {k : Nat} (hk : k < l.length) : ∃ ad : Addr, A = some ad ∧ ad.block < K ∧ w.cell? (ad.add k) = some (.int .u8 (l[k].toNat : Int)) := by
  obtain ⟨ad, e, hb, hc⟩ := h.at_ (by omega)
  exact ⟨ad, e, hb, hc k _ (List.getElem?_eq_getElem hk)⟩
theorem Bs.keep (h : Bs w K A cap l) (hk : ∀ p : Addr, p.block < K → w'.cell? p = w.cell? p) : Bs w' K A cap l :=
  ⟨h.le, h.max, h.nil, fun hn => by
    obtain ⟨ad, e, hb, hc⟩ := h.at_ hn
    exact ⟨ad, e, hb, fun j u hu => (hk _ (by rw [block_of_add]; exact hb)).trans (hc j u hu)⟩⟩
theorem Bs.cut (h : Bs w K A cap l) {i j : Nat} (hij : i ≤ j) (hj : j ≤ l.length) : Bs w K (if cap = i then A else A.map (·.add i)) (cap - i) ((l.drop i).take (j - i)) := by
  have hle := h.le
  have hmax := h.max
  have hlen : ((l.drop i).take (j - i)).length = j - i := by simp; omega
  refine ⟨by rw [hlen]; omega, by omega, fun hn => ?_, fun hn => ?_⟩
  · by_cases e : cap = i
    · omega
    · rw [if_neg e] at hn
      have : A = none := by cases A <;> simp_all
      have := h.nil this
      omega
  · rw [hlen] at hn
    obtain ⟨ad, rfl, hb, hc⟩ := h.at_ (by omega)
    rw [if_neg (by omega)]
    refine ⟨_, rfl, by rw [block_of_add]; exact hb, fun k c hk => ?_⟩
    rw [add_of_add]
    refine hc _ c ?_
    rw [List.getElem?_take] at hk
    split at hk
    · rwa [List.getElem?_drop] at hk
    · cases hk
theorem Bs.some_ (h : Bs w K A cap l) (hl : 0 < l.length) : ∃ ad : Addr, A = some ad ∧ ad.block < K := by
  obtain ⟨ad, e, hb, _⟩ := h.at_ hl
  exact ⟨ad, e, hb⟩
theorem Bs.cutS {ad : Addr} (h : Bs w K (some ad) cap l) {i j : Nat} (hi : 0 < i) (hij : i ≤ j) (hj : j ≤ l.length) (hc : i < cap) : Bs w K (some ⟨ad.block, ad.off + i, none⟩) (cap - i) ((l.drop i).take (j - i)) := by
  have := h.cut hij hj
  rw [if_neg (by omega)] at this
  have e : ad.add i = ⟨ad.block, ad.off + i, none⟩ := by unfold Addr.add; rw [if_neg (by omega)]
  rwa [Option.map_some, e] at this
theorem Bs.c {ad : Addr} (h : Bs w K (some ad) cap l) (i : Nat) (hi : 0 < i) (hil : i < l.length) : w.cell? ⟨ad.block, ad.off + i, none⟩ = some (.int .u8 ((l.getD i 0).toNat : Int)) := by
  obtain ⟨ad', e, _, hc⟩ := h.get hil
  cases e
  have e : ad.add i = ⟨ad.block, ad.off + i, none⟩ := by unfold Addr.add; rw [if_neg (by omega)]
  rw [e] at hc
  rw [hc]; simp [hil]
theorem Bs.c0 {ad : Addr} (h : Bs w K (some ad) cap l) (hil : 0 < l.length) : w.cell? ad = some (.int .u8 ((l.getD 0 0).toNat : Int)) := by
  obtain ⟨ad', e, _, hc⟩ := h.get hil
  cases e
  have e : ad.add 0 = ad := by unfold Addr.add; rw [if_pos rfl]
  rw [e] at hc
  rw [hc]; simp [hil]
theorem Bs.drew (h : Bs w K A cap l) : Bs w.drew K A cap l := ⟨h.le, h.max, h.nil, h.at_⟩
theorem Bs.drewN (h : Bs w K A cap l) (n : Nat) : Bs (w.drewN n) K A cap l := ⟨h.le, h.max, h.nil, h.at_⟩
theorem Bs.more (h : Bs w K A cap l) (hB : K ≤ K') : Bs w K' A cap l :=
  ⟨h.le, h.max, h.nil, fun hn => by
    obtain ⟨ad, e, hb, hc⟩ := h.at_ hn
    exact ⟨ad, e, by omega, hc⟩⟩
theorem Bs.alloc (h : Bs w K A cap l) (hK : K ≤ w.heap.size) (o : Obj) : Bs (w.alloc o) K A cap l := h.keep fun _ hp => World.cell?_alloc_lt _ _ _ (by omega)
theorem Bs.below (h : Bs w K A cap l) (hb : Below K w w') : Bs w' K A cap l := h.keep fun _ hp => hb.cell hp
end

end Go.Proofs.Ytpckbbjlihhpdaa
namespace Go.Proofs.Ytpckbbjlihhpdaa
open Go.RowKit

abbrev bv (c : UInt8) : Value := .int .u8 (c.toNat : Int)
/-- v is a slice of the call's own (blocks from K on) that holds the bytes l. -/
def Ob (w : World) (K : Nat) (v : Value) (l : List UInt8) : Prop := w.ownsRow K 5 1 v l.length (l.map bv)

theorem info_u8 : (Try.prog.info? 5).map (fun i => (i.zero, i.size, i.bytes)) = some (some (.int .u8 0), 1, 1) := by kernel_rfl

section
variable {w w' : World} {K : Nat} {l : List UInt8} {v : Value}
theorem Ob.empty (w : World) (K : Nat) : Ob w K (.slice none 0 0) [] := World.ownsRow_nil w K _ _
theorem Ob.bs {A : Option Addr} {n cap : Nat} (h : Ob w K (.slice A n cap) l) : Bs w w.heap.size A cap l ∧ n = l.length := by
  rcases h.2 with ⟨he, h0⟩ | ⟨g, cap', cur, he, hb, hg, hn, hc, hs, ht⟩
  · injection he with h1 h2 h3
    subst h1 h2 h3
    have : l = [] := List.eq_nil_of_length_eq_zero h0
    subst this
    exact ⟨⟨Nat.le_refl _, by unfold maxLen; omega, fun _ => rfl, fun h => absurd h (by simp)⟩, rfl⟩
  · injection he with h1 h2 h3
    subst h1 h2 h3
    refine ⟨⟨hn, hc, (fun h => by cases h), fun hl => ⟨_, rfl, ?_, fun k c hk => ?_⟩⟩, rfl⟩
    · rcases Nat.lt_or_ge g w.heap.size with hlt | hge
      · exact hlt
      · rw [Array.getElem?_eq_none hge] at hg; cases hg
    · exact h.cells (g := g) rfl k _ (by simp [hk])
theorem Ob.keep (h : Ob w K v l) {row : Option Nat} (hg : w.grownBy w' row) (hne : v.ownBlock = none ∨ v.ownBlock ≠ row) : Ob w' K v l := World.ownsRow.kept h hg hne
theorem Ob.below (h : Ob w K v l) (hb : Below w.heap.size w w') : Ob w' K v l :=
  World.ownsRow.kept (row := none) h ⟨hb.os, hb.tape, hb.output, hb.size, fun k hk _ => hb.block k hk⟩ (by cases h' : v.ownBlock <;> simp)
theorem Ob.alloc (h : Ob w K v l) (o : Obj) : Ob (w.alloc o) K v l := World.ownsRow.alloc h o
theorem Ob.drew (h : Ob w K v l) : Ob w.drew K v l := h
theorem Ob.lt (h : Ob w K v l) : ∀ k, v.ownBlock = some k → K ≤ k ∧ k < w.heap.size := World.ownsRow.lt h
theorem Ob.more {K' : Nat} (h : Ob w K v l) (hK : K' ≤ K) : Ob w K' v l := by
  rcases h.2 with ⟨he, h0⟩ | ⟨g, cap', cur, he, hb, hg⟩
  · exact ⟨h.1, .inl ⟨he, h0⟩⟩
  · exact ⟨h.1, .inr ⟨g, cap', cur, he, by omega, hg⟩⟩
theorem Ob.made {w1 : World} {n : Nat} (h : w1.ownsRow K 5 1 v n []) : Ob w1 K v [] := by
  have : n = 0 := by have := h.1; simp at this; omega
  subst this; exact h

theorem lit_bs (w : World) (T : TypeId) (cs : Array Value) (l : List UInt8) (h : cs.toList = l.map bv) (hl : l.length ≤ maxLen) : Bs (w.alloc (.cells cs T)) (w.heap.size + 1) (some ⟨w.heap.size, 0, none⟩) l.length l :=
  ⟨Nat.le_refl _, hl, (fun h => by cases h), fun _ => ⟨_, rfl, Nat.lt_succ_self _, fun k c hk => by
    have hadd : (⟨w.heap.size, 0, none⟩ : Addr).add k = ⟨w.heap.size, k, none⟩ := by unfold Addr.add; split <;> simp_all
    rw [hadd, cell_of_row (w.alloc (.cells cs T)) w.heap.size k cs T (0, 0) (heap_alloc_new w _), ← Array.getElem?_toList, h]
    simp [hk]⟩⟩

theorem lit_ob (w : World) (K H : Nat) (hH : w.heap.size = H) (hK : K ≤ H) (cs : Array Value) (n : Nat) (l : List UInt8) (h : cs.toList = l.map bv) (hn : l.length = n) (hm : n ≤ maxLen) : Ob (w.alloc (.cells cs 5)) K (.slice (some ⟨H, 0, none⟩) n n) l := by
  subst hH hn
  have := World.ownsRow_lit (e := 5) (size := 1) w cs l.length hK hm (by rw [← Array.length_toList, h]; simp)
  rw [h] at this
  exact this
theorem lit_bsH (w : World) (T : TypeId) (H : Nat) (hH : w.heap.size = H) (cs : Array Value) (n : Nat) (l : List UInt8) (h : cs.toList = l.map bv) (hn : l.length = n) (hm : n ≤ maxLen) : Bs (w.alloc (.cells cs T)) (H + 1) (some ⟨H, 0, none⟩) n l := by
  subst hH hn
  exact lit_bs w T cs l h hm

theorem lit_bsF (w : World) (T : TypeId) (fr : Nat × Nat) (H : Nat) (hH : w.heap.size = H) (cs : Array Value) (n : Nat) (l : List UInt8) (h : cs.toList = l.map bv) (hn : l.length = n) (hm : n ≤ maxLen) : Bs (w.alloc (.cells cs T fr)) (H + 1) (some ⟨H, 0, none⟩) n l := by
  subst hH hn
  refine ⟨Nat.le_refl _, hm, (fun h => by cases h), fun _ => ⟨_, rfl, Nat.lt_succ_self _, fun k c hk => ?_⟩⟩
  have hadd : (⟨w.heap.size, 0, none⟩ : Addr).add k = ⟨w.heap.size, k, none⟩ := by unfold Addr.add; split <;> simp_all
  rw [hadd, cell_of_row (w.alloc (.cells cs T fr)) w.heap.size k cs T fr (heap_alloc_new w _), ← Array.getElem?_toList, h]
  simp [hk]

theorem run_app (w : World) (ty : TypeId) {K K' : Nat} {v : Value} {l m : List UInt8} (hown : Ob w K v l) {A : Option Addr} {cap : Nat} (hsrc : Bs w K' A cap m)
    (hsz : l.length + m.length ≤ 140737488355328) (hbase : K ≤ w.heap.size) :
    ∃ A' cap' w', (Builtin.append_ #[30, 30] ty #[v, .slice A m.length cap]).run Try.prog w = .ok (.slice A' (l.length + m.length) cap') w' ∧ Ob w' K (.slice A' (l.length + m.length) cap') (l ++ m) ∧ w.grownBy w' v.ownBlock ∧
      ((Value.slice A' (l.length + m.length) cap').ownBlock = v.ownBlock ∨ (Value.slice A' (l.length + m.length) cap').ownBlock = some w.heap.size) := by
  have form : ∀ {w' : World} {v' : Value} {k : List UInt8}, Ob w' K v' k → ∃ A' cap', v' = .slice A' k.length cap' := fun h => by
    rcases h.2 with ⟨he, h0⟩ | ⟨g, cap', cur, he, _⟩
    · exact ⟨none, 0, by rw [he, h0]⟩
    · exact ⟨_, _, he⟩
  have hml : m.length ≤ maxLen := Nat.le_trans hsrc.le hsrc.max
  rcases A with _ | ad
  · have hc := hsrc.nil rfl
    have hm0 : m = [] := List.eq_nil_of_length_eq_zero (by have := hsrc.le; omega)
    subst hm0
    subst hc
    obtain ⟨A', cap', hv⟩ := form hown
    obtain ⟨i0, hi, _, _, _⟩ := info_parts info_u8
    have hrun := run_append_owned_none (P := Try.prog) w K 30 ty 5 i0 1 Try.underlying30 hi v _ _ hown
    exact ⟨A', cap', w, by rw [hv] at hrun ⊢; exact hrun, by rw [List.append_nil]; exact hv ▸ hown, ⟨rfl, rfl, rfl, Nat.le_refl _, fun _ _ _ => rfl⟩, .inl (by rw [hv]; rfl)⟩
  · obtain ⟨i0, hi, hz0, hz1, hz2⟩ := info_parts info_u8
    obtain ⟨v', w', hr, h2, h3, _, h5⟩ := run_append_own_at (P := Try.prog) w K 30 ty 5 i0 (.int .u8 0) 1 1 Try.underlying30 hi hz0 hz1 hz2 rfl (by decide) v _ _ hown ad m.length cap (m.map bv) (by simp)
      (fun j u hj => by
        simp only [List.getElem?_map, Option.map_eq_some_iff] at hj
        obtain ⟨c, hc, rfl⟩ := hj
        have hpos : 0 < m.length := by have := (List.getElem?_eq_some_iff.1 hc).1; omega
        obtain ⟨ad', he, _, hcell⟩ := hsrc.at_ hpos
        cases he
        exact hcell j c hc)
      (fun u hu => by
        simp only [List.mem_map] at hu
        obtain ⟨c, _, rfl⟩ := hu; rfl) (by unfold maxLen; omega) (by omega) hbase
    have h2' : Ob w' K v' (l ++ m) := by unfold Ob; rw [List.length_append, List.map_append]; exact h2
    obtain ⟨A', cap', hv⟩ := form h2'
    rw [List.length_append] at hv
    subst hv
    exact ⟨A', cap', w', hr, h2', h3, h5⟩

theorem wpList_app {ops : Array Oper} {rest : List Oper} {o : Oper} {a : Act} {Q : Exit → Act → World → Prop} (w : World) (hgd : o.guard = none) (s x : Operand)
    (ho : o.op = .call { callee := .builtin .append, args := #[s, x], argTypes := #[30, 30] })
    (K : Nat) (v : Value) (l : List UInt8) (hs : a.eval s = v) (hown : Ob w K v l) (A : Option Addr) (M cap : Nat) (m : List UInt8) (hx : a.eval x = .slice A M cap) (hM : m.length = M) (K' : Nat) (hsrc : Bs w K' A cap m)
    (N : Nat) (hN : l.length + m.length = N) (hsz : l.length + m.length ≤ 140737488355328) (hbase : K ≤ w.heap.size)
    (h : ∀ A' cap' w', Ob w' K (.slice A' N cap') (l ++ m) → w.grownBy w' v.ownBlock → ((Value.slice A' N cap').ownBlock = v.ownBlock ∨ (Value.slice A' N cap').ownBlock = some w.heap.size) → wpList Try.prog ops Q rest (a.put o.dst (.slice A' N cap')) w') : wpList Try.prog ops Q (o :: rest) a w := by
  subst hN hM
  refine wpList_plain hgd fun _ hK => ?_
  obtain ⟨A', cap', w', hr, h2, h3, h4⟩ := run_app w o.type hown hsrc hsz hbase
  unfold Oper.wp execOp
  simp only [ho, resolve, invoke, builtin, Sem.run_bind, Sem.run_pure, Result.andThen_ok, List.map_toArray, List.map_cons, List.map_nil, hs, hx, hr]
  exact hK _ _ (h A' cap' w' h2 h3 h4)
end

theorem Ob.stored {w : World} {K g n cap : Nat} {l : List UInt8} (h : Ob w K (.slice (some ⟨g, 0, none⟩) n cap) l) (j : Nat) (c : UInt8) : Ob (w.setCell ⟨g, j, none⟩ (bv c)) K (.slice (some ⟨g, 0, none⟩) n cap) (l.set j c) := by
  have hn := h.bs.2
  subst hn
  have := World.ownsRow.stored h j (bv c)
  unfold Ob
  rw [List.length_set, List.map_set]
  exact this.1
theorem add0 (g j : Nat) : (⟨g, 0, none⟩ : Addr).add j = ⟨g, j, none⟩ := by unfold Addr.add; split <;> simp_all
theorem Ob.addr {w : World} {K n cap : Nat} {A : Option Addr} {l : List UInt8} (h : Ob w K (.slice A n cap) l) (hn : 0 < n) : ∃ g, A = some ⟨g, 0, none⟩ ∧ K ≤ g ∧ g < w.heap.size := by
  have e := h.bs.2
  obtain ⟨g, cap', he, hg, hl⟩ := World.ownsRow.form (h := h) (by omega)
  injection he with h1 h2 h3
  exact ⟨g, h1, hg, hl⟩


theorem Ob.slot {w : World} {K g n cap k : Nat} {l : List UInt8} (h : Ob w K (.slice (some ⟨g, 0, none⟩) n cap) l) (hk : k < l.length) : w.cell? ⟨g, k, none⟩ = some (bv l[k]) ∧ w.frozen? ⟨g, k, none⟩ = false ∧ n = l.length ∧ n ≤ cap ∧ cap ≤ maxLen := by
  have h1 : w.ownsRow K 5 1 (.slice (some ⟨g, 0, none⟩) n cap) n (l.map bv) := by
    have h2 := h
    unfold Ob at h2
    rwa [← h.bs.2] at h2
  have hb := h.bs
  refine ⟨?_, h1.frozenAt k, hb.2, by have := hb.1.le; omega, hb.1.max⟩
  rw [h1.cellAt k (by omega)]
  simp [hk]

end Go.Proofs.Ytpckbbjlihhpdaa
namespace Go.Proofs.Ytpckbbjlihhpdaa
open Go.RowKit

structure Tn (P : Nat → Prop) (w w' : World) : Prop where
  os : w'.os = w.os
  tape : w'.tape = w.tape
  output : w'.output = w.output
  size : w.heap.size ≤ w'.heap.size
  block : ∀ k, k < w.heap.size → ¬ P k → w'.heap[k]? = w.heap[k]?

section
variable {P Q R : Nat → Prop} {w w1 w2 w' : World}
theorem Tn.refl (P : Nat → Prop) (w : World) : Tn P w w := ⟨rfl, rfl, rfl, Nat.le_refl _, fun _ _ _ => rfl⟩
theorem Tn.thenQ (h : Tn P w w1) (h2 : Tn Q w1 w2) (hQ : ∀ k, k < w.heap.size → Q k → P k) : Tn P w w2 :=
  ⟨h2.os.trans h.os, h2.tape.trans h.tape, h2.output.trans h.output, Nat.le_trans h.size h2.size, fun k hk hn =>
    (h2.block k (Nat.lt_of_lt_of_le hk h.size) (fun q => hn (hQ k hk q))).trans (h.block k hk hn)⟩
theorem Tn.then (h : Tn P w w1) (h2 : Tn P w1 w2) : Tn P w w2 := h.thenQ h2 fun _ _ h => h
theorem Tn.mono (h : Tn P w w') (hP : ∀ k, k < w.heap.size → P k → Q k) : Tn Q w w' :=
  ⟨h.os, h.tape, h.output, h.size, fun k hk hn => h.block k hk fun p => hn (hP k hk p)⟩
theorem Tn.ofBelow {B : Nat} (h : Below B w w') : Tn (B ≤ ·) w w' := ⟨h.os, h.tape, h.output, h.size, fun k _ hn => h.block k (by omega)⟩
theorem Tn.ofNew (h : Below w.heap.size w w') : Tn P w w' := ⟨h.os, h.tape, h.output, h.size, fun k hk _ => h.block k hk⟩
theorem Tn.below {B : Nat} (h : Tn P w w') (hB : B ≤ w.heap.size) (hP : ∀ k, k < w.heap.size → P k → B ≤ k) : Below B w w' :=
  ⟨h.os, h.tape, h.output, h.size, fun k hk => h.block k (by omega) fun p => by have := hP k (by omega) p; omega⟩
theorem Tn.ofGrown {row : Option Nat} (h : w.grownBy w' row) : Tn (fun k => some k = row) w w' := ⟨h.os, h.tape, h.output, h.size, fun k hk hn => h.block k hk hn⟩
theorem Tn.setCell (w : World) (b o : Nat) (v : Value) : Tn (· = b) w (w.setCell ⟨b, o, none⟩ v) :=
  ⟨rfl, rfl, rfl, by simp [World.setCell], fun k _ hn => by
    simp only [World.setCell]; rw [Array.getElem?_modify, if_neg (fun e => hn e.symm)]⟩
theorem Tn.alloc (w : World) (o : Obj) : Tn P w (w.alloc o) := ⟨rfl, rfl, rfl, by simp, fun k hk _ => Below.heap_alloc w o k hk⟩
theorem Tn.drew (w : World) : Tn P w w.drew := ⟨rfl, rfl, rfl, Nat.le_refl _, fun _ _ _ => rfl⟩
theorem Tn.cell (h : Tn P w w') {p : Addr} {v : Value} (hc : w.cell? p = some v) (hn : ¬ P p.block) : w'.cell? p = some v :=
  (World.cell?_of_block (h.block _ (World.block_lt_of_cell? w _ hc) hn)).trans hc
theorem Tn.frozen (h : Tn P w w') {p : Addr} (hp : p.block < w.heap.size) (hn : ¬ P p.block) : w'.frozen? p = w.frozen? p :=
  World.frozen?_of_block (h.block _ hp hn)
theorem Tn.ob (h : Tn P w w') {K : Nat} {v : Value} {l : List UInt8} (ho : Ob w K v l) (hn : ∀ k, v.ownBlock = some k → ¬ P k) : Ob w' K v l := by
  have hlt := ho.lt
  rcases ho.2 with ⟨he, h0⟩ | ⟨g, cap', cur, he, hb, hg, hrest⟩
  · exact ⟨ho.1, .inl ⟨he, h0⟩⟩
  · subst he
    exact ⟨ho.1, .inr ⟨g, cap', cur, rfl, hb, (h.block g (hlt g rfl).2 (hn g rfl)).trans hg, hrest⟩⟩
theorem Tn.bs (h : Tn P w w') {K : Nat} {A : Option Addr} {cap : Nat} {l : List UInt8} (hb : Bs w K A cap l) (hn : 0 < l.length → ∀ ad : Addr, A = some ad → ¬ P ad.block) : Bs w' K A cap l :=
  ⟨hb.le, hb.max, hb.nil, fun hl => by
    obtain ⟨ad, e, hk, hc⟩ := hb.at_ hl
    refine ⟨ad, e, hk, fun k c hkc => ?_⟩
    have := hc k c hkc
    have hbl : (ad.add k).block = ad.block := block_of_add ad k
    have hlt := World.block_lt_of_cell? w _ this
    generalize ad.add k = q at *
    obtain ⟨qb, qo, qx⟩ := q
    exact h.cell this (by rw [hbl]; exact hn hl ad e)⟩
end
end Go.Proofs.Ytpckbbjlihhpdaa
namespace Go.Proofs.Ytpckbbjlihhpdaa
open Go.RowKit

theorem grown_below {W w w1 : World} {v : Value} {B : Nat} (h : Below B W w) (hg : w.grownBy w1 v.ownBlock) (hB : B ≤ w.heap.size) (ho : ∀ k, v.ownBlock = some k → B ≤ k) : Below B W w1 := h.grown hg hB ho
/-- A new slice with the bytes l; nothing else has turned. -/
def NewBytes (w : World) (l : List UInt8) (e : Ending) (w' : World) : Prop :=
  ∃ A' cap', e = .returned (.slice A' l.length cap') ∧ Ob w' w.heap.size (.slice A' l.length cap') l ∧ Below w.heap.size w w'

theorem clone_any (K : Nat) (A : Option Addr) (n cap : Nat) (l : List UInt8) (w : World) (hn : l.length = n) (hb : Bs w K A cap l) (hK : K ≤ w.heap.size) (hsz : l.length ≤ 140737488355328) :
    Calls Try.prog 55 #[.slice A n cap] w (NewBytes w l) := by
  subst hn
  have hle := hb.le
  have hmax := hb.max
  unfold maxLen at hmax
  cases A with
  | none =>
    have hc := hb.nil rfl
    have hl : l = [] := List.eq_nil_of_length_eq_zero (by omega)
    subst hl hc
    have hq := Lib.run_eql_slice_nil (P := Try.prog) w 30 5 none 0 0 0 0 Try.underlying30
    go_enter Try.func55, Try.ntmps55
    go_wp2
    go_ret
    exact ⟨none, 0, rfl, Ob.empty _ _, Below.refl _ _⟩
  | some ad =>
    have hq := Lib.run_eql_slice_nil (P := Try.prog) w 30 5 (some ad) l.length cap 0 0 Try.underlying30
    go_enter Try.func55, Try.ntmps55
    go_wp2_with (at_builtin; refine wpList_app _ rfl (.tmp 5) (.tmp 6) rfl w.heap.size (.slice (some ⟨w.heap.size, 0, none⟩) 0 0) [] rfl (lit_ob _ w.heap.size w.heap.size rfl (Nat.le_refl _) _ 0 [] rfl rfl (by decide)) (some ad) l.length cap l rfl rfl K (hb.alloc hK _) l.length (by simp) (by simpa using hsz) (by simp) ?_; intro A2 cap2 w2 hown2 hgrow2 hat2; have B2 : Below w.heap.size w w2 := grown_below ((Below.refl _ _).alloc (Nat.le_refl _) _) hgrow2 (by simp) (by simp [Value.ownBlock]))
    go_ret
    exact ⟨A2, cap2, rfl, hown2, B2⟩
end Go.Proofs.Ytpckbbjlihhpdaa
namespace Go.Proofs.Ytpckbbjlihhpdaa
open Go.RowKit Go.Maps

/-- A segment: its number, its block, its bytes' value, its bytes, how many of them last, whether it lasts. -/
structure Sg where
  n : Int
  g : Nat
  v : Value
  b : List UInt8
  l : Nat
  k : Bool
def eSg (s : Sg) : Lit × DataW Unit := (.int .i64 s.n, .lit (.int .i64 s.g))
def Dm (M : List Sg) : DataW Unit := .map (M.map eSg)
def ptrE : Value → Option (DataW Unit × List MemPlace)
  | .pointer (some ⟨g, 0, none⟩) => some (.lit (.int .i64 g), [])
  | .pointer none => some (.nil, [])
  | _ => none
theorem ptrE_lit {v : Value} {g : Nat} {ps : List MemPlace} (h : ptrE v = some (.lit (.int .i64 (g : Int)), ps)) : v = .pointer (some ⟨g, 0, none⟩) := by
  unfold ptrE at h
  split at h
  · simp at h
    obtain ⟨h1, _⟩ := h
    have h2 := Int.ofNat_inj.1 h1
    rw [h2]
  · simp at h
  · cases h
theorem ptrE_nil {v : Value} {ps : List MemPlace} (h : ptrE v = some (.nil, ps)) : v = .pointer none := by
  unfold ptrE at h
  split at h
  · simp at h
  · rfl
  · cases h
def Rise (M : List Sg) : Prop := M.Pairwise (fun s t => s.n < t.n)
theorem Rise.inj {M : List Sg} (h : Rise M) {s t : Sg} (hs : s ∈ M) (ht : t ∈ M) (e : s.n = t.n) : s = t := by
  induction M with
  | nil => cases hs
  | cons x M ih =>
    obtain ⟨h1, h2⟩ := List.pairwise_cons.1 h
    rcases List.mem_cons.1 hs with rfl | hs' <;> rcases List.mem_cons.1 ht with rfl | ht'
    · rfl
    · have := h1 _ ht'; omega
    · have := h1 _ hs'; omega
    · exact ih h2 hs' ht'
/-- The segment with a number is another one now. -/
def upd (M : List Sg) (s : Sg) : List Sg := M.map fun t => if t.n = s.n then s else t
theorem mem_upd {M : List Sg} {s t : Sg} (h : t ∈ upd M s) : t = s ∨ (t ∈ M ∧ t.n ≠ s.n) := by
  obtain ⟨x, hx, rfl⟩ := List.mem_map.1 h
  by_cases e : x.n = s.n
  · simp [e]
  · simp [e, hx]
theorem upd_n (M : List Sg) (s : Sg) : (upd M s).map Sg.n = M.map Sg.n := by
  unfold upd
  rw [List.map_map]
  refine List.map_congr_left fun t _ => ?_
  show (if t.n = s.n then s else t).n = t.n
  split
  · rename_i e; exact e.symm
  · rfl
theorem rise_iff (M : List Sg) : Rise M ↔ (M.map Sg.n).Pairwise (· < ·) := by unfold Rise; rw [List.pairwise_map]
theorem Rise.upd {M : List Sg} (h : Rise M) (s : Sg) : Rise (upd M s) := by rw [rise_iff, upd_n, ← rise_iff]; exact h
theorem dm_upd {M : List Sg} (h : Rise M) {s s' : Sg} (hs : s ∈ M) (hn : s'.n = s.n) (hg : s'.g = s.g) : Dm (upd M s') = Dm M := by
  unfold Dm upd
  rw [List.map_map]
  congr 1
  refine List.map_congr_left fun t ht => ?_
  show eSg (if t.n = s'.n then s' else t) = eSg t
  split
  · rename_i e
    have := h.inj ht hs (e.trans hn)
    subst this
    unfold eSg
    rw [hn, hg]
  · rfl
/-- A segment more. -/
def ins (s : Sg) : List Sg → List Sg
  | [] => [s]
  | t :: r => if s.n < t.n then s :: t :: r else t :: ins s r
theorem mem_ins {s t : Sg} : ∀ {M : List Sg}, t ∈ ins s M ↔ t = s ∨ t ∈ M
  | [] => by simp [ins]
  | x :: r => by
    unfold ins
    split
    · simp
    · simp only [List.mem_cons, mem_ins (M := r)]
      constructor
      · rintro (h | h | h) <;> simp [h]
      · rintro (h | h | h) <;> simp [h]
theorem Rise.ins {s : Sg} : ∀ {M : List Sg}, Rise M → (∀ t ∈ M, t.n ≠ s.n) → Rise (ins s M)
  | [], _, _ => by simp [Go.Proofs.Ytpckbbjlihhpdaa.ins, Rise]
  | x :: r, h, hne => by
    obtain ⟨h1, h2⟩ := List.pairwise_cons.1 h
    unfold Go.Proofs.Ytpckbbjlihhpdaa.ins
    split
    · rename_i hlt
      refine List.pairwise_cons.2 ⟨fun t ht => ?_, h⟩
      rcases List.mem_cons.1 ht with rfl | ht
      · exact hlt
      · have := h1 t ht; omega
    · rename_i hlt
      have h3 := hne x (List.mem_cons_self ..)
      refine List.pairwise_cons.2 ⟨fun t ht => ?_, Rise.ins h2 fun t ht => hne t (List.mem_cons_of_mem _ ht)⟩
      rcases mem_ins.1 ht with rfl | ht
      · omega
      · exact h1 t ht
theorem insert_ins (s : Sg) : ∀ M : List Sg, DataW.insert (eSg s) (M.map eSg) = (ins s M).map eSg
  | [] => rfl
  | t :: r => by
    simp only [List.map_cons, DataW.insert, ins]
    have e : (eSg s).1.before (eSg t).1 = decide (s.n < t.n) := rfl
    rw [e]
    by_cases h : s.n < t.n
    · simp [h]
    · simp [h, insert_ins s r]
theorem same_eSg (t : Sg) (n : Int) : (eSg t).1.sameKey (.int .i64 n) = decide (t.n = n) := by simp [eSg, Lit.sameKey]
theorem filter_eSg (n : Int) : ∀ M : List Sg, (M.map eSg).filter (fun p => !p.1.sameKey (.int .i64 n)) = (M.filter fun t => !decide (t.n = n)).map eSg
  | [] => rfl
  | t :: r => by
    simp only [List.map_cons, List.filter_cons, same_eSg, filter_eSg n r]
    by_cases h : t.n = n <;> simp [h]
theorem dm_del (M : List Sg) (n : Int) : (Dm M).del (.int .i64 n) = Dm (M.filter fun t => !decide (t.n = n)) := by
  show DataW.map _ = DataW.map _
  rw [filter_eSg]
theorem dm_put {M : List Sg} (s : Sg) (hne : ∀ t ∈ M, t.n ≠ s.n) : (Dm M).put (.int .i64 s.n) (.lit (.int .i64 s.g)) = Dm (ins s M) := by
  show DataW.map _ = DataW.map _
  rw [filter_eSg]
  have : (M.filter fun t => !decide (t.n = s.n)) = M := List.filter_eq_self.2 fun t ht => by simp [hne t ht]
  rw [this]
  exact congrArg DataW.map (insert_ins s M)
theorem dm_at {M : List Sg} (h : Rise M) {s : Sg} (hs : s ∈ M) (z : DataW Unit) : (Dm M).atKey (.int .i64 s.n) z = .lit (.int .i64 s.g) := by
  unfold Dm DataW.atKey
  simp only
  induction M with
  | nil => cases hs
  | cons x M ih =>
    obtain ⟨h1, h2⟩ := List.pairwise_cons.1 h
    rw [List.map_cons, List.find?_cons, same_eSg]
    rcases List.mem_cons.1 hs with rfl | hs
    · simp [eSg]
    · have := h1 s hs
      have e : ¬ x.n = s.n := by omega
      simp only [e, decide_false]
      exact ih h2 hs
theorem dm_not {M : List Sg} {n : Int} (h : ∀ t ∈ M, t.n ≠ n) (z : DataW Unit) : (Dm M).atKey (.int .i64 n) z = z := by
  unfold Dm DataW.atKey
  simp only
  induction M with
  | nil => rfl
  | cons x M ih =>
    rw [List.map_cons, List.find?_cons, same_eSg]
    have e : ¬ x.n = n := h x (List.mem_cons_self ..)
    simp only [e, decide_false]
    exact ih fun t ht => h t (List.mem_cons_of_mem _ ht)
theorem dm_size (M : List Sg) : Maps.size (Dm M) = M.length := by simp [Dm, Maps.size_eq]
theorem dm_keys (M : List Sg) : intKeys (Dm M) = M.map Sg.n := by
  simp only [Dm, intKeys, List.map_map]
  rfl
theorem owns_size {w : World} {k : TypeId} {R : Value → Option (DataW Unit × List MemPlace)} {b n : Nat} {D : DataW Unit} (h : w.ownsMap Try.prog k R b n D) : w.ownsMap Try.prog k R b (Maps.size D) D := by
  obtain ⟨es, clock, hb, F, _, rfl⟩ := h
  exact ⟨es, clock, hb, F, by rw [Maps.size_eq, length_sorted]; simp, rfl⟩

/-- The blocks of a segment. -/
def bl (s : Sg) (k : Nat) : Prop := k = s.g ∨ s.v.ownBlock = some k
/-- The blocks of a disk. -/
def blD (d mb : Nat) (M : List Sg) (k : Nat) : Prop := k = d ∨ k = mb ∨ ∃ s ∈ M, bl s k
/-- What stands in a segment's block. -/
structure SgC (w : World) (K : Nat) (s : Sg) : Prop where
  c0 : w.cell? ⟨s.g, 0, none⟩ = some s.v
  c1 : w.cell? ⟨s.g, 1, none⟩ = some (.int .i64 (s.l : Int))
  c2 : w.cell? ⟨s.g, 2, none⟩ = some (.bool s.k)
  fr : ∀ o, w.frozen? ⟨s.g, o, none⟩ = false
  ob : Ob w K s.v s.b
  kg : K ≤ s.g
  le : s.l ≤ s.b.length
  se : s.v.ownBlock ≠ some s.g
  n1 : 1 ≤ s.n
  n2 : s.n ≤ 9223372036854775807
theorem SgC.lt {w : World} {K : Nat} {s : Sg} (h : SgC w K s) : s.g < w.heap.size := World.block_lt_of_cell? w _ h.c0
theorem SgC.bl {w : World} {K : Nat} {s : Sg} (h : SgC w K s) {k : Nat} (hk : bl s k) : K ≤ k ∧ k < w.heap.size := by
  rcases hk with rfl | hk
  · exact ⟨h.kg, h.lt⟩
  · exact h.ob.lt k hk
theorem SgC.tn {P : Nat → Prop} {w w' : World} {K : Nat} {s : Sg} (h : SgC w K s) (t : Tn P w w') (hn : ∀ k, Go.Proofs.Ytpckbbjlihhpdaa.bl s k → ¬ P k) : SgC w' K s :=
  ⟨t.cell h.c0 (hn _ (.inl rfl)), t.cell h.c1 (hn _ (.inl rfl)), t.cell h.c2 (hn _ (.inl rfl)), fun o => (t.frozen (p := ⟨s.g, o, none⟩) h.lt (hn _ (.inl rfl))).trans (h.fr o), t.ob h.ob fun k hk => hn k (.inr hk), h.kg, h.le, h.se, h.n1, h.n2⟩
/-- A disk at block d, its map at block mb. -/
structure Dk (w : World) (K d mb : Nat) (room used fuse : Int) (down : Bool) (M : List Sg) : Prop where
  c0 : w.cell? ⟨d, 0, none⟩ = some (.int .i64 room)
  c1 : w.cell? ⟨d, 1, none⟩ = some (.int .i64 used)
  c2 : w.cell? ⟨d, 2, none⟩ = some (.map (some mb))
  c3 : w.cell? ⟨d, 3, none⟩ = some (.int .i64 fuse)
  c4 : w.cell? ⟨d, 4, none⟩ = some (.bool down)
  fr : ∀ o, w.frozen? ⟨d, o, none⟩ = false
  mp : w.ownsMap Try.prog 3 ptrE mb M.length (Dm M)
  ri : Rise M
  sg : ∀ s ∈ M, SgC w K s
  ap : ∀ s ∈ M, ∀ t ∈ M, s.n ≠ t.n → ∀ k, bl s k → ¬ bl t k
  of_ : ∀ s ∈ M, ∀ k, bl s k → k ≠ d ∧ k ≠ mb
  dm : d ≠ mb
  kd : K ≤ d
  km : K ≤ mb
section
variable {P : Nat → Prop} {w w' : World} {K d mb : Nat} {room used fuse : Int} {down : Bool} {M : List Sg}
theorem Dk.lt (h : Dk w K d mb room used fuse down M) : d < w.heap.size := World.block_lt_of_cell? w _ h.c0
theorem Dk.top (h : Dk w K d mb room used fuse down M) {k : Nat} (hk : blD d mb M k) : K ≤ k ∧ k < w.heap.size := by
  rcases hk with rfl | rfl | ⟨s, hs, hk⟩
  · exact ⟨h.kd, h.lt⟩
  · exact ⟨h.km, h.mp.lt⟩
  · exact (h.sg s hs).bl hk
theorem Tn.map {k : TypeId} {R : Value → Option (DataW Unit × List MemPlace)} {b n : Nat} {D : DataW Unit} (t : Tn P w w') (h : w.ownsMap Try.prog k R b n D) (hn : ¬ P b) : w'.ownsMap Try.prog k R b n D := by
  have hlt := h.lt
  obtain ⟨es, clock, hb, F, hs, hD⟩ := h
  exact ⟨es, clock, (t.block b hlt hn).trans hb, F, hs, hD⟩
/-- What turns none of its blocks leaves the disk as it was. -/
theorem Dk.tn (h : Dk w K d mb room used fuse down M) (t : Tn P w w') (hn : ∀ k, blD d mb M k → ¬ P k) : Dk w' K d mb room used fuse down M :=
  ⟨t.cell h.c0 (hn _ (.inl rfl)), t.cell h.c1 (hn _ (.inl rfl)), t.cell h.c2 (hn _ (.inl rfl)), t.cell h.c3 (hn _ (.inl rfl)), t.cell h.c4 (hn _ (.inl rfl)), fun o => (t.frozen (p := ⟨d, o, none⟩) h.lt (hn _ (.inl rfl))).trans (h.fr o), t.map h.mp (hn _ (.inr (.inl rfl))), h.ri,
    fun s hs => (h.sg s hs).tn t fun k hk => hn k (.inr (.inr ⟨s, hs, hk⟩)), h.ap, h.of_, h.dm, h.kd, h.km⟩
theorem Dk.below (h : Dk w K d mb room used fuse down M) (hb : Below w.heap.size w w') : Dk w' K d mb room used fuse down M := h.tn (Tn.ofNew (P := fun _ => False) hb) fun _ _ h => h
theorem Dk.drewN (h : Dk w K d mb room used fuse down M) (n : Nat) : Dk (w.drewN n) K d mb room used fuse down M := h.below ⟨rfl, rfl, rfl, Nat.le_refl _, fun _ _ => rfl⟩
/-- The disk's own block is turned. -/
theorem Dk.setD (h : Dk w K d mb room used fuse down M) (t : Tn (· = d) w w') {used' fuse' : Int} {down' : Bool} (c0 : w'.cell? ⟨d, 0, none⟩ = some (.int .i64 room)) (c1 : w'.cell? ⟨d, 1, none⟩ = some (.int .i64 used')) (c2 : w'.cell? ⟨d, 2, none⟩ = some (.map (some mb)))
    (c3 : w'.cell? ⟨d, 3, none⟩ = some (.int .i64 fuse')) (c4 : w'.cell? ⟨d, 4, none⟩ = some (.bool down')) (fr : ∀ o, w'.frozen? ⟨d, o, none⟩ = false) : Dk w' K d mb room used' fuse' down' M :=
  ⟨c0, c1, c2, c3, c4, fr, t.map h.mp (fun e => h.dm e.symm), h.ri, fun s hs => (h.sg s hs).tn t fun k hk e => (h.of_ s hs k hk).1 e, h.ap, h.of_, h.dm, h.kd, h.km⟩
theorem Dk.set1 (h : Dk w K d mb room used fuse down M) (x : Int) : Dk (w.setCell ⟨d, 1, none⟩ (.int .i64 x)) K d mb room x fuse down M := by
  have t := Tn.setCell w d 1 (.int .i64 x)
  refine h.setD t ?_ (World.cell?_setCell_same' _ _ _ (by rw [h.c1]; rfl)) ?_ ?_ ?_ (fun o => by rw [World.frozen?_setCell]; exact h.fr o)
  · rw [World.cell?_setCell_other _ _ _ _ (by simp)]; exact h.c0
  · rw [World.cell?_setCell_other _ _ _ _ (by simp)]; exact h.c2
  · rw [World.cell?_setCell_other _ _ _ _ (by simp)]; exact h.c3
  · rw [World.cell?_setCell_other _ _ _ _ (by simp)]; exact h.c4
theorem Dk.set3 (h : Dk w K d mb room used fuse down M) (x : Int) : Dk (w.setCell ⟨d, 3, none⟩ (.int .i64 x)) K d mb room used x down M := by
  have t := Tn.setCell w d 3 (.int .i64 x)
  refine h.setD t ?_ ?_ ?_ (World.cell?_setCell_same' _ _ _ (by rw [h.c3]; rfl)) ?_ (fun o => by rw [World.frozen?_setCell]; exact h.fr o)
  · rw [World.cell?_setCell_other _ _ _ _ (by simp)]; exact h.c0
  · rw [World.cell?_setCell_other _ _ _ _ (by simp)]; exact h.c1
  · rw [World.cell?_setCell_other _ _ _ _ (by simp)]; exact h.c2
  · rw [World.cell?_setCell_other _ _ _ _ (by simp)]; exact h.c4
theorem Dk.set4 (h : Dk w K d mb room used fuse down M) (x : Bool) : Dk (w.setCell ⟨d, 4, none⟩ (.bool x)) K d mb room used fuse x M := by
  have t := Tn.setCell w d 4 (.bool x)
  refine h.setD t ?_ ?_ ?_ ?_ (World.cell?_setCell_same' _ _ _ (by rw [h.c4]; rfl)) (fun o => by rw [World.frozen?_setCell]; exact h.fr o)
  · rw [World.cell?_setCell_other _ _ _ _ (by simp)]; exact h.c0
  · rw [World.cell?_setCell_other _ _ _ _ (by simp)]; exact h.c1
  · rw [World.cell?_setCell_other _ _ _ _ (by simp)]; exact h.c2
  · rw [World.cell?_setCell_other _ _ _ _ (by simp)]; exact h.c3
/-- One segment is turned; its bytes lie where they lay, or from block N on. -/
theorem Dk.setN (h : Dk w K d mb room used fuse down M) {N : Nat} (hN : ∀ k, blD d mb M k → k < N) {s s' : Sg} (hs : s ∈ M) (hn : s'.n = s.n) (hg : s'.g = s.g) (t : Tn (bl s) w w') (hc : SgC w' K s') (ho : s'.v.ownBlock = s.v.ownBlock ∨ ∀ k, s'.v.ownBlock = some k → N ≤ k) :
    Dk w' K d mb room used fuse down (upd M s') ∧ ∀ k, blD d mb (upd M s') k → blD d mb M k ∨ N ≤ k := by
  have hb : ∀ k, bl s' k → bl s k ∨ N ≤ k := fun k hk => by
    rcases hk with e | e
    · exact .inl (.inl (e.trans hg))
    · rcases ho with h2 | h2
      · exact .inl (.inr (h2 ▸ e))
      · exact .inr (h2 k e)
  have hlow : ∀ x ∈ M, ∀ k, bl x k → k < N := fun x hx k hk => hN k (.inr (.inr ⟨x, hx, hk⟩))
  have hd := hN d (.inl rfl)
  have hm := hN mb (.inr (.inl rfl))
  refine ⟨⟨t.cell h.c0 fun e => (h.of_ s hs _ e).1 rfl, t.cell h.c1 fun e => (h.of_ s hs _ e).1 rfl, t.cell h.c2 fun e => (h.of_ s hs _ e).1 rfl, t.cell h.c3 fun e => (h.of_ s hs _ e).1 rfl, t.cell h.c4 fun e => (h.of_ s hs _ e).1 rfl, fun o => (t.frozen (p := ⟨d, o, none⟩) h.lt fun e => (h.of_ s hs _ e).1 rfl).trans (h.fr o), ?_, h.ri.upd s', fun x hx => ?_, fun x hx y hy hxy k hk hk2 => ?_, fun x hx k hk => ?_, h.dm, h.kd, h.km⟩, fun k hk => ?_⟩
  · rw [dm_upd h.ri hs hn hg]
    have : (upd M s').length = M.length := by simp [upd]
    rw [this]
    exact t.map h.mp fun e => (h.of_ s hs _ e).2 rfl
  · rcases mem_upd hx with rfl | ⟨hx, hne⟩
    · exact hc
    · exact (h.sg x hx).tn t fun k hk hk2 => h.ap x hx s hs (by rw [← hn]; exact hne) k hk hk2
  · rcases mem_upd hx with rfl | ⟨hx', hne⟩ <;> rcases mem_upd hy with rfl | ⟨hy', hne2⟩
    · exact hxy rfl
    · rcases hb k hk with e | e
      · exact h.ap s hs y hy' (by rw [← hn]; exact fun e => hne2 e.symm) k e hk2
      · have := hlow y hy' k hk2; omega
    · rcases hb k hk2 with e | e
      · exact h.ap x hx' s hs (by rw [← hn]; exact hne) k hk e
      · have := hlow x hx' k hk; omega
    · exact h.ap x hx' y hy' hxy k hk hk2
  · rcases mem_upd hx with rfl | ⟨hx, hne⟩
    · rcases hb k hk with e | e
      · exact h.of_ s hs k e
      · omega
    · exact h.of_ x hx k hk
  · rcases hk with e | e | ⟨x, hx, hk⟩
    · exact .inl (.inl e)
    · exact .inl (.inr (.inl e))
    · rcases mem_upd hx with rfl | ⟨hx, hne⟩
      · exact (hb k hk).imp (fun e => .inr (.inr ⟨s, hs, e⟩)) id
      · exact .inl (.inr (.inr ⟨x, hx, hk⟩))
/-- One segment is turned. -/
theorem Dk.setS (h : Dk w K d mb room used fuse down M) {s s' : Sg} (hs : s ∈ M) (hn : s'.n = s.n) (hg : s'.g = s.g) (t : Tn (bl s) w w') (hc : SgC w' K s') (ho : s'.v.ownBlock = s.v.ownBlock ∨ ∀ k, s'.v.ownBlock = some k → w.heap.size ≤ k) :
    Dk w' K d mb room used fuse down (upd M s') ∧ ∀ k, blD d mb (upd M s') k → blD d mb M k ∨ w.heap.size ≤ k := h.setN (fun _ hk => (h.top hk).2) hs hn hg t hc ho
/-- A segment is taken away. -/
theorem Dk.del (h : Dk w K d mb room used fuse down M) (n : Int) (t : Tn (· = mb) w w') {nn : Nat} (hm : w'.ownsMap Try.prog 3 ptrE mb nn ((Dm M).del (.int .i64 n))) :
    Dk w' K d mb room used fuse down (M.filter fun t => !decide (t.n = n)) ∧ ∀ k, blD d mb (M.filter fun t => !decide (t.n = n)) k → blD d mb M k := by
  have hsub : ∀ x, x ∈ (M.filter fun t => !decide (t.n = n)) → x ∈ M := fun x hx => (List.mem_filter.1 hx).1
  refine ⟨⟨t.cell h.c0 h.dm, t.cell h.c1 h.dm, t.cell h.c2 h.dm, t.cell h.c3 h.dm, t.cell h.c4 h.dm, fun o => (t.frozen (p := ⟨d, o, none⟩) h.lt h.dm).trans (h.fr o), ?_, h.ri.filter _, fun x hx => (h.sg x (hsub x hx)).tn t fun k hk e => (h.of_ x (hsub x hx) k hk).2 e, fun x hx y hy => h.ap x (hsub x hx) y (hsub y hy), fun x hx => h.of_ x (hsub x hx), h.dm, h.kd, h.km⟩, fun k hk => ?_⟩
  · have := owns_size hm
    rw [dm_del] at this
    rwa [dm_size] at this
  · rcases hk with e | e | ⟨x, hx, hk⟩
    · exact .inl e
    · exact .inr (.inl e)
    · exact .inr (.inr ⟨x, hsub x hx, hk⟩)
/-- A segment more, in a block that is new since w. -/
theorem Dk.ins1 {w1 : World} (h0 : Dk w K d mb room used fuse down M) (h : Dk w1 K d mb room used fuse down M) {s : Sg} (hne : ∀ t ∈ M, t.n ≠ s.n) (t : Tn (· = mb) w1 w') {nn : Nat} (hm : w'.ownsMap Try.prog 3 ptrE mb nn ((Dm M).put (.int .i64 s.n) (.lit (.int .i64 s.g)))) (hc : SgC w' K s) (hnew : ∀ k, bl s k → w.heap.size ≤ k) :
    Dk w' K d mb room used fuse down (ins s M) ∧ ∀ k, blD d mb (ins s M) k → blD d mb M k ∨ w.heap.size ≤ k := by
  have hlow : ∀ x ∈ M, ∀ k, bl x k → k < w.heap.size := fun x hx k hk => ((h0.sg x hx).bl hk).2
  have hd := h0.lt
  have hm0 := h0.mp.lt
  refine ⟨⟨t.cell h.c0 h.dm, t.cell h.c1 h.dm, t.cell h.c2 h.dm, t.cell h.c3 h.dm, t.cell h.c4 h.dm, fun o => (t.frozen (p := ⟨d, o, none⟩) h.lt h.dm).trans (h.fr o), ?_, h.ri.ins hne, fun x hx => ?_, fun x hx y hy hxy k hk hk2 => ?_, fun x hx k hk => ?_, h.dm, h.kd, h.km⟩, fun k hk => ?_⟩
  · have := owns_size hm
    rw [dm_put s hne] at this
    rwa [dm_size] at this
  · rcases mem_ins.1 hx with rfl | hx
    · exact hc
    · exact (h.sg x hx).tn t fun k hk e => (h.of_ x hx k hk).2 e
  · rcases mem_ins.1 hx with rfl | hx' <;> rcases mem_ins.1 hy with rfl | hy'
    · exact hxy rfl
    · have := hnew k hk; have := hlow y hy' k hk2; omega
    · have := hnew k hk2; have := hlow x hx' k hk; omega
    · exact h.ap x hx' y hy' hxy k hk hk2
  · rcases mem_ins.1 hx with rfl | hx
    · have := hnew k hk; omega
    · exact h.of_ x hx k hk
  · rcases hk with e | e | ⟨x, hx, hk⟩
    · exact .inl (.inl e)
    · exact .inl (.inr (.inl e))
    · rcases mem_ins.1 hx with rfl | hx
      · exact .inr (hnew k hk)
      · exact .inl (.inr (.inr ⟨x, hx, hk⟩))
end
end Go.Proofs.Ytpckbbjlihhpdaa
namespace Go.Proofs.Ytpckbbjlihhpdaa
open Go.RowKit Go.Maps

theorem keyI : Keyed Try.prog 3 := int_keyed Try.underlying3
theorem zeroP (w : World) : (zeroValue 94).run Try.prog w = .ok (.pointer none) w := by kernel_rfl
theorem wf64 {n : Int} (h1 : -9223372036854775808 ≤ n) (h2 : n ≤ 9223372036854775807) : (Lit.int .i64 n).wf = true := by
  simp [Lit.wf, IntKind.min, IntKind.max, IntKind.signed, IntKind.bits]; omega
section
variable {w : World} {K d mb : Nat} {room used fuse : Int} {down : Bool} {M : List Sg}
/-- What the map has at a number. -/
theorem Dk.look (h : Dk w K d mb room used fuse down M) {s : Sg} (hs : s ∈ M) : (Instr.lookup 63 (.map (some mb)) (.int .i64 s.n) false).run Try.prog w = .ok (.pointer (some ⟨s.g, 0, none⟩)) w := by
  have hc := h.sg s hs
  have n1 := hc.n1
  have n2 := hc.n2
  obtain ⟨v, ps, hrun, hv⟩ := h.mp.lookup keyI Try.underlying63 (zeroP w) (zd := .nil) (zp := []) rfl (keyOf_int_mk Try.underlying3 (wf64 (by omega) n2))
  rw [dm_at h.ri hs] at hv
  rw [ptrE_lit hv] at hrun
  exact hrun
theorem Dk.miss (h : Dk w K d mb room used fuse down M) {n : Int} (h1 : -9223372036854775808 ≤ n) (h2 : n ≤ 9223372036854775807) (hn : ∀ t ∈ M, t.n ≠ n) : (Instr.lookup 63 (.map (some mb)) (.int .i64 n) false).run Try.prog w = .ok (.pointer none) w := by
  obtain ⟨v, ps, hrun, hv⟩ := h.mp.lookup keyI Try.underlying63 (zeroP w) (zd := .nil) (zp := []) rfl (keyOf_int_mk Try.underlying3 (wf64 h1 h2))
  rw [dm_not hn] at hv
  rw [ptrE_nil hv] at hrun
  exact hrun
end
abbrev dP (d : Nat) : Value := .pointer (some ⟨d, 0, none⟩)
section
variable (K d mb : Nat) (room used fuse : Int) (down : Bool) (M : List Sg) (w : World)
theorem ready_nil : Calls Try.prog 56 #[.pointer none] w fun e w' => e = .returned (.int .i64 2) ∧ w' = w := by
  go_enter Try.func56, Try.ntmps56
  go_wp2
  go_ret
  exact ⟨rfl, rfl⟩
theorem ready_any (h : Dk w K d mb room used fuse down M) : Calls Try.prog 56 #[dP d] w fun e w' => e = .returned (.int .i64 (if down then 5 else 0)) ∧ w' = w := by
  have c4 := h.c4
  cases down
  · go_enter Try.func56, Try.ntmps56
    go_wp2
    go_ret
    exact ⟨rfl, rfl⟩
  · go_enter Try.func56, Try.ntmps56
    go_wp2
    go_ret
    exact ⟨rfl, rfl⟩
theorem dlook_nil (n : Int) : Calls Try.prog 51 #[.pointer none, .int .i64 n] w fun e w' => e = .returned (.int .i64 2) ∧ w' = w := by
  go_enter Try.func51, Try.ntmps51
  go_wp2_with (go_at_call 56; refine (ready_nil _).mono ?_; rintro e w' ⟨rfl, rfl⟩)
  go_ret
  exact ⟨rfl, rfl⟩
theorem dlook_down (h : Dk w K d mb room used fuse true M) (n : Int) : Calls Try.prog 51 #[dP d, .int .i64 n] w fun e w' => e = .returned (.int .i64 5) ∧ w' = w := by
  go_enter Try.func51, Try.ntmps51
  go_wp2_with (go_at_call 56; refine (ready_any K d mb room used fuse true M _ h).mono ?_; rintro e w' ⟨rfl, rfl⟩)
  go_ret
  exact ⟨rfl, rfl⟩
theorem dlook_none (h : Dk w K d mb room used fuse false M) {n : Int} (h1 : -9223372036854775808 ≤ n) (h2 : n ≤ 9223372036854775807) (hn : ∀ t ∈ M, t.n ≠ n) : Calls Try.prog 51 #[dP d, .int .i64 n] w fun e w' => e = .returned (.int .i64 6) ∧ w' = w := by
  have c2 := h.c2
  have hl := h.miss h1 h2 hn
  have HR := Lib.hid (ready_any K d mb room used fuse false M _ h)
  go_enter Try.func51, Try.ntmps51
  go_wp2_with (go_at_call 56; refine HR.out.mono ?_; rintro e w' ⟨rfl, rfl⟩)
  go_ret
  exact ⟨rfl, rfl⟩
theorem dlook_ok (h : Dk w K d mb room used fuse false M) {s : Sg} (hs : s ∈ M) : Calls Try.prog 51 #[dP d, .int .i64 s.n] w fun e w' => e = .returned (.int .i64 0) ∧ w' = w := by
  have c2 := h.c2
  have hl := h.look hs
  have HR := Lib.hid (ready_any K d mb room used fuse false M _ h)
  go_enter Try.func51, Try.ntmps51
  go_wp2_with (go_at_call 56; refine HR.out.mono ?_; rintro e w' ⟨rfl, rfl⟩)
  go_ret
  exact ⟨rfl, rfl⟩
theorem step_none (h : Dk w K d mb room used 0 down M) : Calls Try.prog 49 #[dP d] w fun e w' => e = .returned (.bool false) ∧ Dk w' K d mb room used 0 true M ∧ Tn (· = d) w w' := by
  have c3 := h.c3
  have c4 := h.c4
  have f4 := h.fr 4
  have HD := Lib.hid h
  clear h
  go_enter Try.func49, Try.ntmps49
  go_wp2
  go_ret
  exact ⟨rfl, HD.out.set4 true, Tn.setCell _ _ _ _⟩
theorem step_free (h : Dk w K d mb room used fuse false M) (hf : fuse < 0) : Calls Try.prog 49 #[dP d] w fun e w' => e = .returned (.bool true) ∧ w' = w := by
  have c3 := h.c3
  have c4 := h.c4
  have h0 : (fuse == (0 : Int)) = false := by simp; omega
  have h1 : ¬ 0 < fuse := by omega
  clear h
  go_enter Try.func49, Try.ntmps49
  go_wp2
  go_ret
  exact ⟨rfl, rfl⟩
theorem step_fuse (h : Dk w K d mb room used fuse false M) (hf : 0 < fuse) (hf2 : fuse ≤ 9223372036854775807) : Calls Try.prog 49 #[dP d] w fun e w' => e = .returned (.bool true) ∧ Dk w' K d mb room used (fuse - 1) false M ∧ Tn (· = d) w w' := by
  have c3 := h.c3
  have c4 := h.c4
  have f3 := h.fr 3
  have h0 : (fuse == (0 : Int)) = false := by simp; omega
  have HD := Lib.hid h
  clear h
  go_enter Try.func49, Try.ntmps49
  go_wp2
  go_ret
  exact ⟨rfl, HD.out.set3 (fuse - 1), Tn.setCell _ _ _ _⟩
end
end Go.Proofs.Ytpckbbjlihhpdaa
namespace Go.Proofs
open Go.Shelf
def Try.lays128_ren : Go.Shelf.Ren := ⟨fun | 128 => 85 | n => n, fun | 51 => 112 | 3 => 3 | 4 => 4 | 46 => 38 | 5 => 5 | 9 => 9 | n => n, fun | n => n⟩
theorem Try.lays128 : Go.Proofs.Lays.n128 Try.prog Try.lays128_ren := {
  mixed := by kernel_rfl
  f128 := Try.func85.trans (congrArg some (by kernel_rfl))
  t3 := Try.underlying3
  a3 := Try.isAgg3
  z3 := Try.sizeOf3
  v3 := Try.zeroValue3
  t4 := Try.underlying4
  a4 := Try.isAgg4
  z4 := Try.sizeOf4
  v4 := Try.zeroValue4
  t5 := Try.underlying5
  a5 := Try.isAgg5
  z5 := Try.sizeOf5
  v5 := Try.zeroValue5
  t9 := Try.underlying9
  a9 := Try.isAgg9
  z9 := Try.sizeOf9
  v9 := Try.zeroValue9
  t46 := Try.underlying38
  a46 := Try.isAgg38
  z46 := Try.sizeOf38
  v46 := Try.zeroValue38
  t51 := Try.underlying112
  a51 := Try.isAgg112
  z51 := Try.sizeOf112
  v51 := Try.zeroValue112 }
/-- bits.Len32: "Len32 returns the minimum number of bits required to represent x; the result is 0 for x == 0.": IT RETURNS 'Lib.bitLen x'; the world is as it was. ('h0', 'h1': x is a uint32.) (LAID: no walk: one application.) -/
theorem Try.bits_Len32 (x : Int) (w : World) (h0 : 0 ≤ x) (h1 : x ≤ 4294967295) :
    Calls Try.prog 85 #[.int .u32 x] w fun e w' => e = .returned (.int .i64 (Lib.bitLen x.toNat)) ∧ w' = w := Any.bits_Len32 Try.lays128 x w h0 h1
def Try.lays125_ren : Go.Shelf.Ren := ⟨fun | 125 => 75 | 128 => 85 | 129 => 86 | n => n, fun | 46 => 38 | 3 => 3 | 51 => 112 | 53 => 138 | 4 => 4 | 5 => 5 | 9 => 9 | n => n, fun | n => n⟩
theorem Try.lays125 : Go.Proofs.Lays.n125 Try.prog Try.lays125_ren := {
  mixed := by kernel_rfl
  f125 := Try.func75.trans (congrArg some (by kernel_rfl))
  f128 := Try.func85.trans (congrArg some (by kernel_rfl))
  f129 := Try.func86.trans (congrArg some (by kernel_rfl))
  t3 := Try.underlying3
  a3 := Try.isAgg3
  z3 := Try.sizeOf3
  v3 := Try.zeroValue3
  t4 := Try.underlying4
  a4 := Try.isAgg4
  z4 := Try.sizeOf4
  v4 := Try.zeroValue4
  t5 := Try.underlying5
  a5 := Try.isAgg5
  z5 := Try.sizeOf5
  v5 := Try.zeroValue5
  t9 := Try.underlying9
  a9 := Try.isAgg9
  z9 := Try.sizeOf9
  v9 := Try.zeroValue9
  t46 := Try.underlying38
  a46 := Try.isAgg38
  z46 := Try.sizeOf38
  v46 := Try.zeroValue38
  t51 := Try.underlying112
  a51 := Try.isAgg112
  z51 := Try.sizeOf112
  v51 := Try.zeroValue112
  t53 := Try.underlying138
  a53 := Try.isAgg138
  z53 := Try.sizeOf138
  v53 := Try.zeroValue138 }
/-- bits.Len: "Len returns the minimum number of bits required to represent x; the result is 0 for x == 0.": IT RETURNS 'Lib.bitLen x'; the world is as it was. (A uint has 64 bits in the model.) ITS CALLEE bits.Len64 IS MET BY ITS OWN CONTRACT OFF THE SHELF (lay that first). (LAID: no walk: one application.) -/
theorem Try.bits_Len (x : Int) (w : World) (h0 : 0 ≤ x) (h1 : x ≤ 18446744073709551615) :
    Calls Try.prog 75 #[.int .u64 x] w fun e w' => e = .returned (.int .i64 (Lib.bitLen x.toNat)) ∧ w' = w := Any.bits_Len Try.lays125 x w h0 h1
def Try.lays129_ren : Go.Shelf.Ren := ⟨fun | 129 => 86 | n => n, fun | 53 => 138 | 3 => 3 | 4 => 4 | 46 => 38 | 5 => 5 | 9 => 9 | n => n, fun | n => n⟩
theorem Try.lays129 : Go.Proofs.Lays.n129 Try.prog Try.lays129_ren := {
  mixed := by kernel_rfl
  f129 := Try.func86.trans (congrArg some (by kernel_rfl))
  t3 := Try.underlying3
  a3 := Try.isAgg3
  z3 := Try.sizeOf3
  v3 := Try.zeroValue3
  t4 := Try.underlying4
  a4 := Try.isAgg4
  z4 := Try.sizeOf4
  v4 := Try.zeroValue4
  t5 := Try.underlying5
  a5 := Try.isAgg5
  z5 := Try.sizeOf5
  v5 := Try.zeroValue5
  t9 := Try.underlying9
  a9 := Try.isAgg9
  z9 := Try.sizeOf9
  v9 := Try.zeroValue9
  t46 := Try.underlying38
  a46 := Try.isAgg38
  z46 := Try.sizeOf38
  v46 := Try.zeroValue38
  t53 := Try.underlying138
  a53 := Try.isAgg138
  z53 := Try.sizeOf138
  v53 := Try.zeroValue138 }
/-- bits.Len64: "Len64 returns the minimum number of bits required to represent x; the result is 0 for x == 0.": IT RETURNS 'Lib.bitLen x'; the world is as it was. ('h0', 'h1': x is a uint64.) (LAID: no walk: one application.) -/
theorem Try.bits_Len64 (x : Int) (w : World) (h0 : 0 ≤ x) (h1 : x ≤ 18446744073709551615) :
    Calls Try.prog 86 #[.int .u64 x] w fun e w' => e = .returned (.int .i64 (Lib.bitLen x.toNat)) ∧ w' = w := Any.bits_Len64 Try.lays129 x w h0 h1
def Try.laysSlM5_f69_ren : Go.Shelf.Ren := ⟨fun | 5 => 69 | 8 => 75 | 7 => 74 | 19 => 85 | 20 => 86 | 10 => 76 | 11 => 77 | 12 => 78 | 13 => 79 | 14 => 80 | 15 => 81 | 16 => 82 | 17 => 83 | 18 => 84 | 30 => 87 | 31 => 88 | 32 => 89 | 33 => 90 | 34 => 91 | 35 => 92 | 40 => 93 | n => n, fun | 23 => 31 | 25 => 3 | 3 => 3 | 32 => 38 | 22 => 31 | 0 => 0 | 44 => 112 | 46 => 138 | 4 => 4 | 36 => 130 | 35 => 129 | 41 => 134 | 5 => 5 | 9 => 9 | 53 => 139 | 57 => 143 | 63 => 145 | 64 => 146 | n => n, fun | n => n⟩
theorem Try.laysSlM5_f69 : Go.Proofs.SlLaysM.n5 Try.prog Try.laysSlM5_f69_ren := {
  mixed := by kernel_rfl
  f5 := ⟨Try.f69.name, by decide, Try.func69.trans (congrArg some (by kernel_rfl))⟩
  f7 := ⟨Try.f74.name, by decide, Try.func74.trans (congrArg some (by kernel_rfl))⟩
  f8 := Try.func75.trans (congrArg some (by kernel_rfl))
  f10 := ⟨Try.f76.name, by decide, Try.func76.trans (congrArg some (by kernel_rfl))⟩
  f11 := ⟨Try.f77.name, by decide, Try.func77.trans (congrArg some (by kernel_rfl))⟩
  f12 := ⟨Try.f78.name, by decide, Try.func78.trans (congrArg some (by kernel_rfl))⟩
  f13 := ⟨Try.f79.name, by decide, Try.func79.trans (congrArg some (by kernel_rfl))⟩
  f14 := ⟨Try.f80.name, by decide, Try.func80.trans (congrArg some (by kernel_rfl))⟩
  f15 := ⟨Try.f81.name, by decide, Try.func81.trans (congrArg some (by kernel_rfl))⟩
  f16 := ⟨Try.f82.name, by decide, Try.func82.trans (congrArg some (by kernel_rfl))⟩
  f17 := ⟨Try.f83.name, by decide, Try.func83.trans (congrArg some (by kernel_rfl))⟩
  f18 := ⟨Try.f84.name, by decide, Try.func84.trans (congrArg some (by kernel_rfl))⟩
  f19 := Try.func85.trans (congrArg some (by kernel_rfl))
  f20 := Try.func86.trans (congrArg some (by kernel_rfl))
  f30 := ⟨Try.f87.name, by decide, Try.func87.trans (congrArg some (by kernel_rfl))⟩
  f31 := Try.func88.trans (congrArg some (by kernel_rfl))
  f32 := Try.func89.trans (congrArg some (by kernel_rfl))
  f33 := ⟨Try.f90.name, by decide, Try.func90.trans (congrArg some (by kernel_rfl))⟩
  f34 := ⟨Try.f91.name, by decide, Try.func91.trans (congrArg some (by kernel_rfl))⟩
  f35 := ⟨Try.f92.name, by decide, Try.func92.trans (congrArg some (by kernel_rfl))⟩
  f40 := ⟨Try.f93.name, by decide, Try.func93.trans (congrArg some (by kernel_rfl))⟩
  t0 := Try.underlying0
  a0 := Try.isAgg0
  z0 := Try.sizeOf0
  v0 := Try.zeroValue0
  t3 := Try.underlying3
  a3 := Try.isAgg3
  z3 := Try.sizeOf3
  v3 := Try.zeroValue3
  t4 := Try.underlying4
  a4 := Try.isAgg4
  z4 := Try.sizeOf4
  v4 := Try.zeroValue4
  t5 := Try.underlying5
  a5 := Try.isAgg5
  z5 := Try.sizeOf5
  v5 := Try.zeroValue5
  t9 := Try.underlying9
  a9 := Try.isAgg9
  z9 := Try.sizeOf9
  v9 := Try.zeroValue9
  t22 := Try.underlying31
  a22 := Try.isAgg31
  z22 := Try.sizeOf31
  v22 := Try.zeroValue31
  t23 := Try.underlying31
  a23 := Try.isAgg31
  z23 := Try.sizeOf31
  v23 := Try.zeroValue31
  t25 := Try.underlying3
  a25 := Try.isAgg3
  z25 := Try.sizeOf3
  v25 := Try.zeroValue3
  t32 := Try.underlying38
  a32 := Try.isAgg38
  z32 := Try.sizeOf38
  v32 := Try.zeroValue38
  t35 := Try.underlying129
  a35 := Try.isAgg129
  z35 := Try.sizeOf129
  v35 := Try.zeroValue129
  t36 := Try.underlying130
  a36 := Try.isAgg130
  z36 := Try.sizeOf130
  v36 := Try.zeroValue130
  t41 := Try.underlying134
  a41 := Try.isAgg134
  z41 := Try.sizeOf134
  v41 := Try.zeroValue134
  t44 := Try.underlying112
  a44 := Try.isAgg112
  z44 := Try.sizeOf112
  v44 := Try.zeroValue112
  t46 := Try.underlying138
  a46 := Try.isAgg138
  z46 := Try.sizeOf138
  v46 := Try.zeroValue138
  t53 := Try.underlying139
  a53 := Try.isAgg139
  z53 := Try.sizeOf139
  v53 := Try.zeroValue139
  t57 := Try.underlying143
  a57 := Try.isAgg143
  z57 := Try.sizeOf143
  v57 := Try.zeroValue143
  t63 := Try.underlying145
  a63 := Try.isAgg145
  z63 := Try.sizeOf145
  v63 := Try.zeroValue145
  t64 := Try.underlying146
  a64 := Try.isAgg146
  z64 := Try.sizeOf146
  v64 := Try.zeroValue146 }
open Go.Sort Go.RowKit in
theorem Try.slices_Sort_int (blk off cap : Nat) (zs : List Int) (w : World) (hH : Holds (Value.int .i64) w blk off zs.toArray) (hblk : blk < w.heap.size) (hsz : zs.length < 4611686018427387904) :
    Calls Try.prog 69 #[.slice (some ⟨blk, off, none⟩) zs.length cap] w fun e w' =>
      e = .returned (.tuple #[]) ∧ ∃ n os, w' = grow (putRow (Value.int .i64) (Sort.ahead w n) blk off (zs.mergeSort fun x y => decide (x ≤ y)).toArray) os := AnyM.slices_Sort_int Try.laysSlM5_f69 blk off cap zs w hH hblk hsz
open Go.RowKit Go.Sort in
/-- .. and plain. (LAID AT THE INSTANCE 'slices.Sort[[]int,int]': no walk: one application.) -/
theorem Try.slices_Sort_int_none (p : Option Addr) (cap : Nat) (w : World) :
    Calls Try.prog 69 #[.slice p 0 cap] w fun e w' => e = .returned (.tuple #[]) ∧ w' = w := AnyM.slices_Sort_int_none Try.laysSlM5_f69 p cap w
def Try.keysA_ren : Go.Shelf.Ren := ⟨fun | 7 => 63 | 10 => 70 | n => n, fun | 23 => 63 | 26 => 3 | 3 => 94 | 28 => 116 | 0 => 0 | 27 => 115 | 33 => 124 | 4 => 4 | n => n, fun | n => n⟩
theorem Try.keysA : Go.Proofs.SlLaysZI.n7 Try.prog Try.keysA_ren := {
  mixed := by kernel_rfl
  f7 := ⟨Try.f63.name, by decide, Try.func63.trans (congrArg some (by kernel_rfl))⟩
  f10 := ⟨Try.f70.name, by decide, Try.func70.trans (congrArg some (by kernel_rfl))⟩
  t0 := Try.underlying0
  a0 := Try.isAgg0
  z0 := Try.sizeOf0
  v0 := Try.zeroValue0
  t4 := Try.underlying4
  a4 := Try.isAgg4
  z4 := Try.sizeOf4
  v4 := Try.zeroValue4
  t23 := Try.underlying63
  a23 := Try.isAgg63
  z23 := Try.sizeOf63
  v23 := Try.zeroValue63
  t26 := Try.underlying3
  a26 := Try.isAgg3
  z26 := Try.sizeOf3
  v26 := Try.zeroValue3
  t27 := Try.underlying115
  a27 := Try.isAgg115
  z27 := Try.sizeOf115
  v27 := Try.zeroValue115
  t28 := Try.underlying116
  a28 := Try.isAgg116
  z28 := Try.sizeOf116
  v28 := Try.zeroValue116
  t33 := Try.underlying124
  a33 := Try.isAgg124
  z33 := Try.sizeOf124
  v33 := Try.zeroValue124 }
def Try.sortedA_ren : Go.Shelf.Ren := ⟨fun | 6 => 62 | 8 => 68 | 9 => 69 | 11 => 73 | 13 => 75 | 12 => 74 | 23 => 85 | 24 => 86 | 14 => 76 | 15 => 77 | 16 => 78 | 17 => 79 | 18 => 80 | 19 => 81 | 20 => 82 | 21 => 83 | 22 => 84 | 25 => 87 | 26 => 88 | 27 => 89 | 28 => 90 | 29 => 91 | 30 => 92 | 31 => 93 | n => n, fun | 26 => 3 | 28 => 116 | 24 => 31 | 0 => 0 | 3 => 3 | 37 => 38 | 48 => 112 | 50 => 138 | 4 => 4 | 40 => 130 | 39 => 129 | 45 => 134 | 5 => 5 | 9 => 9 | 51 => 139 | 55 => 143 | 57 => 145 | 58 => 146 | 33 => 124 | n => n, fun | n => n⟩
theorem Try.sortedA : Go.Proofs.SlLaysZI.n6 Try.prog Try.sortedA_ren := {
  mixed := by kernel_rfl
  f6 := ⟨Try.f62.name, by decide, Try.func62.trans (congrArg some (by kernel_rfl))⟩
  f8 := ⟨Try.f68.name, by decide, Try.func68.trans (congrArg some (by kernel_rfl))⟩
  f11 := ⟨Try.f73.name, by decide, Try.func73.trans (congrArg some (by kernel_rfl))⟩
  t0 := Try.underlying0
  a0 := Try.isAgg0
  z0 := Try.sizeOf0
  v0 := Try.zeroValue0
  t24 := Try.underlying31
  a24 := Try.isAgg31
  z24 := Try.sizeOf31
  v24 := Try.zeroValue31
  t26 := Try.underlying3
  a26 := Try.isAgg3
  z26 := Try.sizeOf3
  v26 := Try.zeroValue3
  t28 := Try.underlying116
  a28 := Try.isAgg116
  z28 := Try.sizeOf116
  v28 := Try.zeroValue116
  i26 := by kernel_rfl }
def Try.sortA_ren : Go.Shelf.Ren := ⟨fun | 5 => 69 | 8 => 75 | 7 => 74 | 19 => 85 | 20 => 86 | 10 => 76 | 11 => 77 | 12 => 78 | 13 => 79 | 14 => 80 | 15 => 81 | 16 => 82 | 17 => 83 | 18 => 84 | 30 => 87 | 31 => 88 | 32 => 89 | 33 => 90 | 34 => 91 | 35 => 92 | 40 => 93 | n => n, fun | 23 => 31 | 25 => 3 | 3 => 3 | 32 => 38 | 22 => 31 | 0 => 0 | 44 => 112 | 46 => 138 | 4 => 4 | 36 => 130 | 35 => 129 | 41 => 134 | 5 => 5 | 9 => 9 | 53 => 139 | 57 => 143 | 63 => 145 | 64 => 146 | n => n, fun | n => n⟩
theorem Try.sortA : Go.Proofs.SlLaysM.n5 Try.prog Try.sortA_ren := {
  mixed := by kernel_rfl
  f5 := ⟨Try.f69.name, by decide, Try.func69.trans (congrArg some (by kernel_rfl))⟩
  f7 := ⟨Try.f74.name, by decide, Try.func74.trans (congrArg some (by kernel_rfl))⟩
  f8 := Try.func75.trans (congrArg some (by kernel_rfl))
  f10 := ⟨Try.f76.name, by decide, Try.func76.trans (congrArg some (by kernel_rfl))⟩
  f11 := ⟨Try.f77.name, by decide, Try.func77.trans (congrArg some (by kernel_rfl))⟩
  f12 := ⟨Try.f78.name, by decide, Try.func78.trans (congrArg some (by kernel_rfl))⟩
  f13 := ⟨Try.f79.name, by decide, Try.func79.trans (congrArg some (by kernel_rfl))⟩
  f14 := ⟨Try.f80.name, by decide, Try.func80.trans (congrArg some (by kernel_rfl))⟩
  f15 := ⟨Try.f81.name, by decide, Try.func81.trans (congrArg some (by kernel_rfl))⟩
  f16 := ⟨Try.f82.name, by decide, Try.func82.trans (congrArg some (by kernel_rfl))⟩
  f17 := ⟨Try.f83.name, by decide, Try.func83.trans (congrArg some (by kernel_rfl))⟩
  f18 := ⟨Try.f84.name, by decide, Try.func84.trans (congrArg some (by kernel_rfl))⟩
  f19 := Try.func85.trans (congrArg some (by kernel_rfl))
  f20 := Try.func86.trans (congrArg some (by kernel_rfl))
  f30 := ⟨Try.f87.name, by decide, Try.func87.trans (congrArg some (by kernel_rfl))⟩
  f31 := Try.func88.trans (congrArg some (by kernel_rfl))
  f32 := Try.func89.trans (congrArg some (by kernel_rfl))
  f33 := ⟨Try.f90.name, by decide, Try.func90.trans (congrArg some (by kernel_rfl))⟩
  f34 := ⟨Try.f91.name, by decide, Try.func91.trans (congrArg some (by kernel_rfl))⟩
  f35 := ⟨Try.f92.name, by decide, Try.func92.trans (congrArg some (by kernel_rfl))⟩
  f40 := ⟨Try.f93.name, by decide, Try.func93.trans (congrArg some (by kernel_rfl))⟩
  t0 := Try.underlying0
  a0 := Try.isAgg0
  z0 := Try.sizeOf0
  v0 := Try.zeroValue0
  t3 := Try.underlying3
  a3 := Try.isAgg3
  z3 := Try.sizeOf3
  v3 := Try.zeroValue3
  t4 := Try.underlying4
  a4 := Try.isAgg4
  z4 := Try.sizeOf4
  v4 := Try.zeroValue4
  t5 := Try.underlying5
  a5 := Try.isAgg5
  z5 := Try.sizeOf5
  v5 := Try.zeroValue5
  t9 := Try.underlying9
  a9 := Try.isAgg9
  z9 := Try.sizeOf9
  v9 := Try.zeroValue9
  t22 := Try.underlying31
  a22 := Try.isAgg31
  z22 := Try.sizeOf31
  v22 := Try.zeroValue31
  t23 := Try.underlying31
  a23 := Try.isAgg31
  z23 := Try.sizeOf31
  v23 := Try.zeroValue31
  t25 := Try.underlying3
  a25 := Try.isAgg3
  z25 := Try.sizeOf3
  v25 := Try.zeroValue3
  t32 := Try.underlying38
  a32 := Try.isAgg38
  z32 := Try.sizeOf38
  v32 := Try.zeroValue38
  t35 := Try.underlying129
  a35 := Try.isAgg129
  z35 := Try.sizeOf129
  v35 := Try.zeroValue129
  t36 := Try.underlying130
  a36 := Try.isAgg130
  z36 := Try.sizeOf130
  v36 := Try.zeroValue130
  t41 := Try.underlying134
  a41 := Try.isAgg134
  z41 := Try.sizeOf134
  v41 := Try.zeroValue134
  t44 := Try.underlying112
  a44 := Try.isAgg112
  z44 := Try.sizeOf112
  v44 := Try.zeroValue112
  t46 := Try.underlying138
  a46 := Try.isAgg138
  z46 := Try.sizeOf138
  v46 := Try.zeroValue138
  t53 := Try.underlying139
  a53 := Try.isAgg139
  z53 := Try.sizeOf139
  v53 := Try.zeroValue139
  t57 := Try.underlying143
  a57 := Try.isAgg143
  z57 := Try.sizeOf143
  v57 := Try.zeroValue143
  t63 := Try.underlying145
  a63 := Try.isAgg145
  z63 := Try.sizeOf145
  v63 := Try.zeroValue145
  t64 := Try.underlying146
  a64 := Try.isAgg146
  z64 := Try.sizeOf146
  v64 := Try.zeroValue146 }
end Go.Proofs
namespace Go.Proofs.Ytpckbbjlihhpdaa
open Go.RowKit

theorem el_block_of_add (a : Addr) (n : Nat) : (a.add n).block = a.block := by unfold Addr.add; split <;> rfl
theorem el_add_of_add (a : Addr) (i j : Nat) : (a.add i).add j = a.add (i + j) := by
  unfold Addr.add
  by_cases hi : i = 0 <;> by_cases hj : j = 0 <;> simp [hi, hj, Nat.add_assoc]
theorem el_add_pos (q : Addr) (j : Nat) (hj : 0 < j) : q.add j = ⟨q.block, q.off + j, none⟩ := by unfold Addr.add; rw [if_neg (by omega)]
theorem el_add_zero (q : Addr) : q.add 0 = q := by unfold Addr.add; rw [if_pos rfl]

section
variable {α : Type} {enc : α → List Value} {k : Nat}

/-- The slice at A with capacity cap reads as the list l, each element k cells, in memory below block K. -/
structure Sr (enc : α → List Value) (k : Nat) (w : World) (K : Nat) (A : Option Addr) (cap : Nat) (l : List α) : Prop where
  le : l.length ≤ cap
  max : cap ≤ maxLen
  nil : A = none → cap = 0
  at_ : 0 < l.length → ∃ ad : Addr, A = some ad ∧ ad.block < K ∧ ∀ i x, l[i]? = some x → ∀ j u, (enc x)[j]? = some u → w.cell? (ad.add (i * k + j)) = some u
/-- v is a slice of the call's own (blocks from K on, elements of type T) that holds the list l. -/
def So (enc : α → List Value) (k : Nat) (w : World) (K : Nat) (T : TypeId) (v : Value) (l : List α) : Prop := w.ownsRow K T k v l.length (l.flatMap enc)

variable {w w' : World} {K K' cap : Nat} {A : Option Addr} {l : List α}
theorem Sr.none_ (w : World) (K : Nat) : Sr enc k w K none 0 ([] : List α) := ⟨Nat.le_refl _, by unfold maxLen; omega, fun _ => rfl, fun h => absurd h (by simp)⟩
theorem Sr.keep (h : Sr enc k w K A cap l) (hk : ∀ p : Addr, p.block < K → w'.cell? p = w.cell? p) : Sr enc k w' K A cap l :=
  ⟨h.le, h.max, h.nil, fun hn => by
    obtain ⟨ad, e, hb, hc⟩ := h.at_ hn
    exact ⟨ad, e, hb, fun i x hi j u hu => (hk _ (by rw [el_block_of_add]; exact hb)).trans (hc i x hi j u hu)⟩⟩
theorem Sr.below (h : Sr enc k w K A cap l) (hb : Below K w w') : Sr enc k w' K A cap l := h.keep fun _ hp => hb.cell hp
theorem Sr.more (h : Sr enc k w K A cap l) (hK : K ≤ K') : Sr enc k w K' A cap l :=
  ⟨h.le, h.max, h.nil, fun hn => by
    obtain ⟨ad, e, hb, hc⟩ := h.at_ hn
    exact ⟨ad, e, by omega, hc⟩⟩
theorem Sr.drewN (h : Sr enc k w K A cap l) (n : Nat) : Sr enc k (w.drewN n) K A cap l := h.keep fun _ _ => rfl
theorem Sr.drew (h : Sr enc k w K A cap l) : Sr enc k w.drew K A cap l := h.keep fun _ _ => rfl
theorem Sr.alloc (h : Sr enc k w K A cap l) (hK : K ≤ w.heap.size) (o : Obj) : Sr enc k (w.alloc o) K A cap l := h.keep fun _ hp => World.cell?_alloc_lt _ _ _ (by omega)
theorem Sr.get (h : Sr enc k w K A cap l) {i : Nat} (hi : i < l.length) : ∃ ad : Addr, A = some ad ∧ ad.block < K ∧ ∀ j u, (enc l[i])[j]? = some u → w.cell? (ad.add (i * k + j)) = some u := by
  obtain ⟨ad, e, hb, hc⟩ := h.at_ (by omega)
  exact ⟨ad, e, hb, fun j u hu => hc i l[i] (List.getElem?_eq_getElem hi) j u hu⟩
/-- The element's cells as the walk spells them. -/
theorem Sr.get2 (h : Sr enc k w K A cap l) {i : Nat} (hi : i < l.length) : ∃ ad : Addr, A = some ad ∧ ad.block < K ∧ (∀ u, (enc l[i])[0]? = some u → w.cell? (ad.add (i * k)) = some u) ∧
    ∀ j u, 0 < j → (enc l[i])[j]? = some u → w.cell? ⟨(ad.add (i * k)).block, (ad.add (i * k)).off + j, none⟩ = some u := by
  obtain ⟨ad, e, hb, hc⟩ := h.get hi
  refine ⟨ad, e, hb, fun u hu => hc 0 u hu, fun j u hj hu => ?_⟩
  rw [← el_add_pos _ _ hj, el_add_of_add]
  exact hc j u hu
theorem Sr.to (h : Sr enc k w K A cap l) {j : Nat} (hj : j ≤ l.length) : Sr enc k w K A cap (l.take j) := by
  have hle := h.le
  have hlen : (l.take j).length = j := by simp; omega
  refine ⟨by omega, h.max, h.nil, fun hn => ?_⟩
  obtain ⟨ad, e, hb, hc⟩ := h.at_ (by omega)
  refine ⟨ad, e, hb, fun i x hi => hc i x ?_⟩
  rw [List.getElem?_take] at hi
  split at hi
  · exact hi
  · cases hi

variable {T : TypeId} {v : Value}
theorem So.empty (enc : α → List Value) (k : Nat) (w : World) (K : Nat) (T : TypeId) : So enc k w K T (.slice none 0 0) [] := World.ownsRow_nil w K _ _
theorem So.keep (h : So enc k w K T v l) {row : Option Nat} (hg : w.grownBy w' row) (hne : v.ownBlock = none ∨ v.ownBlock ≠ row) : So enc k w' K T v l := World.ownsRow.kept h hg hne
theorem So.below (h : So enc k w K T v l) (hb : Below w.heap.size w w') : So enc k w' K T v l :=
  World.ownsRow.kept (row := none) h ⟨hb.os, hb.tape, hb.output, hb.size, fun k hk _ => hb.block k hk⟩ (by cases h' : v.ownBlock <;> simp)
theorem So.alloc (h : So enc k w K T v l) (o : Obj) : So enc k (w.alloc o) K T v l := World.ownsRow.alloc h o
theorem So.drew (h : So enc k w K T v l) : So enc k w.drew K T v l := h
theorem So.drewN (h : So enc k w K T v l) (n : Nat) : So enc k (w.drewN n) K T v l := h
theorem So.lt (h : So enc k w K T v l) : ∀ g, v.ownBlock = some g → K ≤ g ∧ g < w.heap.size := World.ownsRow.lt h
theorem So.more (h : So enc k w K T v l) (hK : K' ≤ K) : So enc k w K' T v l := by
  rcases h.2 with ⟨he, h0⟩ | ⟨g, cap', cur, he, hb, hg⟩
  · exact ⟨h.1, .inl ⟨he, h0⟩⟩
  · exact ⟨h.1, .inr ⟨g, cap', cur, he, by omega, hg⟩⟩
theorem flatMap_get (henc : ∀ x, (enc x).length = k) : ∀ (l : List α) (i : Nat) (x : α), l[i]? = some x → ∀ j u, (enc x)[j]? = some u → (l.flatMap enc)[i * k + j]? = some u
  | [], i, x, h, _, _, _ => by simp at h
  | y :: l, 0, x, h, j, u, hu => by
    simp at h
    subst h
    rw [List.flatMap_cons, Nat.zero_mul, Nat.zero_add, List.getElem?_append_left]
    · exact hu
    · exact (List.getElem?_eq_some_iff.1 hu).1
  | y :: l, i + 1, x, h, j, u, hu => by
    rw [List.flatMap_cons, List.getElem?_append_right (by rw [henc, Nat.add_mul]; omega), henc]
    have : (i + 1) * k + j - k = i * k + j := by rw [Nat.add_mul]; omega
    rw [this]
    exact flatMap_get henc l i x (by simpa using h) j u hu
theorem So.sr (henc : ∀ x, (enc x).length = k) {n : Nat} (h : So enc k w K T (.slice A n cap) l) : Sr enc k w w.heap.size A cap l ∧ l.length = n := by
  rcases h.2 with ⟨he, h0⟩ | ⟨g, cap', cur, he, hb, hg, hn, hc, hs, ht⟩
  · injection he with h1 h2 h3
    subst h1 h2 h3
    exact ⟨⟨by omega, Nat.zero_le _, fun _ => rfl, fun h => absurd h (by omega)⟩, h0⟩
  · injection he with h1 h2 h3
    subst h1 h3
    refine ⟨⟨hn, hc, (fun h => by cases h), fun hl => ⟨_, rfl, ?_, fun i x hi j u hu => ?_⟩⟩, h2.symm⟩
    · rcases Nat.lt_or_ge g w.heap.size with hlt | hge
      · exact hlt
      · rw [Array.getElem?_eq_none hge] at hg; cases hg
    · exact h.cells (g := g) rfl _ _ (flatMap_get henc l i x hi j u hu)
theorem So.form (h : So enc k w K T v l) : ∃ A' cap', v = .slice A' l.length cap' := by
  rcases h.2 with ⟨he, h0⟩ | ⟨g, cap', cur, he, _⟩
  · exact ⟨none, 0, by rw [he, h0]⟩
  · exact ⟨_, _, he⟩

variable {P : Program}
/-- append of one element. -/
theorem wpList_pushE {T ST : TypeId} (hund : P.underlying ST = some (.slice T)) {z : Value} {bytes : Nat} (hinfo : (P.info? T).map (fun i => (i.zero, i.size, i.bytes)) = some (some z, k, bytes)) (hz : z.cells.size = k) (hk : 0 < k)
    {ops : Array Oper} {rest : List Oper} {o : Oper} {a : Act} {Q : Exit → Act → World → Prop} (w : World) (hgd : o.guard = none) (s x : Operand)
    (ho : o.op = .call { callee := .builtin .append, args := #[s, x], argTypes := #[ST, ST] }) (K : Nat) (v : Value) (l : List α) (hs : a.eval s = v) (hown : So enc k w K T v l)
    (e : α) (cs : Array Value) (hcs : cs.toList = enc e) (he : (enc e).length = k) (h1 : ∀ u ∈ enc e, u.oneCell' = true) (TB : TypeId) (H : Nat) (hH : w.heap.size = H) (hxx : a.eval x = .slice (some ⟨H, 0, none⟩) 1 1)
    (N : Nat) (hN : l.length + 1 = N) (hm : N ≤ maxLen) (hsz : N * bytes ≤ 140737488355328) (hK : K ≤ H)
    (h : ∀ A' cap' w', So enc k w' K T (.slice A' N cap') (l ++ [e]) → w.grownBy w' v.ownBlock → ((Value.slice A' N cap').ownBlock = v.ownBlock ∨ ∃ g, (Value.slice A' N cap').ownBlock = some g ∧ w.heap.size ≤ g) → wpList P ops Q rest (a.put o.dst (.slice A' N cap')) w') :
    wpList P ops Q (o :: rest) a (w.alloc (.cells cs TB)) := by
  subst hH hN
  obtain ⟨i0, hi, hz0, hz1, hz2⟩ := info_parts hinfo
  refine wpList_append_lies _ hgd s x ST ho K T i0 z k bytes hund hi hz0 hz1 hz2 hz hk v l.length _ hs (World.ownsRow.alloc hown _) ⟨w.heap.size, 0, none⟩ 1 1 (enc e) hxx (by rw [he]; omega)
    (by have := World.news_of_block (heap_alloc_new w (.cells cs TB)); rwa [hcs] at this) h1 (by omega) hm hsz (by simp; omega) _ rfl ?_
  intro g cap w1 hown1 hgrow1 hat1 hlt1
  have hg : w.grownBy w1 v.ownBlock := ⟨hgrow1.os, hgrow1.tape, hgrow1.output, Nat.le_trans (by simp) hgrow1.size, fun i hi hne => (hgrow1.block i (by simp; omega) hne).trans (Below.heap_alloc w _ i hi)⟩
  refine h _ _ w1 (by unfold So; rw [List.length_append, List.flatMap_append]; simpa using hown1) hg ?_
  rcases hat1 with h1 | h1
  · exact .inl (by simpa [Value.ownBlock] using h1.symm)
  · exact .inr ⟨g, rfl, by rw [h1]; simp⟩
end
end Go.Proofs.Ytpckbbjlihhpdaa
namespace Go.Proofs.Ytpckbbjlihhpdaa
open Go.RowKit

section
variable {α : Type} {enc : α → List Value} {k : Nat} {P : Program}

theorem flatMap_len (henc : ∀ x, (enc x).length = k) (l : List α) : (l.flatMap enc).length = l.length * k := by
  induction l with
  | nil => simp
  | cons x l ih => rw [List.flatMap_cons, List.length_append, ih, henc, List.length_cons, Nat.add_mul]; omega
theorem flatMap_split (henc : ∀ x, (enc x).length = k) : ∀ (l : List α) (j : Nat) (u : Value), (l.flatMap enc)[j]? = some u → ∃ i x q, l[i]? = some x ∧ (enc x)[q]? = some u ∧ j = i * k + q
  | [], j, u, h => by simp at h
  | y :: l, j, u, h => by
    rw [List.flatMap_cons] at h
    by_cases hj : j < (enc y).length
    · rw [List.getElem?_append_left hj] at h
      exact ⟨0, y, j, rfl, h, by omega⟩
    · rw [List.getElem?_append_right (by omega)] at h
      obtain ⟨i, x, q, h1, h2, h3⟩ := flatMap_split henc l _ u h
      refine ⟨i + 1, x, q, by simpa using h1, h2, ?_⟩
      rw [henc] at h3 hj
      rw [Nat.add_mul]
      omega

theorem run_appE {T ST : TypeId} (hund : P.underlying ST = some (.slice T)) {z : Value} {bytes : Nat} (hinfo : (P.info? T).map (fun i => (i.zero, i.size, i.bytes)) = some (some z, k, bytes)) (hz : z.cells.size = k) (hk : 0 < k)
    (henc : ∀ x, (enc x).length = k) (h1 : ∀ x, ∀ u ∈ enc x, u.oneCell' = true) (w : World) (ty : TypeId) {K K' : Nat} {v : Value} {l m : List α} (hown : So enc k w K T v l) {A : Option Addr} {cap : Nat} (hsrc : Sr enc k w K' A cap m)
    (hm : l.length + m.length ≤ maxLen) (hsz : (l.length + m.length) * bytes ≤ 140737488355328) (hbase : K ≤ w.heap.size) :
    ∃ A' cap' w', (Builtin.append_ #[ST, ST] ty #[v, .slice A m.length cap]).run P w = .ok (.slice A' (l.length + m.length) cap') w' ∧ So enc k w' K T (.slice A' (l.length + m.length) cap') (l ++ m) ∧ w.grownBy w' v.ownBlock ∧
      ((Value.slice A' (l.length + m.length) cap').ownBlock = v.ownBlock ∨ (Value.slice A' (l.length + m.length) cap').ownBlock = some w.heap.size) := by
  obtain ⟨i0, hi, hz0, hz1, hz2⟩ := info_parts hinfo
  rcases A with _ | ad
  · have hc := hsrc.nil rfl
    have hm0 : m = [] := List.eq_nil_of_length_eq_zero (by have := hsrc.le; omega)
    subst hm0
    subst hc
    obtain ⟨A', cap', hv⟩ := hown.form
    have hrun := run_append_owned_none (P := P) w K ST ty T i0 k hund hi v _ _ hown
    exact ⟨A', cap', w, by rw [hv] at hrun ⊢; exact hrun, by rw [List.append_nil]; exact hv ▸ hown, ⟨rfl, rfl, rfl, Nat.le_refl _, fun _ _ _ => rfl⟩, .inl (by rw [hv]; rfl)⟩
  · obtain ⟨v', w', hr, h2, h3, _, h5⟩ := run_append_own_at (P := P) w K ST ty T i0 z k bytes hund hi hz0 hz1 hz2 hz hk v _ _ hown ad m.length cap (m.flatMap enc) (flatMap_len henc m)
      (fun j u hj => by
        obtain ⟨i, x, q, e1, e2, e3⟩ := flatMap_split henc m j u hj
        have hpos : 0 < m.length := by have := (List.getElem?_eq_some_iff.1 e1).1; omega
        obtain ⟨ad', he, _, hcell⟩ := hsrc.at_ hpos
        cases he
        rw [e3]
        exact hcell i x e1 q u e2)
      (fun u hu => by
        obtain ⟨x, _, hx⟩ := List.mem_flatMap.1 hu
        exact h1 x u hx) hm hsz hbase
    have h2' : So enc k w' K T v' (l ++ m) := by unfold So; rw [List.length_append, List.flatMap_append]; exact h2
    obtain ⟨A', cap', hv⟩ := h2'.form
    rw [List.length_append] at hv
    subst hv
    exact ⟨A', cap', w', hr, h2', h3, h5⟩

theorem wpList_appE {T ST : TypeId} (hund : P.underlying ST = some (.slice T)) {z : Value} {bytes : Nat} (hinfo : (P.info? T).map (fun i => (i.zero, i.size, i.bytes)) = some (some z, k, bytes)) (hz : z.cells.size = k) (hk : 0 < k)
    (henc : ∀ x, (enc x).length = k) (h1 : ∀ x, ∀ u ∈ enc x, u.oneCell' = true)
    {ops : Array Oper} {rest : List Oper} {o : Oper} {a : Act} {Q : Exit → Act → World → Prop} (w : World) (hgd : o.guard = none) (s x : Operand)
    (ho : o.op = .call { callee := .builtin .append, args := #[s, x], argTypes := #[ST, ST] })
    (K : Nat) (v : Value) (l : List α) (hs : a.eval s = v) (hown : So enc k w K T v l) (A : Option Addr) (M cap : Nat) (m : List α) (hx : a.eval x = .slice A M cap) (hM : m.length = M) (K' : Nat) (hsrc : Sr enc k w K' A cap m)
    (N : Nat) (hN : l.length + m.length = N) (hm : N ≤ maxLen) (hsz : N * bytes ≤ 140737488355328) (hbase : K ≤ w.heap.size)
    (h : ∀ A' cap' w', So enc k w' K T (.slice A' N cap') (l ++ m) → w.grownBy w' v.ownBlock → ((Value.slice A' N cap').ownBlock = v.ownBlock ∨ (Value.slice A' N cap').ownBlock = some w.heap.size) → wpList P ops Q rest (a.put o.dst (.slice A' N cap')) w') : wpList P ops Q (o :: rest) a w := by
  subst hN hM
  refine wpList_plain hgd fun _ hK => ?_
  obtain ⟨A', cap', w', hr, h2, h3, h4⟩ := run_appE hund hinfo hz hk henc h1 w o.type hown hsrc hm hsz hbase
  unfold Oper.wp execOp
  simp only [ho, resolve, invoke, builtin, Sem.run_bind, Sem.run_pure, Result.andThen_ok, List.map_toArray, List.map_cons, List.map_nil, hs, hx, hr]
  exact hK _ _ (h A' cap' w' h2 h3 h4)

theorem lit_so (w : World) (K : Nat) (T : TypeId) (H : Nat) (hH : w.heap.size = H) (hK : K ≤ H) (cs : Array Value) (n : Nat) (l : List α) (henc : ∀ x, (enc x).length = k) (h : cs.toList = l.flatMap enc) (hn : l.length = n) (hm : n ≤ maxLen) : So enc k (w.alloc (.cells cs T)) K T (.slice (some ⟨H, 0, none⟩) n n) l := by
  subst hH hn
  have := World.ownsRow_lit (e := T) (size := k) w cs l.length hK hm (by rw [← Array.length_toList, h, flatMap_len henc])
  rw [h] at this
  exact this
end
end Go.Proofs.Ytpckbbjlihhpdaa
namespace Go.Proofs.Ytpckbbjlihhpdaa
open Go.RowKit

def fz (f : Int) : Int := if 0 < f then f - 1 else f
/-- A segment as such: its number, its bytes, how many last, whether it lasts. -/
structure As where
  n : Int
  b : List UInt8
  l : Nat
  k : Bool
def kq (a : As) (more : Int) : Nat := min (a.l + more.toNat) a.b.length
def tornA (a : As) (more : Int) : List As := if a.k = true ∨ 0 < kq a more then [⟨a.n, a.b.take (kq a more), kq a more, true⟩] else []
def crashA : List As → List Int → List As
  | [], _ => []
  | a :: r, ks => tornA a (ks.headD 0) ++ crashA r ks.tail
def sumA : List As → Nat
  | [] => 0
  | a :: r => a.b.length + sumA r
theorem sumA_append (x y : List As) : sumA (x ++ y) = sumA x + sumA y := by
  induction x with
  | nil => simp [sumA]
  | cons a x ih => simp only [List.cons_append, sumA, ih]; omega
theorem kq_le (a : As) (more : Int) : kq a more ≤ a.b.length := Nat.min_le_right _ _
theorem sum_torn (a : As) (more : Int) : sumA (tornA a more) = kq a more := by
  have := kq_le a more
  unfold tornA
  split
  · simp only [sumA, List.length_take]; omega
  · rename_i h
    have := (not_or.1 h).2
    simp only [sumA]; omega
theorem len_torn (a : As) (more : Int) : (tornA a more).length ≤ 1 := by
  unfold tornA
  split <;> simp
theorem len_crash : ∀ (L : List As) (ks : List Int), (crashA L ks).length ≤ L.length
  | [], _ => by simp [crashA]
  | a :: r, ks => by
    have h1 := len_torn a (ks.headD 0)
    have h2 := len_crash r ks.tail
    simp only [crashA, List.length_append, List.length_cons]; omega
theorem sum_crash : ∀ (L : List As) (ks : List Int), sumA (crashA L ks) ≤ sumA L
  | [], _ => by simp [crashA, sumA]
  | a :: r, ks => by
    have h1 := sum_torn a (ks.headD 0)
    have h2 := sum_crash r ks.tail
    have h3 := kq_le a (ks.headD 0)
    simp only [crashA, sumA_append, sumA]; omega
def hasA (L : List As) (n : Int) : Bool := L.any fun a => decide (a.n = n)
def putA (n : Int) (p : List UInt8) : List As → List As
  | [] => [⟨n, p, 0, false⟩]
  | x :: r => if n < x.n then ⟨n, p, 0, false⟩ :: x :: r else if x.n = n then ⟨x.n, x.b ++ p, x.l, x.k⟩ :: r else x :: putA n p r
def syncA (n : Int) (L : List As) : List As := L.map fun a => if a.n = n then ⟨a.n, a.b, a.b.length, true⟩ else a
def dropA (n : Int) (L : List As) : List As := L.filter fun a => !decide (a.n = n)
structure Ad where
  room : Int
  fuse : Int
  down : Bool
  L : List As
def appD (a : Ad) (n : Int) (p : List UInt8) : Int × Ad :=
  if a.down = true then (5, a) else if n < 1 then (1, a) else if a.room - (sumA a.L : Nat) < (p.length : Nat) then (4, a) else if hasA a.L n = false ∧ 1024 ≤ a.L.length then (4, a)
  else if a.fuse = 0 then (5, ⟨a.room, 0, true, a.L⟩) else (0, ⟨a.room, fz a.fuse, false, putA n p a.L⟩)
def opD (f : Int → List As → List As) (a : Ad) (n : Int) : Int × Ad :=
  if a.down = true then (5, a) else if hasA a.L n = false then (6, a) else if a.fuse = 0 then (5, ⟨a.room, 0, true, a.L⟩) else (0, ⟨a.room, fz a.fuse, false, f n a.L⟩)
def fuseD (a : Ad) (n : Int) : Int × Ad := if a.down = true then (5, a) else (0, ⟨a.room, max n (-1), false, a.L⟩)
def crashD (a : Ad) (ks : List Int) : Ad := ⟨a.room, -1, false, crashA a.L ks⟩

theorem sum_put (n : Int) (p : List UInt8) : ∀ L : List As, sumA (putA n p L) = sumA L + p.length
  | [] => by simp [putA, sumA]
  | x :: r => by
    unfold putA
    split
    · simp only [sumA]; omega
    · split
      · simp only [sumA, List.length_append]; omega
      · simp only [sumA, sum_put n p r]; omega
theorem len_put (n : Int) (p : List UInt8) : ∀ L : List As, (putA n p L).length ≤ L.length + 1
  | [] => by simp [putA]
  | x :: r => by
    have := len_put n p r
    unfold putA
    split
    · simp
    · split <;> simp <;> omega
theorem sum_sync (n : Int) (L : List As) : sumA (syncA n L) = sumA L := by
  induction L with
  | nil => rfl
  | cons x r ih =>
    show sumA ((if x.n = n then ⟨x.n, x.b, x.b.length, true⟩ else x) :: syncA n r) = _
    split <;> simp only [sumA, ih]
theorem len_drop (n : Int) (L : List As) : (dropA n L).length ≤ L.length := List.length_filter_le _ _

theorem fz_bd {f : Int} (h1 : -1 ≤ f) (h2 : f ≤ 9223372036854775807) : -1 ≤ fz f ∧ fz f ≤ 9223372036854775807 := by unfold fz; split <;> omega
end Go.Proofs.Ytpckbbjlihhpdaa
namespace Go.Proofs.Ytpckbbjlihhpdaa
open Go.RowKit Go.Maps Go.Sort Go.Shelf

theorem eq_of_perm_rise : ∀ {l2 l1 : List Int}, l1.Perm l2 → l1.Pairwise (· ≤ ·) → l2.Pairwise (· < ·) → l1 = l2
  | [], l1, p, _, _ => List.perm_nil.1 p
  | y :: l2, [], p, _, _ => absurd p.length_eq (by simp)
  | y :: l2, x :: l1, p, h1, h2 => by
    obtain ⟨a1, a2⟩ := List.pairwise_cons.1 h1
    obtain ⟨b1, b2⟩ := List.pairwise_cons.1 h2
    have hx : x ∈ y :: l2 := p.subset (List.mem_cons_self ..)
    have hy : y ∈ x :: l1 := p.symm.subset (List.mem_cons_self ..)
    have e : x = y := by
      rcases List.mem_cons.1 hx with e | hx'
      · exact e
      · rcases List.mem_cons.1 hy with e | hy'
        · exact e.symm
        · have := b1 x hx'
          have := a1 y hy'
          omega
    subst e
    rw [eq_of_perm_rise (List.Perm.cons_inv p) a2 b2]
theorem sorted_keys {ss : List Int} {M : List Sg} (h : Rise M) (p : ss.Perm (intKeys (Dm M))) : ss.mergeSort (fun x y => decide (x ≤ y)) = M.map Sg.n := by
  rw [dm_keys] at p
  refine eq_of_perm_rise ((List.mergeSort_perm ss _).trans p) ?_ ((rise_iff M).1 h)
  have := List.pairwise_mergeSort (le := fun x y : Int => decide (x ≤ y)) (fun a b c h1 h2 => by simp at h1 h2 ⊢; omega) (fun a b => by simp; omega) ss
  exact this.imp fun h => by simpa using h
def encI (n : Int) : List Value := [.int .i64 n]
theorem encI_len (n : Int) : (encI n).length = 1 := rfl
theorem flat_encI (l : List Int) : l.flatMap encI = l.map encZ := by
  induction l with
  | nil => rfl
  | cons x l ih => rw [List.flatMap_cons, ih]; rfl

/-- slices.Sort's two contracts at this dump. -/
theorem sortsA (m : Nat) : AnyZI.SortsIn Try.prog Try.sortedA_ren Fence.wide m :=
  ⟨fun blk off cap ss W hH hblk hsz => callsIn_wide.2 (AnyM.slices_Sort_int Try.sortA blk off cap ss W hH hblk hsz),
   fun p cap W => callsIn_wide.2 (AnyM.slices_Sort_int_none Try.sortA p cap W)⟩
set_option maxHeartbeats 1000000 in
theorem numbers_any (K d mb : Nat) (room used fuse : Int) (down : Bool) (M : List Sg) (w : World) (h : Dk w K d mb room used fuse down M) (hM : M.length ≤ 1024) :
    Calls Try.prog 53 #[dP d] w fun e w' => ∃ v, e = .returned v ∧ So encI 1 w' w.heap.size 3 v (M.map Sg.n) ∧ Below w.heap.size w w' := by
  refine (callsIn_wide (n := 6)).1 ?_
  have hown := h.mp
  have c2 := h.c2
  have hri := h.ri
  clear h
  have hbl := hown.lt
  have hmax : Maps.size (Dm M) ≤ maxLen := by rw [dm_size]; unfold maxLen; omega
  have hbytes : Maps.size (Dm M) * 8 ≤ 140737488355328 := by rw [dm_size]; omega
  have hseq : SeqGives Fence.wide 2 Try.prog 70 #[.pointer (some ⟨w.heap.size, 0, none⟩)] encZ (fun ss => ss.Perm (intKeys (Dm M))) (Maps.size (Dm M)) (w.alloc (.cells #[.map (some mb)] 63)) :=
    AnyZI.keys_gives (ρ := Try.keysA_ren) { Try.keysA with } Fence.wide _ trivial rfl (by omega) w.heap.size mb M.length (Dm M) _ (by simp) (by simp) (by
      obtain ⟨es, clock, hb, Ft, hs, hD⟩ := hown
      exact ⟨es, clock, (Below.heap_alloc _ _ mb hbl).trans hb, Ft, hs, hD⟩)
  have cK : ∀ mb W, CallsIn Fence.wide 5 Try.prog 63 #[.map mb] W fun e w' => e = .returned (.func (.func 70) #[] #[.pointer (some ⟨W.heap.size, 0, none⟩)]) ∧ w' = W.alloc (.cells #[.map mb] 63) := fun mb W => AnyZI.keys_in Try.keysA Fence.wide 5 trivial rfl mb W
  have cS := AnyZI.sorted_in Try.sortedA Fence.wide 5 trivial trivial trivial trivial rfl (by omega) (sortsA _) (enters_of Try.func69 (by kernel_rfl) rfl) 70 #[.pointer (some ⟨w.heap.size, 0, none⟩)] trivial (enters_of Try.func70 (by kernel_rfl) rfl) _ _ hmax hbytes _ hseq
  change CallsIn _ _ Try.prog 62 _ _ _ at cS
  have hfK : Fence.wide.fn 63 := trivial
  have hfS : Fence.wide.fn 62 := trivial
  refine callsIn_of_wp Try.func53 rfl trivial ?_ rfl
  simp only [Try.ntmps53, List.size_toArray, List.length_cons, List.length_nil, Nat.reduceAdd, Nat.reduceSub, Array.replicate_succ, Array.replicate_zero, List.push_toArray, List.append_toArray, List.nil_append, List.cons_append]
  gi_wp2_with (first
    | (gi_at_call 63; refine (cK _ _).mono ?_; rintro e w' ⟨rfl, rfl⟩)
    | (gi_at_call 62; refine cS.mono ?_; rintro e w' ⟨v, ss, rfl, hS, hrow, hnil, hb⟩))
  go_ret
  refine ⟨v, rfl, ?_, ((Below.refl _ w).alloc (B := w.heap.size) (Nat.le_refl _) (.cells #[.map (some mb)] 63)).trans (hb.mono (by simp))⟩
  have e1 := sorted_keys hri hS
  have e2 : ss.length = (M.map Sg.n).length := by rw [← e1, List.length_mergeSort]
  have hr : w'.ownsRow w.heap.size 3 1 v ss.length ((ss.mergeSort (fun x y => decide (x ≤ y))).map encZ) := ownsRow_base_a hrow (by simp)
  rw [e1, e2] at hr
  unfold So
  rw [flat_encI]
  exact hr
theorem settle_any (g : Nat) (A : Option Addr) (n c : Nat) (w : World) (c0 : w.cell? ⟨g, 0, none⟩ = some (.slice A n c)) (fr : ∀ o, w.frozen? ⟨g, o, none⟩ = false) (u1 u2 : Value) (c1 : w.cell? ⟨g, 1, none⟩ = some u1) (c2 : w.cell? ⟨g, 2, none⟩ = some u2) :
    Calls Try.prog 52 #[dP g] w fun e w' => e = .returned (.tuple #[]) ∧ w' = (w.setCell ⟨g, 1, none⟩ (.int .i64 (n : Int))).setCell ⟨g, 2, none⟩ (.bool true) := by
  have f1 := fr 1
  have f2 := fr 2
  clear fr
  go_enter Try.func52, Try.ntmps52
  go_wp2
  go_end0
  exact ⟨rfl, rfl⟩
theorem step_yes (K d mb : Nat) (room used fuse : Int) (M : List Sg) (w : World) (h : Dk w K d mb room used fuse false M) (hf : fuse ≠ 0) (hf2 : fuse ≤ 9223372036854775807) : Calls Try.prog 49 #[dP d] w fun e w' => e = .returned (.bool true) ∧ Dk w' K d mb room used (fz fuse) false M ∧ Tn (· = d) w w' := by
  by_cases h0 : 0 < fuse
  · have e : fz fuse = fuse - 1 := by simp [fz, h0]
    rw [e]
    exact step_fuse K d mb room used fuse M w h h0 hf2
  · have e : fz fuse = fuse := by simp [fz, h0]
    rw [e]
    refine (step_free K d mb room used fuse M w h (by omega)).mono ?_
    rintro e w' ⟨rfl, rfl⟩
    exact ⟨rfl, h, Tn.refl _ _⟩
theorem dnew_bad (x : Int) (h : x < 0 ∨ 67108864 < x) (w : World) : Calls Try.prog 8 #[.int .i64 x] w fun e w' => e = .returned (.tuple #[.pointer none, .int .i64 1]) ∧ w' = w := by
  by_cases h0 : x < 0
  · go_enter Try.func8, Try.ntmps8
    go_wp2
    refine bodyPost_ret (v := .tuple #[.pointer none, .int .i64 1]) (by simp [results, Try.results8, go_sem]) rfl ⟨rfl, rfl⟩
  · have h1 : 67108864 < x := by omega
    go_enter Try.func8, Try.ntmps8
    go_wp2
    refine bodyPost_ret (v := .tuple #[.pointer none, .int .i64 1]) (by simp [results, Try.results8, go_sem]) rfl ⟨rfl, rfl⟩
theorem dnew_ok (x : Int) (h1 : 0 ≤ x) (h2 : x ≤ 67108864) (w : World) : Calls Try.prog 8 #[.int .i64 x] w fun e w' => e = .returned (.tuple #[dP (w.heap.size + 1), .int .i64 0]) ∧ Dk w' w.heap.size (w.heap.size + 1) w.heap.size x 0 (-1) false [] ∧ Below w.heap.size w w' := by
  have h0 : ¬ x < 0 := by omega
  have h3 : ¬ 67108864 < x := by omega
  have hmm := @run_makeMap Try.prog
  go_enter Try.func8, Try.ntmps8
  go_wp2
  refine bodyPost_ret (v := .tuple #[dP (w.heap.size + 1), .int .i64 0]) (by simp [results, Try.results8, go_sem]) rfl ?_
  refine ⟨rfl, ⟨by simp, by simp, by simp, by simp, by simp, fun o => by simp, (World.ownsMap_made w _ _ _).alloc _, List.Pairwise.nil, fun s hs => absurd hs (by simp), fun s hs => absurd hs (by simp), fun s hs => absurd hs (by simp), by omega, by omega, Nat.le_refl _⟩, by go_grown⟩
section
variable (K d mb : Nat) (room used fuse : Int) (down : Bool) (M : List Sg) (w : World)
set_option maxRecDepth 100000 in
theorem grown_there (h : Dk w K d mb room used fuse down M) {s : Sg} (hs : s ∈ M) : Calls Try.prog 50 #[dP d, .int .i64 s.n] w fun e w' => e = .returned (dP s.g) ∧ w' = w := by
  have c2 := h.c2
  have hl := h.look hs
  have hq := run_eql_map_nil (P := Try.prog) w 63 3 94 (some mb) Try.underlying63
  clear h
  go_enter Try.func50, Try.ntmps50
  go_wp2
  go_ret
  exact ⟨rfl, rfl⟩
abbrev newSg (n : Int) (g : Nat) : Sg := ⟨n, g, .slice none 0 0, [], 0, false⟩
set_option maxRecDepth 100000 in
set_option maxHeartbeats 800000 in
theorem grown_new (h : Dk w K d mb room used fuse down M) {n : Int} (h1 : 1 ≤ n) (h2 : n ≤ 9223372036854775807) (hn : ∀ t ∈ M, t.n ≠ n) (hM : M.length ≤ 1024) (hK : K ≤ w.heap.size) :
    Calls Try.prog 50 #[dP d, .int .i64 n] w fun e w' => e = .returned (dP w.heap.size) ∧ Dk w' K d mb room used fuse down (ins (newSg n w.heap.size) M) ∧ Tn (· = mb) w w' ∧ (∀ k, blD d mb (ins (newSg n w.heap.size) M) k → blD d mb M k ∨ w.heap.size ≤ k) := by
  have c2 := h.c2
  have hdl := h.lt
  have hl := h.miss (n := n) (by omega) h2 hn
  have hq := run_eql_map_nil (P := Try.prog) w 63 3 94 (some mb) Try.underlying63
  have HD := Lib.hid h
  have HM := Lib.hid (h.mp.alloc (.cells #[.slice none 0 0, .int .i64 0, .bool false] 97))
  clear h
  go_enter Try.func50, Try.ntmps50
  go_wp2_with (at_mapUpdate; go_loud (refine wpList_mapUpdate_own _ rfl _ _ _ 63 rfl 3 94 keyI Try.underlying63 ptrE mb M.length (Dm M) rfl HM.out (by unfold maxLen; omega) _ _ _ rfl rfl (keyOf_int_mk Try.underlying3 (wf64 (by omega) h2)) (.lit (.int .i64 (w.heap.size : Int))) [] rfl ?_; intro w1 hown1 hgrow1))
  go_ret
  have hA : Dk (w.alloc (.cells #[.slice none 0 0, .int .i64 0, .bool false] 97)) K d mb room used fuse down M := HD.out.below ((Below.refl _ _).alloc (Nat.le_refl _) _)
  have t1 : Tn (· = mb) (w.alloc (.cells #[.slice none 0 0, .int .i64 0, .bool false] 97)) w1 := (Tn.ofGrown hgrow1).mono fun k _ e => by injection e
  have hmb := HD.out.mp.lt
  have hne : ¬ w.heap.size = mb := by omega
  have hs1 : SgC w1 K (newSg n w.heap.size) := ⟨t1.cell (by simp) hne, t1.cell (by simp) hne, t1.cell (by simp) hne, fun o => (t1.frozen (p := ⟨w.heap.size, o, none⟩) (by simp) hne).trans (by simp), Ob.empty _ _, hK, Nat.le_refl _, by simp [Value.ownBlock], h1, h2⟩
  have hz : (w.alloc (.cells #[.slice none 0 0, .int .i64 0, .bool false] 97)).heap.size = w.heap.size + 1 := by simp
  obtain ⟨D1, B1⟩ := HD.out.ins1 hA hn t1 hown1 hs1 (fun k e => e.elim (fun e => Nat.le_of_eq e.symm) (fun e => by simp [Value.ownBlock] at e))
  exact ⟨rfl, D1, ((Tn.alloc (P := (· = mb)) w _).thenQ t1 (fun _ _ e => e)), B1⟩
end
end Go.Proofs.Ytpckbbjlihhpdaa
namespace Go.Proofs.Ytpckbbjlihhpdaa
open Go.RowKit Go.Maps Go.BigFrame

theorem wrap_in {x : Int} (h1 : -9223372036854775808 ≤ x) (h2 : x ≤ 9223372036854775807) : IntKind.i64.wrap x = x := by
  simp [IntKind.wrap, IntKind.signed, IntKind.bits]
  omega
theorem below_drewN (B : Nat) (w : World) (n : Nat) : Below B w (w.drewN n) := ⟨rfl, rfl, rfl, Nat.le_refl _, fun _ _ => rfl⟩
section
variable {K d mb : Nat} {room used fuse : Int} {down : Bool} {M : List Sg} {w : World} {n : Int} {A : Option Addr} {m c : Nat}
theorem dapp_nil : Calls Try.prog 22 #[.pointer none, .int .i64 n, .slice A m c] w fun e w' => e = .returned (.int .i64 2) ∧ w' = w := by
  go_enter Try.func22, Try.ntmps22
  go_wp2
  go_ret
  exact ⟨rfl, rfl⟩
theorem dapp_down (h : Dk w K d mb room used fuse true M) : Calls Try.prog 22 #[dP d, .int .i64 n, .slice A m c] w fun e w' => e = .returned (.int .i64 5) ∧ w' = w := by
  have c4 := h.c4
  clear h
  go_enter Try.func22, Try.ntmps22
  go_wp2
  go_ret
  exact ⟨rfl, rfl⟩
theorem dapp_arg (h : Dk w K d mb room used fuse false M) (hn : n < 1) : Calls Try.prog 22 #[dP d, .int .i64 n, .slice A m c] w fun e w' => e = .returned (.int .i64 1) ∧ w' = w := by
  have c4 := h.c4
  clear h
  go_enter Try.func22, Try.ntmps22
  go_wp2
  go_ret
  exact ⟨rfl, rfl⟩
theorem Dk.lenM (h : Dk w K d mb room used fuse down M) (ty : TypeId) : (Builtin.len_ #[63] ty #[.map (some mb)]).run Try.prog w = .ok (.int .i64 (M.length : Int)) w := by
  have := h.mp.len Try.underlying63 ty
  rwa [dm_size] at this
set_option maxRecDepth 100000 in
set_option maxHeartbeats 1600000 in
theorem dapp_big (h : Dk w K d mb room used fuse false M) (hn : 1 ≤ n) (hu : 0 ≤ used) (hr : used ≤ room) (hr2 : room ≤ 67108864) (hm : room - used < m) : Calls Try.prog 22 #[dP d, .int .i64 n, .slice A m c] w fun e w' => e = .returned (.int .i64 4) ∧ Below w.heap.size w w' := by
  have c0 := h.c0
  have c1 := h.c1
  have c4 := h.c4
  have h1 : ¬ n < 1 := by omega
  have h2 : decide (room - used < (m : Int)) = true := by simp; omega
  clear h
  go_enter Try.func22, Try.ntmps22
  go_wp2_with fail
  go_big_quiet (fail)
  go_wp2
  go_ret
  exact ⟨rfl, below_drewN _ _ _⟩
set_option maxRecDepth 100000 in
set_option maxHeartbeats 1600000 in
theorem dapp_many (h : Dk w K d mb room used fuse false M) (hn : 1 ≤ n) (hn2 : n ≤ 9223372036854775807) (hu : 0 ≤ used) (hr : used ≤ room) (hr2 : room ≤ 67108864) (hm : m ≤ room - used) (hno : ∀ t ∈ M, t.n ≠ n) (hM : 1024 ≤ M.length) (hM2 : M.length ≤ 1024) : Calls Try.prog 22 #[dP d, .int .i64 n, .slice A m c] w fun e w' => e = .returned (.int .i64 4) ∧ Below w.heap.size w w' := by
  have c0 := h.c0
  have c1 := h.c1
  have c2 := h.c2
  have c4 := h.c4
  have h1 : ¬ n < 1 := by omega
  have h2 : decide (room - used < (m : Int)) = false := by simp; omega
  have hl := fun k => (h.drewN k).miss (n := n) (by omega) hn2 hno
  have hL := fun k ty => (h.drewN k).lenM ty
  have h3 : decide ((1024 : Int) ≤ (M.length : Int)) = true := by simp; omega
  clear h hno
  go_enter Try.func22, Try.ntmps22
  go_wp2_with fail
  go_big_quiet (fail)
  go_wp2
  go_ret
  exact ⟨rfl, below_drewN _ _ _⟩
/-- Is there room? -/
def fits (M : List Sg) (n : Int) : Prop := (∃ s ∈ M, s.n = n) ∨ ((∀ t ∈ M, t.n ≠ n) ∧ M.length < 1024)
set_option maxRecDepth 100000 in
set_option maxHeartbeats 1600000 in
theorem dapp_dead (h : Dk w K d mb room used 0 false M) (hn : 1 ≤ n) (hn2 : n ≤ 9223372036854775807) (hu : 0 ≤ used) (hr : used ≤ room) (hr2 : room ≤ 67108864) (hm : m ≤ room - used) (hf : fits M n) : Calls Try.prog 22 #[dP d, .int .i64 n, .slice A m c] w fun e w' => e = .returned (.int .i64 5) ∧ Dk w' K d mb room used 0 true M ∧ Tn (· = d) w w' := by
  have c0 := h.c0
  have c1 := h.c1
  have c2 := h.c2
  have c4 := h.c4
  have h1 : ¬ n < 1 := by omega
  have h2 : decide (room - used < (m : Int)) = false := by simp; omega
  have HD := Lib.hid h
  rcases hf with ⟨s, hs, rfl⟩ | ⟨hno, hM⟩
  · have hl := fun k => (h.drewN k).look hs
    clear h
    go_enter Try.func22, Try.ntmps22
    go_wp2_with fail
    go_big_quiet (fail)
    go_wp2_with (go_at_call 49; refine (step_none K d mb room used false M _ (HD.out.drewN _)).mono ?_; rintro e w' ⟨rfl, D1, T1⟩)
    go_ret
    exact ⟨rfl, D1, (Tn.ofNew (P := (· = d)) (below_drewN _ _ _)).then T1⟩
  · have hl := fun k => (h.drewN k).miss (n := n) (by omega) hn2 hno
    have hL := fun k ty => (h.drewN k).lenM ty
    have h3 : decide ((1024 : Int) ≤ (M.length : Int)) = false := by simp; omega
    clear h hno
    go_enter Try.func22, Try.ntmps22
    go_wp2_with fail
    go_big_quiet (fail)
    go_wp2_with (go_at_call 49; refine (step_none K d mb room used false M _ (HD.out.drewN _)).mono ?_; rintro e w' ⟨rfl, D1, T1⟩)
    go_ret
    exact ⟨rfl, D1, (Tn.ofNew (P := (· = d)) (below_drewN _ _ _)).then T1⟩
end
end Go.Proofs.Ytpckbbjlihhpdaa
namespace Go.Proofs.Ytpckbbjlihhpdaa
open Go.RowKit Go.Maps Go.BigFrame

section
variable {K d mb : Nat} {room used fuse : Int} {down : Bool} {M : List Sg} {w : World} {n : Int} {A : Option Addr} {m c : Nat}
/-- What an append to a segment leaves. -/
theorem Dk.appS {w1 w3 : World} {s : Sg} {b' : List UInt8} {A3 : Option Addr} {c3 N : Nat} (h : Dk w1 K d mb room used fuse down M) (hs : s ∈ M) (ob : Ob w3 K (.slice A3 N c3) (s.b ++ b')) (g : w1.grownBy w3 s.v.ownBlock) (at_ : (Value.slice A3 N c3).ownBlock = s.v.ownBlock ∨ (Value.slice A3 N c3).ownBlock = some w1.heap.size) :
    Dk (w3.setCell ⟨s.g, 0, none⟩ (.slice A3 N c3)) K d mb room used fuse down (upd M ⟨s.n, s.g, .slice A3 N c3, s.b ++ b', s.l, s.k⟩) ∧ Tn (bl s) w1 (w3.setCell ⟨s.g, 0, none⟩ (.slice A3 N c3)) ∧
      ∀ k, blD d mb (upd M ⟨s.n, s.g, .slice A3 N c3, s.b ++ b', s.l, s.k⟩) k → blD d mb M k ∨ w1.heap.size ≤ k := by
  have hc := h.sg s hs
  have t3 : Tn (bl s) w1 w3 := (Tn.ofGrown g).mono fun k _ e => .inr e.symm
  have t4 := Tn.setCell w3 s.g 0 (.slice A3 N c3)
  have t : Tn (bl s) w1 (w3.setCell ⟨s.g, 0, none⟩ (.slice A3 N c3)) := t3.thenQ t4 fun k _ e => .inl e
  have hse : ∀ {k}, some k = s.v.ownBlock → k ≠ s.g := fun e e2 => hc.se (by rw [← e, e2])
  have tg := Tn.ofGrown g
  have ng : ¬ some s.g = s.v.ownBlock := fun e => hc.se e.symm
  have x0 := tg.cell hc.c0 ng
  have x1 := tg.cell hc.c1 ng
  have x2 := tg.cell hc.c2 ng
  have xf : ∀ o, w3.frozen? ⟨s.g, o, none⟩ = false := fun o => (tg.frozen (p := ⟨s.g, o, none⟩) hc.lt ng).trans (hc.fr o)
  have ho : (Value.slice A3 N c3).ownBlock ≠ some s.g := by
    rcases at_ with e | e
    · rw [e]; exact hc.se
    · rw [e]; intro e2; injection e2 with e2; have := hc.lt; omega
  obtain ⟨D, B⟩ := h.setS (s' := ⟨s.n, s.g, .slice A3 N c3, s.b ++ b', s.l, s.k⟩) hs rfl rfl t ⟨World.cell?_setCell_same' _ _ _ (by rw [x0]; rfl), by rw [World.cell?_setCell_other _ _ _ _ (by simp)]; exact x1, by rw [World.cell?_setCell_other _ _ _ _ (by simp)]; exact x2, fun o => by rw [World.frozen?_setCell]; exact xf o, t4.ob ob fun k hk e => ho (by rw [hk, e]), hc.kg, by have := hc.le; simp; omega, ho, hc.n1, hc.n2⟩ (at_.imp id fun e k hk => by rw [e] at hk; injection hk with hk; omega)
  exact ⟨D, t, B⟩
set_option maxRecDepth 100000 in
set_option maxHeartbeats 3200000 in
theorem dapp_there (h : Dk w K d mb room used fuse false M) {s : Sg} (hs : s ∈ M) (hu : 0 ≤ used) (hr : used ≤ room) (hr2 : room ≤ 67108864) (hf : fuse ≠ 0) (hf2 : fuse ≤ 9223372036854775807) {K' : Nat} {b' : List UInt8} (hb : Bs w K' A c b') (hml : b'.length = m) (hm : m ≤ room - used)
    (hap : 0 < b'.length → ∀ ad : Addr, A = some ad → ad.block ≠ d) (hlen : s.b.length ≤ used) :
    Calls Try.prog 22 #[dP d, .int .i64 s.n, .slice A m c] w fun e w' => e = .returned (.int .i64 0) ∧ ∃ v, Dk w' K d mb room (used + m) (fz fuse) false (upd M ⟨s.n, s.g, v, s.b ++ b', s.l, s.k⟩) ∧ Tn (blD d mb M) w w' ∧ ∀ k, blD d mb (upd M ⟨s.n, s.g, v, s.b ++ b', s.l, s.k⟩) k → blD d mb M k ∨ w.heap.size ≤ k := by
  have c0 := h.c0
  have c1 := h.c1
  have c2 := h.c2
  have c4 := h.c4
  have hc := h.sg s hs
  have n1 := hc.n1
  have n2 := hc.n2
  have h1 : ¬ s.n < 1 := by omega
  have h2 : decide (room - used < (m : Int)) = false := by simp; omega
  have hw : IntKind.i64.wrap (used + (m : Int)) = used + (m : Int) := wrap_in (by omega) (by omega)
  have hne : d ≠ s.g := fun e => (h.of_ s hs s.g (.inl rfl)).1 e.symm
  have HKB : K ≤ w.heap.size := by have := h.kd; have := h.lt; omega
  have HD := Lib.hid h
  have HB := Lib.hid hb
  have hl := fun k => (h.drewN k).look hs
  clear h hb hc
  go_enter Try.func22, Try.ntmps22
  go_wp2_with fail
  go_big_quiet (fail)
  clear c0 c1 c2 c4 hl
  go_wp2_with (first
    | (go_at_call 49; refine (step_yes K d mb room used fuse M _ (HD.out.drewN _) hf hf2).mono ?_; rintro e w1 ⟨rfl, D1, T1⟩; have HD1 := Lib.hid D1; have HT1 := Lib.hid T1; clear D1 T1)
    | (go_at_call 50; refine (grown_there K d mb room used (fz fuse) false M _ HD1.out hs).mono ?_; rintro e w' ⟨rfl, rfl⟩; rename World => w1; have k0 := (HD1.out.sg s hs).c0)
    | (at_builtin; go_loud (refine wpList_app _ rfl (.tmp 60) (.tmp 61) rfl K s.v s.b rfl (HD1.out.sg s hs).ob A m c b' rfl hml K' (HT1.out.bs (HB.out.drewN _) hap) (s.b.length + m) (by rw [hml]) (by omega) (by have := HD1.out.kd; have := HD1.out.lt; omega) ?_; intro A3 c3 w3 ob3 gr3 at3; have tg := Tn.ofGrown gr3; have y0 := tg.cell k0 (fun e => (HD1.out.sg s hs).se e.symm); have yf := (tg.frozen (p := ⟨s.g, 0, none⟩) (HD1.out.sg s hs).lt (fun e => (HD1.out.sg s hs).se e.symm)).trans ((HD1.out.sg s hs).fr 0); have nd : ¬ some d = s.v.ownBlock := fun e => (HD1.out.of_ s hs d (.inr e.symm)).1 rfl; have z1 := tg.cell HD1.out.c1 nd; have zf := (tg.frozen (p := ⟨d, 1, none⟩) HD1.out.lt nd).trans (HD1.out.fr 1))))
  go_ret
  obtain ⟨D2, T2, B2⟩ := HD1.out.appS hs ob3 gr3 at3
  have hz : w.heap.size ≤ w1.heap.size := HT1.out.size
  exact ⟨rfl, _, D2.set1 (used + m), (((Tn.ofNew (P := blD d mb M) (below_drewN _ _ _)).thenQ HT1.out (fun _ _ e => .inl e)).thenQ T2 (fun _ _ e => .inr (.inr ⟨s, hs, e⟩))).thenQ (Tn.setCell _ d 1 _) (fun _ _ e => .inl e), fun k hk => (B2 k hk).imp id fun e => Nat.le_trans hz e⟩
set_option maxRecDepth 100000 in
set_option maxHeartbeats 3200000 in
theorem dapp_new (h : Dk w K d mb room used fuse false M) (h1n : 1 ≤ n) (h2n : n ≤ 9223372036854775807) (hno : ∀ t ∈ M, t.n ≠ n) (hM : M.length < 1024) (hu : 0 ≤ used) (hr : used ≤ room) (hr2 : room ≤ 67108864) (hf : fuse ≠ 0) (hf2 : fuse ≤ 9223372036854775807) {K' : Nat} {b' : List UInt8} (hb : Bs w K' A c b') (hml : b'.length = m) (hm : m ≤ room - used)
    (hap : 0 < b'.length → ∀ ad : Addr, A = some ad → ad.block ≠ d ∧ ad.block ≠ mb) :
    Calls Try.prog 22 #[dP d, .int .i64 n, .slice A m c] w fun e w' => e = .returned (.int .i64 0) ∧ ∃ g v, Dk w' K d mb room (used + m) (fz fuse) false (upd (ins (newSg n g) M) ⟨n, g, v, b', 0, false⟩) ∧ Tn (blD d mb M) w w' ∧ ∀ k, blD d mb (upd (ins (newSg n g) M) ⟨n, g, v, b', 0, false⟩) k → blD d mb M k ∨ w.heap.size ≤ k := by
  have c0 := h.c0
  have c1 := h.c1
  have c2 := h.c2
  have c4 := h.c4
  have h1 : ¬ n < 1 := by omega
  have h2 : decide (room - used < (m : Int)) = false := by simp; omega
  have h3 : decide ((1024 : Int) ≤ (M.length : Int)) = false := by simp; omega
  have hw : IntKind.i64.wrap (used + (m : Int)) = used + (m : Int) := wrap_in (by omega) (by omega)
  have HKB : K ≤ w.heap.size := by have := h.kd; have := h.lt; omega
  have HD := Lib.hid h
  have HB := Lib.hid hb
  have HN := Lib.hid hno
  have hl := fun k => (h.drewN k).miss (n := n) (by omega) h2n hno
  have hL := fun k ty => (h.drewN k).lenM ty
  clear h hb hno
  go_enter Try.func22, Try.ntmps22
  go_wp2_with fail
  go_big_quiet (fail)
  clear c0 c1 c2 c4 hl hL h3
  go_wp2_with (first
    | (go_at_call 49; refine (step_yes K d mb room used fuse M _ (HD.out.drewN _) hf hf2).mono ?_; rintro e w1 ⟨rfl, D1, T1⟩; have HD1 := Lib.hid D1; have HT1 := Lib.hid T1; have hz1 : w.heap.size ≤ w1.heap.size := T1.size; clear D1 T1)
    | (go_at_call 50; refine (grown_new K d mb room used (fz fuse) false M _ HD1.out h1n h2n HN.out (by omega) (by omega)).mono ?_; rintro e w2 ⟨rfl, D2, T2, B2⟩; have hin : newSg n w1.heap.size ∈ ins (newSg n w1.heap.size) M := mem_ins.2 (.inl rfl); have hsg := D2.sg _ hin; have k0 := hsg.c0; simp only at k0; have kf := hsg.fr 0; simp only at kf; have HD2 := Lib.hid D2; have HT2 := Lib.hid T2; have HB2 := Lib.hid B2; have HIN := Lib.hid hin; clear D2 T2 B2 hin hsg)
    | (at_builtin; go_loud (refine wpList_app _ rfl (.tmp 60) (.tmp 61) rfl K (.slice none 0 0) [] rfl (Ob.empty _ _) A m c b' rfl hml K' (HT2.out.bs (HT1.out.bs (HB.out.drewN _) (fun a b e => (hap a b e).1)) (fun a b e => (hap a b e).2)) m (by simp [hml]) (by simp; omega) (by have := HD2.out.kd; have := HD2.out.lt; omega) ?_; intro A3 c3 w3 ob3 gr3 at3; have tg := Tn.ofGrown gr3; have y0 := tg.cell k0 (by simp [Value.ownBlock]); have yf := (tg.frozen (p := ⟨w1.heap.size, 0, none⟩) (HD2.out.sg _ HIN.out).lt (by simp [Value.ownBlock])).trans kf; have z1 := tg.cell HD2.out.c1 (by simp [Value.ownBlock]); have zf := (tg.frozen (p := ⟨d, 1, none⟩) HD2.out.lt (by simp [Value.ownBlock])).trans (HD2.out.fr 1); have hne : d ≠ w1.heap.size := by have := HD1.out.lt; omega)))
  go_ret
  obtain ⟨D3, T3, B3⟩ := HD2.out.appS HIN.out ob3 gr3 at3
  have hz2 : w1.heap.size ≤ w2.heap.size := HT2.out.size
  refine ⟨rfl, w1.heap.size, _, D3.set1 (used + m), ?_, fun k hk => ?_⟩
  · exact ((((Tn.ofNew (P := blD d mb M) (below_drewN _ _ _)).thenQ HT1.out (fun _ _ e => .inl e)).thenQ HT2.out (fun _ _ e => .inr (.inl e))).thenQ T3 (fun k hk e => by
      rcases e with e | e
      · have e2 : k = w1.heap.size := e
        have hk2 : k < w.heap.size := hk
        omega
      · simp [Value.ownBlock] at e)).thenQ (Tn.setCell _ d 1 _) (fun _ _ e => .inl e)
  · rcases B3 k hk with e | e
    · rcases HB2.out k e with e | e
      · exact .inl e
      · exact .inr (by omega)
    · exact .inr (by omega)
end
end Go.Proofs.Ytpckbbjlihhpdaa
namespace Go.Proofs.Ytpckbbjlihhpdaa
open Go.RowKit Go.Maps Go.BigFrame

section
variable {K d mb : Nat} {room used fuse : Int} {down : Bool} {M : List Sg} {w : World} {n : Int}
def settled (s : Sg) : Sg := ⟨s.n, s.g, s.v, s.b, s.b.length, true⟩
theorem Dk.settleS (h : Dk w K d mb room used fuse down M) {s : Sg} (hs : s ∈ M) {N : Nat} (hN : N = s.b.length) :
    Dk ((w.setCell ⟨s.g, 1, none⟩ (.int .i64 (N : Int))).setCell ⟨s.g, 2, none⟩ (.bool true)) K d mb room used fuse down (upd M (settled s)) ∧ Tn (bl s) w ((w.setCell ⟨s.g, 1, none⟩ (.int .i64 (N : Int))).setCell ⟨s.g, 2, none⟩ (.bool true)) ∧ ∀ k, blD d mb (upd M (settled s)) k → blD d mb M k ∨ w.heap.size ≤ k := by
  subst hN
  have hc := h.sg s hs
  have t0 := (Tn.setCell w s.g 1 (.int .i64 (s.b.length : Int))).then (Tn.setCell _ s.g 2 (.bool true))
  have t : Tn (bl s) w _ := t0.mono fun k _ e => .inl e
  obtain ⟨D, B⟩ := h.setS (s' := settled s) hs rfl rfl t ⟨by
      rw [World.cell?_setCell_other _ _ _ _ (by simp [settled]), World.cell?_setCell_other _ _ _ _ (by simp [settled])]; exact hc.c0, by
      rw [World.cell?_setCell_other _ _ _ _ (by simp [settled])]
      exact World.cell?_setCell_same' _ _ _ (by rw [hc.c1]; rfl), World.cell?_setCell_same' _ _ _ (by rw [World.cell?_setCell_other _ _ _ _ (by simp), hc.c2]; rfl), fun o => by
      rw [World.frozen?_setCell, World.frozen?_setCell]; exact hc.fr o, t0.ob hc.ob fun k hk e => hc.se (show s.v.ownBlock = some s.g from e ▸ hk), hc.kg, Nat.le_refl _, hc.se, hc.n1, hc.n2⟩ (.inl rfl)
  exact ⟨D, t, B⟩
theorem Dk.formS (h : Dk w K d mb room used fuse down M) {s : Sg} (hs : s ∈ M) : ∃ A c, s.v = .slice A s.b.length c := by
  rcases (h.sg s hs).ob.2 with ⟨he, h0⟩ | ⟨g, cap', cur, he, _⟩
  · exact ⟨none, 0, by rw [he, h0]⟩
  · exact ⟨_, _, he⟩
theorem sync_err (pv : Value) (v : Int) (hv : v ≠ 0) (HL : Calls Try.prog 51 #[pv, .int .i64 n] w fun e w' => e = .returned (.int .i64 v) ∧ w' = w) : Calls Try.prog 23 #[pv, .int .i64 n] w fun e w' => e = .returned (.int .i64 v) ∧ w' = w := by
  have h0 : (v != (0 : Int)) = true := by simpa using hv
  go_enter Try.func23, Try.ntmps23
  go_wp2_with (go_at_call 51; refine HL.mono ?_; rintro e w' ⟨rfl, rfl⟩)
  go_ret
  exact ⟨rfl, rfl⟩
theorem drop_err (pv : Value) (v : Int) (hv : v ≠ 0) (HL : Calls Try.prog 51 #[pv, .int .i64 n] w fun e w' => e = .returned (.int .i64 v) ∧ w' = w) : Calls Try.prog 27 #[pv, .int .i64 n] w fun e w' => e = .returned (.int .i64 v) ∧ w' = w := by
  have h0 : (v != (0 : Int)) = true := by simpa using hv
  go_enter Try.func27, Try.ntmps27
  go_wp2_with (go_at_call 51; refine HL.mono ?_; rintro e w' ⟨rfl, rfl⟩)
  go_ret
  exact ⟨rfl, rfl⟩
theorem read_err (pv : Value) (v : Int) (hv : v ≠ 0) (HL : Calls Try.prog 51 #[pv, .int .i64 n] w fun e w' => e = .returned (.int .i64 v) ∧ w' = w) : Calls Try.prog 25 #[pv, .int .i64 n] w fun e w' => e = .returned (.tuple #[.slice none 0 0, .int .i64 v]) ∧ w' = w := by
  have h0 : (v != (0 : Int)) = true := by simpa using hv
  go_enter Try.func25, Try.ntmps25
  go_wp2_with (go_at_call 51; refine HL.mono ?_; rintro e w' ⟨rfl, rfl⟩)
  refine bodyPost_ret (v := .tuple #[.slice none 0 0, .int .i64 v]) (by simp [results, Try.results25, go_sem]) rfl ⟨rfl, rfl⟩
theorem sync_dead (h : Dk w K d mb room used 0 false M) {s : Sg} (hs : s ∈ M) : Calls Try.prog 23 #[dP d, .int .i64 s.n] w fun e w' => e = .returned (.int .i64 5) ∧ Dk w' K d mb room used 0 true M ∧ Tn (· = d) w w' := by
  have HL := Lib.hid (dlook_ok K d mb room used 0 M w h hs)
  have HD := Lib.hid h
  clear h
  go_enter Try.func23, Try.ntmps23
  go_wp2_with (first
    | (go_at_call 51; refine HL.out.mono ?_; rintro e w' ⟨rfl, rfl⟩)
    | (go_at_call 49; refine (step_none K d mb room used false M _ HD.out).mono ?_; rintro e w' ⟨rfl, D1, T1⟩))
  go_ret
  exact ⟨rfl, D1, T1⟩
set_option maxRecDepth 100000 in
theorem drop_dead (h : Dk w K d mb room used 0 false M) {s : Sg} (hs : s ∈ M) : Calls Try.prog 27 #[dP d, .int .i64 s.n] w fun e w' => e = .returned (.int .i64 5) ∧ Dk w' K d mb room used 0 true M ∧ Tn (· = d) w w' := by
  have HL := Lib.hid (dlook_ok K d mb room used 0 M w h hs)
  have HD := Lib.hid h
  clear h
  go_enter Try.func27, Try.ntmps27
  go_wp2_with (first
    | (go_at_call 51; refine HL.out.mono ?_; rintro e w' ⟨rfl, rfl⟩)
    | (go_at_call 49; refine (step_none K d mb room used false M _ HD.out).mono ?_; rintro e w' ⟨rfl, D1, T1⟩))
  go_ret
  exact ⟨rfl, D1, T1⟩
set_option maxRecDepth 100000 in
theorem sync_ok (h : Dk w K d mb room used fuse false M) {s : Sg} (hs : s ∈ M) (hf : fuse ≠ 0) (hf2 : fuse ≤ 9223372036854775807) : Calls Try.prog 23 #[dP d, .int .i64 s.n] w fun e w' => e = .returned (.int .i64 0) ∧ Dk w' K d mb room used (fz fuse) false (upd M (settled s)) ∧ Tn (blD d mb M) w w' ∧ ∀ k, blD d mb (upd M (settled s)) k → blD d mb M k ∨ w.heap.size ≤ k := by
  have HL := Lib.hid (dlook_ok K d mb room used fuse M w h hs)
  have HD := Lib.hid h
  clear h
  go_enter Try.func23, Try.ntmps23
  go_wp2_with (first
    | (go_at_call 51; refine HL.out.mono ?_; rintro e w' ⟨rfl, rfl⟩)
    | (go_at_call 49; refine (step_yes K d mb room used fuse M _ HD.out hf hf2).mono ?_; rintro e w1 ⟨rfl, D1, T1⟩; have hl := D1.look hs; have c2 := D1.c2; have HD1 := Lib.hid D1; have HT1 := Lib.hid T1; have hz1 := T1.size; clear D1 T1)
    | (go_at_call 52; obtain ⟨sA, sc, hsv⟩ := HD1.out.formS hs; refine (settle_any s.g sA s.b.length sc _ (by rw [← hsv]; exact (HD1.out.sg s hs).c0) (HD1.out.sg s hs).fr _ _ (HD1.out.sg s hs).c1 (HD1.out.sg s hs).c2).mono ?_; rintro e w2 ⟨rfl, rfl⟩))
  go_ret
  obtain ⟨D2, T2, B2⟩ := HD1.out.settleS hs rfl
  exact ⟨rfl, D2, (HT1.out.mono (Q := blD d mb M) (fun k _ e => .inl e)).thenQ T2 (fun k _ e => .inr (.inr ⟨s, hs, e⟩)), fun k hk => (B2 k hk).imp id fun e => Nat.le_trans hz1 e⟩
set_option maxRecDepth 100000 in
theorem read_ok (h : Dk w K d mb room used fuse false M) {s : Sg} (hs : s ∈ M) (hsz : s.b.length ≤ 140737488355328) : Calls Try.prog 25 #[dP d, .int .i64 s.n] w fun e w' => ∃ A c, e = .returned (.tuple #[.slice A s.b.length c, .int .i64 0]) ∧ Ob w' w.heap.size (.slice A s.b.length c) s.b ∧ Below w.heap.size w w' := by
  have HL := Lib.hid (dlook_ok K d mb room used fuse M w h hs)
  obtain ⟨sA, sc, hsv⟩ := h.formS hs
  have c2 := h.c2
  have hl := h.look hs
  have k0 := (h.sg s hs).c0
  have ob := (h.sg s hs).ob
  rw [hsv] at k0 ob
  have HB := Lib.hid ob.bs.1
  clear h ob
  go_enter Try.func25, Try.ntmps25
  go_wp2_with (first
    | (go_at_call 51; refine HL.out.mono ?_; rintro e w' ⟨rfl, rfl⟩)
    | (go_at_call 55; refine (clone_any _ sA s.b.length sc s.b _ rfl HB.out (Nat.le_refl _) hsz).mono ?_; rintro e w1 ⟨A1, c1, rfl, ob1, b1⟩))
  refine bodyPost_ret (v := .tuple #[.slice A1 s.b.length c1, .int .i64 0]) (by simp [results, Try.results25, go_sem]) rfl ⟨A1, c1, rfl, ob1, b1⟩
/-- Drop. -/
theorem Dk.delLook (h : Dk w K d mb room used fuse down M) {s : Sg} (hs : s ∈ M) : (Instr.lookup 63 (.map (some mb)) (.int .i64 s.n) false).run Try.prog w.drew = .ok (.pointer (some ⟨s.g, 0, none⟩)) w.drew := (h.below (⟨rfl, rfl, rfl, Nat.le_refl _, fun _ _ => rfl⟩ : Below w.heap.size w w.drew)).look hs
set_option maxRecDepth 100000 in
set_option maxHeartbeats 3200000 in
theorem drop_ok (h : Dk w K d mb room used fuse false M) {s : Sg} (hs : s ∈ M) (hf : fuse ≠ 0) (hf2 : fuse ≤ 9223372036854775807) (hu : (s.b.length : Int) ≤ used) (hu2 : used ≤ 67108864) : Calls Try.prog 27 #[dP d, .int .i64 s.n] w fun e w' => e = .returned (.int .i64 0) ∧ Dk w' K d mb room (used - s.b.length) (fz fuse) false (M.filter fun t => !decide (t.n = s.n)) ∧ Tn (blD d mb M) w w' ∧ ∀ k, blD d mb (M.filter fun t => !decide (t.n = s.n)) k → blD d mb M k := by
  have HL := Lib.hid (dlook_ok K d mb room used fuse M w h hs)
  have HD := Lib.hid h
  have n1 := (h.sg s hs).n1
  have n2 := (h.sg s hs).n2
  have hw : IntKind.i64.wrap (used - (s.b.length : Int)) = used - (s.b.length : Int) := wrap_in (by omega) (by omega)
  clear h
  go_enter Try.func27, Try.ntmps27
  go_wp2_with (first
    | (go_at_call 51; refine HL.out.mono ?_; rintro e w' ⟨rfl, rfl⟩)
    | (go_at_call 49; refine (step_yes K d mb room used fuse M _ HD.out hf hf2).mono ?_; rintro e w1 ⟨rfl, D1, T1⟩; have hl := D1.delLook hs; have c1 := D1.c1; have f1 := D1.fr 1; have c2 := D1.c2; have hk := D1.formS hs; have k0 := (D1.sg s hs).c0; have HD1 := Lib.hid D1; have HT1 := Lib.hid T1; clear D1 T1))
  obtain ⟨sA, sc, hsv⟩ := hk
  rw [hsv] at k0
  go_region_law (fail)
  all_goals
    have HD2 := Lib.hid ((HD1.out.below (⟨rfl, rfl, rfl, Nat.le_refl _, fun _ _ => rfl⟩ : Below w1.heap.size w1 w1.drew)).set1 (used - (s.b.length : Int)))
    have c22 := HD2.out.c2
    go_wp2_with (at_delete; go_loud (refine wpList_delete_own _ rfl _ _ 63 3 rfl 94 keyI Try.underlying63 ptrE mb M.length (Dm M) rfl HD2.out.mp _ _ rfl (keyOf_int_mk Try.underlying3 (wf64 (by omega) n2)) ?_; intro w3 hown3 hturn3))
    go_ret
    obtain ⟨D3, B3⟩ := HD2.out.del s.n ((Tn.ofGrown hturn3.grown).mono fun k _ e => by injection e) hown3
    exact ⟨rfl, D3, (((HT1.out.mono (Q := blD d mb M) (fun k _ e => .inl e)).thenQ (Tn.ofNew (P := blD d mb M) (⟨rfl, rfl, rfl, Nat.le_refl _, fun _ _ => rfl⟩ : Below w1.heap.size w1 w1.drew)) (fun _ _ e => e)).thenQ (Tn.setCell _ d 1 _) (fun _ _ e => .inl e)).thenQ (Tn.ofGrown hturn3.grown) (fun k _ e => .inr (.inl (by injection e))), B3⟩
end
end Go.Proofs.Ytpckbbjlihhpdaa
namespace Go.Proofs.Ytpckbbjlihhpdaa
open Go.RowKit Go.Maps Go.BigFrame

section
variable {K d mb : Nat} {room used fuse : Int} {down : Bool} {M : List Sg} {w : World} {n : Int}
set_option maxRecDepth 100000 in
set_option maxHeartbeats 3200000 in
theorem tear_keep (h : Dk w K d mb room used fuse down M) {s : Sg} (hs : s ∈ M) (more : Int) (hq : ((s.b.length : Int) - s.l) ≤ max more 0) (hk : s.k = true ∨ 0 < s.b.length) (hlen : s.b.length ≤ 67108864) :
    Calls Try.prog 54 #[dP d, .int .i64 s.n, .int .i64 more] w fun e w' => e = .returned (.tuple #[]) ∧ Dk w' K d mb room used fuse down (upd M (settled s)) ∧ Tn (blD d mb M) w w' ∧ ∀ k, blD d mb (upd M (settled s)) k → blD d mb M k ∨ w.heap.size ≤ k := by
  obtain ⟨sA, sc, hsv⟩ := h.formS hs
  have c2 := h.c2
  have hl := h.look hs
  have k0 := (h.sg s hs).c0
  have k1 := (h.sg s hs).c1
  have k2 := (h.sg s hs).c2
  have hle := (h.sg s hs).le
  rw [hsv] at k0
  have HD := Lib.hid h
  clear h
  have hd : decide (min (max more 0) ((s.b.length : Int) - s.l) < (s.b.length : Int) - s.l) = false := by simp; omega
  have fin : ∀ nq : Nat, Dk (((w.drewN nq).setCell ⟨s.g, 1, none⟩ (.int .i64 (s.b.length : Int))).setCell ⟨s.g, 2, none⟩ (.bool true)) K d mb room used fuse down (upd M (settled s)) ∧ Tn (blD d mb M) w (((w.drewN nq).setCell ⟨s.g, 1, none⟩ (.int .i64 (s.b.length : Int))).setCell ⟨s.g, 2, none⟩ (.bool true)) ∧ ∀ k, blD d mb (upd M (settled s)) k → blD d mb M k ∨ w.heap.size ≤ k := fun nq => by
    obtain ⟨D2, T2, B2⟩ := (HD.out.drewN nq).settleS hs rfl
    exact ⟨D2, (Tn.ofNew (P := blD d mb M) (below_drewN _ _ _)).thenQ T2 (fun k _ e => .inr (.inr ⟨s, hs, e⟩)), B2⟩
  have HF := Lib.hid fin
  clear fin hq
  cases hkk : s.k
  · have hp : 0 < s.b.length := by
      rcases hk with e | e
      · rw [hkk] at e; cases e
      · exact e
    have h0 : ((s.b.length : Int) == (0 : Int)) = false := by rw [beq_eq_false_iff_ne]; omega
    rw [hkk] at k2
    clear hk hkk
    go_enter Try.func54, Try.ntmps54
    go_wp2_with fail
    go_big_quiet (fail)
    clear hl
    go_wp2_with (go_at_call 52; go_loud (refine (settle_any s.g sA s.b.length sc (w.drewN nq) k0 (fun o => ((HD.out.drewN nq).sg s hs).fr o) _ _ k1 k2).mono ?_; rintro e w2 ⟨rfl, rfl⟩))
    go_end0
    obtain ⟨a, b, c⟩ := HF.out nq
    exact ⟨rfl, a, b, c⟩
  · rw [hkk] at k2
    clear hk hkk
    go_enter Try.func54, Try.ntmps54
    go_wp2_with fail
    go_big_quiet (fail)
    clear hl
    go_wp2_with (go_at_call 52; go_loud (refine (settle_any s.g sA s.b.length sc (w.drewN nq) k0 (fun o => ((HD.out.drewN nq).sg s hs).fr o) _ _ k1 k2).mono ?_; rintro e w2 ⟨rfl, rfl⟩))
    go_end0
    obtain ⟨a, b, c⟩ := HF.out nq
    exact ⟨rfl, a, b, c⟩

set_option maxRecDepth 100000 in
set_option maxHeartbeats 3200000 in
theorem tear_drop (h : Dk w K d mb room used fuse down M) {s : Sg} (hs : s ∈ M) (more : Int) (hk : s.k = false) (hb : s.b = []) :
    Calls Try.prog 54 #[dP d, .int .i64 s.n, .int .i64 more] w fun e w' => e = .returned (.tuple #[]) ∧ Dk w' K d mb room used fuse down (M.filter fun t => !decide (t.n = s.n)) ∧ Tn (blD d mb M) w w' ∧ ∀ k, blD d mb (M.filter fun t => !decide (t.n = s.n)) k → blD d mb M k := by
  obtain ⟨sA, sc, hsv⟩ := h.formS hs
  have c2 := h.c2
  have hl := h.look hs
  have k0 := (h.sg s hs).c0
  have k1 := (h.sg s hs).c1
  have k2 := (h.sg s hs).c2
  have hle := (h.sg s hs).le
  have n1 := (h.sg s hs).n1
  have n2 := (h.sg s hs).n2
  have hl0 : s.l = 0 := by rw [hb] at hle; simpa using hle
  rw [hsv, hb] at k0
  rw [hl0] at k1
  rw [hk] at k2
  simp only [List.length_nil] at k0
  have hm0 : decide (min (max more 0) (0 : Int) < 0) = false := by simp; omega
  have HD := Lib.hid h
  clear h hle
  go_enter Try.func54, Try.ntmps54
  go_wp2_with fail
  go_big_quiet (fail)
  clear hl
  go_wp2_with (at_delete; go_loud (refine wpList_delete_own _ rfl _ _ 63 3 rfl 94 keyI Try.underlying63 ptrE mb M.length (Dm M) rfl (HD.out.drewN nq).mp _ _ rfl (keyOf_int_mk Try.underlying3 (wf64 (by omega) n2)) ?_; intro w3 hown3 hturn3))
  obtain ⟨D3, B3⟩ := (HD.out.drewN nq).del s.n ((Tn.ofGrown hturn3.grown).mono fun k _ e => by injection e) hown3
  refine bodyPost_ret (v := .tuple #[]) (by simp [results, Try.results54, go_sem]) rfl ⟨rfl, D3, (Tn.ofNew (P := blD d mb M) (below_drewN _ _ _)).thenQ (Tn.ofGrown hturn3.grown) (fun k _ e => .inr (.inl (by injection e))), B3⟩
end
end Go.Proofs.Ytpckbbjlihhpdaa
namespace Go.Proofs.Ytpckbbjlihhpdaa
open Go.RowKit Go.Maps Go.BigFrame

theorem Bs.to {w : World} {K cap : Nat} {A : Option Addr} {l : List UInt8} (h : Bs w K A cap l) {j : Nat} (hj : j ≤ l.length) : Bs w K A cap (l.take j) := by
  have hle := h.le
  have hlen : (l.take j).length = j := by simp; omega
  refine ⟨by omega, h.max, h.nil, fun hn => ?_⟩
  obtain ⟨ad, e, hb, hc⟩ := h.at_ (by omega)
  refine ⟨ad, e, hb, fun k c hk => hc k c ?_⟩
  rw [List.getElem?_take] at hk
  split at hk
  · exact hk
  · cases hk
theorem upd_upd (M : List Sg) {a b : Sg} (e : a.n = b.n) : upd (upd M a) b = upd M b := by
  unfold upd
  rw [List.map_map]
  refine List.map_congr_left fun t _ => ?_
  show (if (if t.n = a.n then a else t).n = b.n then b else (if t.n = a.n then a else t)) = if t.n = b.n then b else t
  by_cases h : t.n = a.n
  · rw [if_pos h, if_pos e, if_pos (h.trans e)]
  · rw [if_neg h]
theorem filter_upd (M : List Sg) (a : Sg) : ((upd M a).filter fun t => !decide (t.n = a.n)) = M.filter fun t => !decide (t.n = a.n) := by
  induction M with
  | nil => rfl
  | cons x M ih =>
    have e : upd (x :: M) a = (if x.n = a.n then a else x) :: upd M a := rfl
    rw [e]
    by_cases h : x.n = a.n
    · rw [if_pos h, List.filter_cons, List.filter_cons, ih]
      simp [h]
    · rw [if_neg h, List.filter_cons, List.filter_cons, ih]
theorem mem_upd_self {M : List Sg} {s a : Sg} (hs : s ∈ M) (e : a.n = s.n) : a ∈ upd M a := List.mem_map.2 ⟨s, hs, by simp [e]⟩
section
variable {K d mb : Nat} {room used fuse : Int} {down : Bool} {M : List Sg} {w : World} {n : Int}
/-- What a cut of a segment leaves, ahead of its settling. -/
theorem Dk.cutS {w2 : World} (h : Dk w K d mb room used fuse down M) {s : Sg} (hs : s ∈ M) {j : Nat} (hj : s.l ≤ j) (hj2 : j ≤ s.b.length) {A2 : Option Addr} {c2 N : Nat} (hN : N = j) (hb : Below w.heap.size w w2) (ob : Ob w2 w.heap.size (.slice A2 N c2) (s.b.take j)) :
    Dk (w2.setCell ⟨s.g, 0, none⟩ (.slice A2 N c2)) K d mb room used fuse down (upd M ⟨s.n, s.g, .slice A2 N c2, s.b.take j, s.l, s.k⟩) ∧ Tn (bl s) w (w2.setCell ⟨s.g, 0, none⟩ (.slice A2 N c2)) ∧ ∀ k, blD d mb (upd M ⟨s.n, s.g, .slice A2 N c2, s.b.take j, s.l, s.k⟩) k → blD d mb M k ∨ w.heap.size ≤ k := by
  subst hN
  have h2 := h.below hb
  have hc := h2.sg s hs
  have hlt := (h.sg s hs).lt
  have hKw : K ≤ w.heap.size := by have := h.kd; have := h.lt; omega
  have t4 := Tn.setCell w2 s.g 0 (.slice A2 N c2)
  have ho : (Value.slice A2 N c2).ownBlock ≠ some s.g := fun e => by have := (ob.lt _ e).1; omega
  have hlen : (s.b.take N).length = N := by simp; omega
  obtain ⟨D, B⟩ := h2.setN (N := w.heap.size) (fun _ hk => (h.top hk).2) (s' := ⟨s.n, s.g, .slice A2 N c2, s.b.take N, s.l, s.k⟩) hs rfl rfl (t4.mono fun k _ e => .inl e) ⟨World.cell?_setCell_same' _ _ _ (by rw [hc.c0]; rfl), by rw [World.cell?_setCell_other _ _ _ _ (by simp)]; exact hc.c1, by rw [World.cell?_setCell_other _ _ _ _ (by simp)]; exact hc.c2, fun o => by rw [World.frozen?_setCell]; exact hc.fr o, (t4.ob ob fun k hk e => ho (by rw [hk, e])).more hKw, hc.kg, by show s.l ≤ (s.b.take N).length; omega, ho, hc.n1, hc.n2⟩ (.inr fun k hk => (ob.lt k hk).1)
  exact ⟨D, (Tn.ofNew (P := bl s) hb).thenQ t4 fun k _ e => .inl e, B⟩
end
end Go.Proofs.Ytpckbbjlihhpdaa
namespace Go.Proofs.Ytpckbbjlihhpdaa
open Go.RowKit Go.Maps Go.BigFrame

section
variable {K d mb : Nat} {room used fuse : Int} {down : Bool} {M : List Sg} {w : World} {n : Int}
set_option maxRecDepth 100000 in
set_option maxHeartbeats 6400000 in
theorem tear_cut (h : Dk w K d mb room used fuse down M) {s : Sg} (hs : s ∈ M) (more : Int) (q : Nat) (hq : max more 0 = (q : Int)) (hlt : s.l + q < s.b.length) (hk : s.k = true ∨ 0 < s.l + q) (hlen : s.b.length ≤ 67108864) (hu : (s.b.length : Int) ≤ used) (hu2 : used ≤ 67108864) :
    Calls Try.prog 54 #[dP d, .int .i64 s.n, .int .i64 more] w fun e w' => e = .returned (.tuple #[]) ∧ ∃ v, Dk w' K d mb room (used - ((s.b.length : Int) - s.l - q)) fuse down (upd M ⟨s.n, s.g, v, s.b.take (s.l + q), s.l + q, true⟩) ∧ Tn (blD d mb M) w w' ∧ ∀ k, blD d mb (upd M ⟨s.n, s.g, v, s.b.take (s.l + q), s.l + q, true⟩) k → blD d mb M k ∨ w.heap.size ≤ k := by
  obtain ⟨sA, sc, hsv⟩ := h.formS hs
  have c2 := h.c2
  have hl := h.look hs
  have k0 := (h.sg s hs).c0
  have k1 := (h.sg s hs).c1
  have k2 := (h.sg s hs).c2
  have ob := (h.sg s hs).ob
  rw [hsv] at k0 ob
  have HB := Lib.hid ob.bs.1
  have hcap := ob.bs.1.le
  have hcm := ob.bs.1.max
  unfold maxLen at hcm
  have HD := Lib.hid h
  have hmin : min (q : Int) ((s.b.length : Int) - s.l) = (q : Int) := by omega
  have hd : decide ((q : Int) < (s.b.length : Int) - s.l) = true := by simp; omega
  have hd0 : (q : Int) < (s.b.length : Int) - s.l := by omega
  have hw1 : IntKind.i64.wrap ((s.b.length : Int) - ((s.b.length : Int) - s.l - q)) = (s.l : Int) + q := by rw [wrap_in (by omega) (by omega)]; omega
  have c1 := HD.out.c1
  have df := HD.out.fr 1
  have gf := (HD.out.sg s hs).fr 0
  have hgl := (HD.out.sg s hs).lt
  have hdl := HD.out.lt
  have hne : d ≠ s.g := fun e => (HD.out.of_ s hs s.g (.inl rfl)).1 e.symm
  have hne2 : s.g ≠ d := fun e => hne e.symm
  have h01 : (0 : Int) ≤ (s.l : Int) + q := by omega
  have h02 : (s.l : Int) + q ≤ (sc : Int) := by omega
  have h03 : ((s.l : Int) + (q : Int)).toNat = s.l + q := by omega
  have hw5 : IntKind.i64.wrap (used - ((s.b.length : Int) - s.l - q)) = used - ((s.b.length : Int) - s.l - q) := wrap_in (by omega) (by omega)
  obtain ⟨bt, hbt⟩ : ∃ bt, bt = s.b.take (s.l + q) := ⟨_, rfl⟩
  have hbl : bt.length = s.l + q := by rw [hbt]; simp; omega
  have HB2 := Lib.hid (HB.out.to (j := s.l + q) (by omega))
  rw [← hbt] at HB2
  have HBT := Lib.hid hbt
  clear h ob hbt
  cases hkk : s.k
  · have hp : 0 < s.l + q := by
      rcases hk with e | e
      · rw [hkk] at e; cases e
      · exact e
    have h0 : ((s.l : Int) + q == (0 : Int)) = false := by rw [beq_eq_false_iff_ne]; omega
    rw [hkk] at k2
    have HKK := Lib.hid hkk
    clear hk hkk
    go_enter Try.func54, Try.ntmps54
    go_wp2_with fail
    go_big_quiet (fail)
    clear hl
    go_wp2_with fail
    go_region_law (first
      | (go_simp; go_at_call 55; go_loud (refine (clone_any w.heap.size sA (s.l + q) sc bt _ hbl (HB2.out.drewN _) (Nat.le_refl _) (by omega)).mono ?_; rintro e w2 ⟨A2, cc, rfl, ob2, b2⟩; rw [hbl] at ob2; have y0 := kept b2 k0; have y1 := kept b2 k1; have y2 := kept b2 k2; have yf := (b2.frozen (p := ⟨s.g, 0, none⟩) hgl).trans gf; have e1 := kept b2 c1; have ef := (b2.frozen (p := ⟨d, 1, none⟩) hdl).trans df)))
    all_goals
      obtain ⟨D1, T1, B1⟩ := (HD.out.drewN _).cutS hs (j := s.l + q) (by omega) (by omega) rfl b2 (by rw [← HBT.out]; exact ob2)
      have D2 := D1.set1 (used - ((s.b.length : Int) - s.l - q))
      have hin : (⟨s.n, s.g, .slice A2 (s.l + q) cc, s.b.take (s.l + q), s.l, s.k⟩ : Sg) ∈ upd M ⟨s.n, s.g, .slice A2 (s.l + q) cc, s.b.take (s.l + q), s.l, s.k⟩ := mem_upd_self hs rfl
      have HD2 := Lib.hid D2
      have HT1 := Lib.hid T1
      have HB1 := Lib.hid B1
      have HIN := Lib.hid hin
      have x0 := (D2.sg _ hin).c0
      have x1 := (D2.sg _ hin).c1
      have x2 := (D2.sg _ hin).c2
      simp only at x0 x1 x2
      rw [HKK.out] at x2
      clear D1 D2 T1 B1 hin
      go_wp2_with fail
      refine (settle_any s.g A2 (s.l + q) cc _ x0 (fun o => (HD2.out.sg _ HIN.out).fr o) _ _ x1 x2).mono ?_
      rintro e w3 ⟨rfl, rfl⟩
      go_wp2
      go_end0
      obtain ⟨D3, T3, B3⟩ := HD2.out.settleS HIN.out (N := s.l + q) (by simp; omega)
      have hl3 : (s.b.take (s.l + q)).length = s.l + q := by simp; omega
      have e4 : upd (upd M ⟨s.n, s.g, .slice A2 (s.l + q) cc, s.b.take (s.l + q), s.l, s.k⟩) (settled ⟨s.n, s.g, .slice A2 (s.l + q) cc, s.b.take (s.l + q), s.l, s.k⟩) = upd M ⟨s.n, s.g, .slice A2 (s.l + q) cc, s.b.take (s.l + q), s.l + q, true⟩ := by
        rw [upd_upd _ (by rfl)]
        show upd M ⟨s.n, s.g, .slice A2 (s.l + q) cc, s.b.take (s.l + q), (s.b.take (s.l + q)).length, true⟩ = _
        rw [hl3]
      rw [e4] at D3 B3
      have hz : w.heap.size ≤ (w2.setCell ⟨s.g, 0, none⟩ (.slice A2 (s.l + q) cc)).heap.size := HT1.out.size
      refine ⟨rfl, _, D3, (((Tn.ofNew (P := blD d mb M) (below_drewN _ _ _)).thenQ HT1.out (fun _ _ e => .inr (.inr ⟨s, hs, e⟩))).thenQ (Tn.setCell _ d 1 _) (fun _ _ e => .inl e)).thenQ T3 (fun k hk e => ?_), fun k hk => ?_⟩
      · rcases e with e | e
        · exact .inr (.inr ⟨s, hs, .inl e⟩)
        · have h8 : w.heap.size ≤ k := (ob2.lt k e).1
          have h9 : k < w.heap.size := hk
          omega
      · rcases B3 k hk with e | e
        · exact HB1.out k e
        · exact .inr (Nat.le_trans hz (by simpa [World.setCell] using e))
  · rw [hkk] at k2
    have HKK := Lib.hid hkk
    clear hk hkk
    go_enter Try.func54, Try.ntmps54
    go_wp2_with fail
    go_big_quiet (fail)
    clear hl
    go_wp2_with fail
    go_region_law (first
      | (go_simp; go_at_call 55; go_loud (refine (clone_any w.heap.size sA (s.l + q) sc bt _ hbl (HB2.out.drewN _) (Nat.le_refl _) (by omega)).mono ?_; rintro e w2 ⟨A2, cc, rfl, ob2, b2⟩; rw [hbl] at ob2; have y0 := kept b2 k0; have y1 := kept b2 k1; have y2 := kept b2 k2; have yf := (b2.frozen (p := ⟨s.g, 0, none⟩) hgl).trans gf; have e1 := kept b2 c1; have ef := (b2.frozen (p := ⟨d, 1, none⟩) hdl).trans df)))
    all_goals
      obtain ⟨D1, T1, B1⟩ := (HD.out.drewN _).cutS hs (j := s.l + q) (by omega) (by omega) rfl b2 (by rw [← HBT.out]; exact ob2)
      have D2 := D1.set1 (used - ((s.b.length : Int) - s.l - q))
      have hin : (⟨s.n, s.g, .slice A2 (s.l + q) cc, s.b.take (s.l + q), s.l, s.k⟩ : Sg) ∈ upd M ⟨s.n, s.g, .slice A2 (s.l + q) cc, s.b.take (s.l + q), s.l, s.k⟩ := mem_upd_self hs rfl
      have HD2 := Lib.hid D2
      have HT1 := Lib.hid T1
      have HB1 := Lib.hid B1
      have HIN := Lib.hid hin
      have x0 := (D2.sg _ hin).c0
      have x1 := (D2.sg _ hin).c1
      have x2 := (D2.sg _ hin).c2
      simp only at x0 x1 x2
      rw [HKK.out] at x2
      clear D1 D2 T1 B1 hin
      go_wp2_with fail
      refine (settle_any s.g A2 (s.l + q) cc _ x0 (fun o => (HD2.out.sg _ HIN.out).fr o) _ _ x1 x2).mono ?_
      rintro e w3 ⟨rfl, rfl⟩
      go_wp2
      go_end0
      obtain ⟨D3, T3, B3⟩ := HD2.out.settleS HIN.out (N := s.l + q) (by simp; omega)
      have hl3 : (s.b.take (s.l + q)).length = s.l + q := by simp; omega
      have e4 : upd (upd M ⟨s.n, s.g, .slice A2 (s.l + q) cc, s.b.take (s.l + q), s.l, s.k⟩) (settled ⟨s.n, s.g, .slice A2 (s.l + q) cc, s.b.take (s.l + q), s.l, s.k⟩) = upd M ⟨s.n, s.g, .slice A2 (s.l + q) cc, s.b.take (s.l + q), s.l + q, true⟩ := by
        rw [upd_upd _ (by rfl)]
        show upd M ⟨s.n, s.g, .slice A2 (s.l + q) cc, s.b.take (s.l + q), (s.b.take (s.l + q)).length, true⟩ = _
        rw [hl3]
      rw [e4] at D3 B3
      have hz : w.heap.size ≤ (w2.setCell ⟨s.g, 0, none⟩ (.slice A2 (s.l + q) cc)).heap.size := HT1.out.size
      refine ⟨rfl, _, D3, (((Tn.ofNew (P := blD d mb M) (below_drewN _ _ _)).thenQ HT1.out (fun _ _ e => .inr (.inr ⟨s, hs, e⟩))).thenQ (Tn.setCell _ d 1 _) (fun _ _ e => .inl e)).thenQ T3 (fun k hk e => ?_), fun k hk => ?_⟩
      · rcases e with e | e
        · exact .inr (.inr ⟨s, hs, .inl e⟩)
        · have h8 : w.heap.size ≤ k := (ob2.lt k e).1
          have h9 : k < w.heap.size := hk
          omega
      · rcases B3 k hk with e | e
        · exact HB1.out k e
        · exact .inr (Nat.le_trans hz (by simpa [World.setCell] using e))
end
end Go.Proofs.Ytpckbbjlihhpdaa
namespace Go.Proofs.Ytpckbbjlihhpdaa
open Go.RowKit Go.Maps Go.BigFrame

section
variable {K d mb : Nat} {room used fuse : Int} {down : Bool} {M : List Sg} {w : World} {n : Int}
set_option maxRecDepth 100000 in
set_option maxHeartbeats 6400000 in
theorem tear_gone (h : Dk w K d mb room used fuse down M) {s : Sg} (hs : s ∈ M) (more : Int) (q : Nat) (hq : max more 0 = (q : Int)) (hlt : s.l + q < s.b.length) (hk : s.k = false) (hz0 : s.l + q = 0) (hlen : s.b.length ≤ 67108864) (hu : (s.b.length : Int) ≤ used) (hu2 : used ≤ 67108864) :
    Calls Try.prog 54 #[dP d, .int .i64 s.n, .int .i64 more] w fun e w' => e = .returned (.tuple #[]) ∧ Dk w' K d mb room (used - ((s.b.length : Int) - s.l - q)) fuse down (M.filter fun t => !decide (t.n = s.n)) ∧ Tn (blD d mb M) w w' ∧ ∀ k, blD d mb (M.filter fun t => !decide (t.n = s.n)) k → blD d mb M k ∨ w.heap.size ≤ k := by
  obtain ⟨sA, sc, hsv⟩ := h.formS hs
  have c2 := h.c2
  have hl := h.look hs
  have k0 := (h.sg s hs).c0
  have k1 := (h.sg s hs).c1
  have k2 := (h.sg s hs).c2
  have ob := (h.sg s hs).ob
  rw [hsv] at k0 ob
  have HB := Lib.hid ob.bs.1
  have hcap := ob.bs.1.le
  have hcm := ob.bs.1.max
  unfold maxLen at hcm
  have HD := Lib.hid h
  have hmin : min (q : Int) ((s.b.length : Int) - s.l) = (q : Int) := by omega
  have hd : decide ((q : Int) < (s.b.length : Int) - s.l) = true := by simp; omega
  have hd0 : (q : Int) < (s.b.length : Int) - s.l := by omega
  have hw1 : IntKind.i64.wrap ((s.b.length : Int) - ((s.b.length : Int) - s.l - q)) = (s.l : Int) + q := by rw [wrap_in (by omega) (by omega)]; omega
  have c1 := HD.out.c1
  have df := HD.out.fr 1
  have gf := (HD.out.sg s hs).fr 0
  have hgl := (HD.out.sg s hs).lt
  have hdl := HD.out.lt
  have hne : d ≠ s.g := fun e => (HD.out.of_ s hs s.g (.inl rfl)).1 e.symm
  have hne2 : s.g ≠ d := fun e => hne e.symm
  have h01 : (0 : Int) ≤ (s.l : Int) + q := by omega
  have h02 : (s.l : Int) + q ≤ (sc : Int) := by omega
  have h03 : ((s.l : Int) + (q : Int)).toNat = s.l + q := by omega
  have hw5 : IntKind.i64.wrap (used - ((s.b.length : Int) - s.l - q)) = used - ((s.b.length : Int) - s.l - q) := wrap_in (by omega) (by omega)
  obtain ⟨bt, hbt⟩ : ∃ bt, bt = s.b.take (s.l + q) := ⟨_, rfl⟩
  have hbl : bt.length = s.l + q := by rw [hbt]; simp; omega
  have HB2 := Lib.hid (HB.out.to (j := s.l + q) (by omega))
  rw [← hbt] at HB2
  have HBT := Lib.hid hbt
  clear h ob hbt
  rw [hk] at k2
  have HKK := Lib.hid hk
  have n1 := (HD.out.sg s hs).n1
  have n2 := (HD.out.sg s hs).n2
  have h0 : ((s.l : Int) + q == (0 : Int)) = true := by rw [beq_iff_eq]; omega
  clear hk hz0
  go_enter Try.func54, Try.ntmps54
  go_wp2_with fail
  go_big_quiet (fail)
  clear hl
  go_wp2_with fail
  go_region_law (first
    | (go_simp; go_at_call 55; go_loud (refine (clone_any w.heap.size sA (s.l + q) sc bt _ hbl (HB2.out.drewN _) (Nat.le_refl _) (by omega)).mono ?_; rintro e w2 ⟨A2, cc, rfl, ob2, b2⟩; rw [hbl] at ob2; have y0 := kept b2 k0; have y1 := kept b2 k1; have y2 := kept b2 k2; have yf := (b2.frozen (p := ⟨s.g, 0, none⟩) hgl).trans gf; have e1 := kept b2 c1; have ef := (b2.frozen (p := ⟨d, 1, none⟩) hdl).trans df)))
  all_goals
    obtain ⟨D1, T1, B1⟩ := (HD.out.drewN _).cutS hs (j := s.l + q) (by omega) (by omega) rfl b2 (by rw [← HBT.out]; exact ob2)
    have D2 := D1.set1 (used - ((s.b.length : Int) - s.l - q))
    have hin : (⟨s.n, s.g, .slice A2 (s.l + q) cc, s.b.take (s.l + q), s.l, s.k⟩ : Sg) ∈ upd M ⟨s.n, s.g, .slice A2 (s.l + q) cc, s.b.take (s.l + q), s.l, s.k⟩ := mem_upd_self hs rfl
    have HD2 := Lib.hid D2
    have HT1 := Lib.hid T1
    have HB1 := Lib.hid B1
    have HIN := Lib.hid hin
    have x0 := (D2.sg _ hin).c0
    have x1 := (D2.sg _ hin).c1
    have x2 := (D2.sg _ hin).c2
    simp only at x0 x1 x2
    rw [HKK.out] at x2
    clear D1 D2 T1 B1 hin
    have x3 := HD2.out.c2
    go_wp2_with (at_delete; go_loud (refine wpList_delete_own _ rfl _ _ 63 3 rfl 94 keyI Try.underlying63 ptrE mb _ _ rfl HD2.out.mp _ _ rfl (keyOf_int_mk Try.underlying3 (wf64 (by omega) n2)) ?_; intro w3 hown3 hturn3))
    obtain ⟨D3, B3⟩ := HD2.out.del s.n ((Tn.ofGrown hturn3.grown).mono fun k _ e => by injection e) hown3
    rw [filter_upd M ⟨s.n, s.g, .slice A2 (s.l + q) cc, s.b.take (s.l + q), s.l, s.k⟩] at D3 B3
    have hT1 := HT1.out
    refine bodyPost_ret (v := .tuple #[]) (by simp [results, Try.results54, go_sem]) rfl ⟨rfl, D3, (((Tn.ofNew (P := blD d mb M) (below_drewN _ _ _)).thenQ hT1 (fun _ _ e => .inr (.inr ⟨s, hs, e⟩))).thenQ (Tn.setCell _ d 1 _) (fun _ _ e => .inl e)).thenQ (Tn.ofGrown hturn3.grown) (fun k _ e => .inr (.inl (by injection e))), fun k hk => HB1.out k (B3 k hk)⟩
end
end Go.Proofs.Ytpckbbjlihhpdaa
namespace Go.Proofs.Ytpckbbjlihhpdaa
open Go.RowKit Go.Maps Go.BigFrame

section
variable {K d mb : Nat} {room used fuse : Int} {down : Bool} {M : List Sg} {w : World} {n : Int}
theorem used_nil : Calls Try.prog 32 #[.pointer none] w fun e w' => e = .returned (.int .i64 0) ∧ w' = w := by
  go_enter Try.func32, Try.ntmps32
  go_wp2
  go_ret
  exact ⟨rfl, rfl⟩
theorem used_any (h : Dk w K d mb room used fuse down M) : Calls Try.prog 32 #[dP d] w fun e w' => e = .returned (.int .i64 used) ∧ w' = w := by
  have c1 := h.c1
  clear h
  go_enter Try.func32, Try.ntmps32
  go_wp2
  go_ret
  exact ⟨rfl, rfl⟩
theorem down_nil : Calls Try.prog 31 #[.pointer none] w fun e w' => e = .returned (.bool false) ∧ w' = w := by
  go_enter Try.func31, Try.ntmps31
  go_wp2
  go_ret
  exact ⟨rfl, rfl⟩
theorem down_any (h : Dk w K d mb room used fuse down M) : Calls Try.prog 31 #[dP d] w fun e w' => e = .returned (.bool down) ∧ w' = w := by
  have c4 := h.c4
  clear h
  go_enter Try.func31, Try.ntmps31
  go_wp2
  go_ret
  exact ⟨rfl, rfl⟩
theorem segs_nil : Calls Try.prog 34 #[.pointer none] w fun e w' => e = .returned (.tuple #[.slice none 0 0, .int .i64 2]) ∧ w' = w := by
  go_enter Try.func34, Try.ntmps34
  go_wp2_with (go_at_call 56; refine (ready_nil _).mono ?_; rintro e w' ⟨rfl, rfl⟩)
  refine bodyPost_ret (v := .tuple #[.slice none 0 0, .int .i64 2]) (by simp [results, Try.results34, go_sem]) rfl ⟨rfl, rfl⟩
theorem segs_down (h : Dk w K d mb room used fuse true M) : Calls Try.prog 34 #[dP d] w fun e w' => e = .returned (.tuple #[.slice none 0 0, .int .i64 5]) ∧ w' = w := by
  go_enter Try.func34, Try.ntmps34
  go_wp2_with (go_at_call 56; refine (ready_any K d mb room used fuse true M _ h).mono ?_; rintro e w' ⟨rfl, rfl⟩)
  refine bodyPost_ret (v := .tuple #[.slice none 0 0, .int .i64 5]) (by simp [results, Try.results34, go_sem]) rfl ⟨rfl, rfl⟩
theorem segs_ok (h : Dk w K d mb room used fuse false M) (hM : M.length ≤ 1024) : Calls Try.prog 34 #[dP d] w fun e w' => ∃ v, e = .returned (.tuple #[v, .int .i64 0]) ∧ So encI 1 w' w.heap.size 3 v (M.map Sg.n) ∧ Below w.heap.size w w' := by
  have HN := Lib.hid (numbers_any K d mb room used fuse false M w h hM)
  have HR := Lib.hid (ready_any K d mb room used fuse false M w h)
  clear h
  go_enter Try.func34, Try.ntmps34
  go_wp2_with (first
    | (go_at_call 56; refine HR.out.mono ?_; rintro e w' ⟨rfl, rfl⟩)
    | (go_at_call 53; refine HN.out.mono ?_; rintro e w1 ⟨v, rfl, so, b1⟩))
  refine bodyPost_ret (v := .tuple #[v, .int .i64 0]) (by simp [results, Try.results34, go_sem]) rfl ⟨v, rfl, so, b1⟩
theorem fuse_nil : Calls Try.prog 29 #[.pointer none, .int .i64 n] w fun e w' => e = .returned (.int .i64 2) ∧ w' = w := by
  go_enter Try.func29, Try.ntmps29
  go_wp2_with (go_at_call 56; refine (ready_nil _).mono ?_; rintro e w' ⟨rfl, rfl⟩)
  go_ret
  exact ⟨rfl, rfl⟩
theorem fuse_down (h : Dk w K d mb room used fuse true M) : Calls Try.prog 29 #[dP d, .int .i64 n] w fun e w' => e = .returned (.int .i64 5) ∧ w' = w := by
  go_enter Try.func29, Try.ntmps29
  go_wp2_with (go_at_call 56; refine (ready_any K d mb room used fuse true M _ h).mono ?_; rintro e w' ⟨rfl, rfl⟩)
  go_ret
  exact ⟨rfl, rfl⟩
theorem fuse_ok (h : Dk w K d mb room used fuse false M) : Calls Try.prog 29 #[dP d, .int .i64 n] w fun e w' => e = .returned (.int .i64 0) ∧ Dk w' K d mb room used (max n (-1)) false M ∧ Tn (· = d) w w' := by
  have c3 := h.c3
  have f3 := h.fr 3
  have HR := Lib.hid (ready_any K d mb room used fuse false M w h)
  have HD := Lib.hid h
  clear h
  go_enter Try.func29, Try.ntmps29
  go_wp2_with (go_at_call 56; refine HR.out.mono ?_; rintro e w' ⟨rfl, rfl⟩)
  go_ret
  exact ⟨rfl, HD.out.set3 _, Tn.setCell _ _ _ _⟩
theorem crash_nil (A : Option Addr) (m c : Nat) : Calls Try.prog 24 #[.pointer none, .slice A m c] w fun e w' => e = .returned (.int .i64 2) ∧ w' = w := by
  go_enter Try.func24, Try.ntmps24
  go_wp2
  go_ret
  exact ⟨rfl, rfl⟩
end
end Go.Proofs.Ytpckbbjlihhpdaa
namespace Go.Proofs.Ytpckbbjlihhpdaa
open Go.RowKit Go.Maps Go.BigFrame

def ab (s : Sg) : As := ⟨s.n, s.b, s.l, s.k⟩
theorem Rise.apart {T R : List Sg} {s : Sg} (h : Rise (T ++ s :: R)) : (∀ t ∈ T, t.n < s.n) ∧ (∀ t ∈ R, s.n < t.n) := by
  obtain ⟨_, h2, h3⟩ := List.pairwise_append.1 h
  exact ⟨fun t ht => h3 t ht s (List.mem_cons_self ..), (List.pairwise_cons.1 h2).1⟩
theorem map_keep (T : List Sg) (f : Sg → Sg) (h : ∀ t ∈ T, f t = t) : T.map f = T := by
  induction T with
  | nil => rfl
  | cons x T ih => rw [List.map_cons, h x (List.mem_cons_self ..), ih fun t ht => h t (List.mem_cons_of_mem _ ht)]
theorem upd_at {T R : List Sg} {s s' : Sg} (h : Rise (T ++ s :: R)) (e : s'.n = s.n) : upd (T ++ s :: R) s' = T ++ s' :: R := by
  obtain ⟨h1, h2⟩ := h.apart
  unfold upd
  rw [List.map_append, List.map_cons, if_pos e.symm, map_keep T _ fun t ht => by have := h1 t ht; rw [if_neg (by omega)], map_keep R _ fun t ht => by have := h2 t ht; rw [if_neg (by omega)]]
theorem filter_at {T R : List Sg} {s : Sg} (h : Rise (T ++ s :: R)) : ((T ++ s :: R).filter fun t => !decide (t.n = s.n)) = T ++ R := by
  obtain ⟨h1, h2⟩ := h.apart
  rw [List.filter_append, List.filter_cons, List.filter_eq_self.2 fun t ht => by have := h1 t ht; simp; omega, List.filter_eq_self.2 fun t ht => by have := h2 t ht; simp; omega]
  simp
section
variable {K d mb : Nat} {room used fuse : Int} {down : Bool} {T R : List Sg} {s : Sg} {w : World}
/-- What the tear of the segment behind T leaves. -/
def TearAt (w : World) (K d mb : Nat) (room used fuse : Int) (down : Bool) (T R : List Sg) (s : Sg) (more : Int) (e : Ending) (w' : World) : Prop :=
  e = .returned (.tuple #[]) ∧ ∃ T', T'.map ab = tornA (ab s) more ∧ Dk w' K d mb room (used - ((s.b.length : Int) - (kq (ab s) more : Nat))) fuse down (T ++ T' ++ R) ∧ Tn (blD d mb (T ++ s :: R)) w w' ∧ ∀ k, blD d mb (T ++ T' ++ R) k → blD d mb (T ++ s :: R) k ∨ w.heap.size ≤ k
theorem tear_at (h : Dk w K d mb room used fuse down (T ++ s :: R)) (more : Int) (hlen : s.b.length ≤ 67108864) (hu : (s.b.length : Int) ≤ used) (hu2 : used ≤ 67108864) :
    Calls Try.prog 54 #[dP d, .int .i64 s.n, .int .i64 more] w (TearAt w K d mb room used fuse down T R s more) := by
  have hs : s ∈ T ++ s :: R := by simp
  have hr := h.ri
  have hle := (h.sg s hs).le
  have hmx : max more 0 = ((more.toNat : Nat) : Int) := by omega
  have eS : ∀ s' : Sg, s'.n = s.n → upd (T ++ s :: R) s' = T ++ [s'] ++ R := fun s' e => by rw [upd_at hr e]; simp
  have eF : ((T ++ s :: R).filter fun t => !decide (t.n = s.n)) = T ++ [] ++ R := by rw [filter_at hr]; simp
  by_cases hc : s.l + more.toNat < s.b.length
  · have hkq : kq (ab s) more = s.l + more.toNat := by unfold kq ab; simp only; omega
    have hused : used - ((s.b.length : Int) - ((s.l + more.toNat : Nat) : Int)) = used - ((s.b.length : Int) - s.l - (more.toNat : Nat)) := by omega
    by_cases hk : s.k = true ∨ 0 < s.l + more.toNat
    · refine (tear_cut h hs more more.toNat hmx hc hk hlen hu hu2).mono ?_
      rintro e w' ⟨rfl, v, D, t, B⟩
      rw [eS ⟨s.n, s.g, v, s.b.take (s.l + more.toNat), s.l + more.toNat, true⟩ rfl] at D B
      refine ⟨rfl, [_], ?_, ?_, t, B⟩
      · unfold tornA; rw [hkq]; exact (if_pos hk).symm
      · rw [hkq, hused]; exact D
    · refine (tear_gone h hs more more.toNat hmx hc (by simpa using (not_or.1 hk).1) (by omega) hlen hu hu2).mono ?_
      rintro e w' ⟨rfl, D, t, B⟩
      rw [eF] at D B
      refine ⟨rfl, [], ?_, ?_, t, B⟩
      · unfold tornA; rw [hkq]; exact (if_neg hk).symm
      · rw [hkq, hused]; exact D
  · have hkq : kq (ab s) more = s.b.length := by unfold kq ab; simp only; omega
    have hused : used - ((s.b.length : Int) - (s.b.length : Nat)) = used := by omega
    by_cases hk : s.k = true ∨ 0 < s.b.length
    · refine (tear_keep h hs more (by omega) hk hlen).mono ?_
      rintro e w' ⟨rfl, D, t, B⟩
      rw [eS (settled s) rfl] at D B
      refine ⟨rfl, [_], ?_, ?_, t, B⟩
      · unfold tornA
        rw [hkq]
        refine Eq.trans ?_ (if_pos hk).symm
        show [(⟨s.n, s.b, s.b.length, true⟩ : As)] = [⟨s.n, s.b.take s.b.length, s.b.length, true⟩]
        rw [List.take_length]
      · rw [hkq, hused]; exact D
    · refine (tear_drop h hs more (by simpa using (not_or.1 hk).1) (List.eq_nil_of_length_eq_zero (by omega))).mono ?_
      rintro e w' ⟨rfl, D, t, B⟩
      rw [eF] at D B
      refine ⟨rfl, [], ?_, ?_, t, fun k hk => .inl (B k hk)⟩
      · unfold tornA; rw [hkq]; exact (if_neg hk).symm
      · rw [hkq, hused]; exact D
end
end Go.Proofs.Ytpckbbjlihhpdaa
namespace Go.Proofs.Ytpckbbjlihhpdaa
open Go.RowKit Go.Maps Go.BigFrame

theorem hasA_iff {M : List Sg} {n : Int} : hasA (M.map ab) n = true ↔ ∃ s ∈ M, s.n = n := by
  unfold hasA
  rw [List.any_map, List.any_eq_true]
  constructor
  · rintro ⟨s, hs, h⟩; exact ⟨s, hs, of_decide_eq_true h⟩
  · rintro ⟨s, hs, h⟩; exact ⟨s, hs, decide_eq_true h⟩
theorem hasA_not {M : List Sg} {n : Int} : hasA (M.map ab) n = false ↔ ∀ s ∈ M, s.n ≠ n := by
  rw [Bool.eq_false_iff, Ne, hasA_iff]
  exact ⟨fun h s hs e => h ⟨s, hs, e⟩, fun h ⟨s, hs, e⟩ => h s hs e⟩
theorem putA_there (p : List UInt8) {s s' : Sg} (e : ab s' = ⟨s.n, s.b ++ p, s.l, s.k⟩) : ∀ {T R : List Sg}, Rise (T ++ s :: R) → (T ++ s' :: R).map ab = putA s.n p ((T ++ s :: R).map ab)
  | [], R, _ => by
    show ab s' :: R.map ab = putA s.n p (ab s :: R.map ab)
    unfold putA
    rw [if_neg (by show ¬ s.n < s.n; omega), if_pos (by rfl), e]
    rfl
  | t :: T, R, h => by
    obtain ⟨h1, h2⟩ := List.pairwise_cons.1 h
    have h3 := h1 s (by simp)
    show ab t :: (T ++ s' :: R).map ab = putA s.n p (ab t :: (T ++ s :: R).map ab)
    unfold putA
    rw [if_neg (by show ¬ s.n < t.n; omega), if_neg (by show ¬ t.n = s.n; omega), putA_there p e h2]
theorem upd_not {M : List Sg} {s' : Sg} (h : ∀ t ∈ M, t.n ≠ s'.n) : upd M s' = M := map_keep M _ fun t ht => if_neg (h t ht)
theorem putA_new {n : Int} (p : List UInt8) {s s' : Sg} (hn : s.n = n) (e : ab s' = ⟨n, p, 0, false⟩) : ∀ {M : List Sg}, (∀ t ∈ M, t.n ≠ n) → (upd (ins s M) s').map ab = putA n p (M.map ab)
  | [], _ => by
    have hn' : s'.n = n := congrArg As.n e
    show [ab (if s.n = s'.n then s' else s)] = [_]
    rw [if_pos (hn.trans hn'.symm), e]
  | x :: r, h => by
    have hn' : s'.n = n := congrArg As.n e
    have hx := h x (List.mem_cons_self ..)
    have hr : ∀ t ∈ r, t.n ≠ n := fun t ht => h t (List.mem_cons_of_mem _ ht)
    unfold ins
    by_cases hlt : s.n < x.n
    · rw [if_pos hlt]
      show ab (if s.n = s'.n then s' else s) :: (upd (x :: r) s').map ab = putA n p (ab x :: r.map ab)
      rw [if_pos (hn.trans hn'.symm), upd_not (by rw [hn']; exact h), e]
      unfold putA
      rw [if_pos (by rw [← hn]; exact hlt)]
      rfl
    · rw [if_neg hlt]
      show ab (if x.n = s'.n then s' else x) :: (upd (ins s r) s').map ab = putA n p (ab x :: r.map ab)
      rw [if_neg (by rw [hn']; exact hx), putA_new p hn e hr]
      conv => rhs; unfold putA
      rw [if_neg (by show ¬ n < x.n; omega)]
      exact (if_neg hx).symm
theorem sync_upd {M : List Sg} (h : Rise M) {s : Sg} (hs : s ∈ M) : (upd M (settled s)).map ab = syncA s.n (M.map ab) := by
  unfold upd syncA
  rw [List.map_map, List.map_map]
  refine List.map_congr_left fun t ht => ?_
  show ab (if t.n = s.n then settled s else t) = if t.n = s.n then ⟨t.n, t.b, t.b.length, true⟩ else ab t
  by_cases e : t.n = s.n
  · rw [if_pos e, if_pos e, h.inj ht hs e]; rfl
  · rw [if_neg e, if_neg e]
theorem drop_filter (M : List Sg) (n : Int) : (M.filter fun t => !decide (t.n = n)).map ab = dropA n (M.map ab) := by
  unfold dropA
  rw [List.filter_map]
  rfl
theorem sum_split (T R : List Sg) (s : Sg) : sumA ((T ++ s :: R).map ab) = sumA ((T ++ R).map ab) + s.b.length := by
  rw [List.map_append, List.map_append, sumA_append, sumA_append, List.map_cons]
  show _ + (s.b.length + _) = _
  omega
/-- A disk at block d; its blocks are among B. -/
structure DD (w : World) (B : Nat → Prop) (d : Nat) (a : Ad) : Prop where
  ex : ∃ K mb M, Dk w K d mb a.room (sumA a.L : Nat) a.fuse a.down M ∧ M.map ab = a.L ∧ ∀ k, blD d mb M k → B k
  bt : ∀ k, B k → k < w.heap.size
  le : ((sumA a.L : Nat) : Int) ≤ a.room
  rm : a.room ≤ 67108864
  ln : a.L.length ≤ 1024
  f1 : -1 ≤ a.fuse
  f2 : a.fuse ≤ 9223372036854775807
def Dn (w : World) (B : Nat → Prop) (d : Nat) (r : Int) (a : Ad) (e : Ending) (w' : World) : Prop :=
  e = .returned (.int .i64 r) ∧ ∃ B', DD w' B' d a ∧ Tn B w w' ∧ ∀ k, B' k → B k ∨ w.heap.size ≤ k
section
variable {P B : Nat → Prop} {w w' : World} {d : Nat} {a a' : Ad} {n r : Int} {A : Option Addr} {m c K' : Nat} {p : List UInt8}
theorem DD.tn (h : DD w B d a) (t : Tn P w w') (hP : ∀ k, B k → ¬ P k) : DD w' B d a := by
  obtain ⟨K, mb, M, D, e, hb⟩ := h.ex
  exact ⟨⟨K, mb, M, D.tn t fun k hk => hP k (hb k hk), e, hb⟩, fun k hk => Nat.lt_of_lt_of_le (h.bt k hk) t.size, h.le, h.rm, h.ln, h.f1, h.f2⟩
theorem DD.below (h : DD w B d a) (hb : Below w.heap.size w w') : DD w' B d a := h.tn (Tn.ofNew (P := fun _ => False) hb) fun _ _ h => h
theorem DD.alloc (h : DD w B d a) (o : Obj) : DD (w.alloc o) B d a := h.below ((Below.refl _ _).alloc (Nat.le_refl _) _)
theorem DD.same (h : DD w B d a) (r : Int) : Dn w B d r a (.returned (.int .i64 r)) w := ⟨rfl, B, h, Tn.refl _ _, fun _ h => .inl h⟩
theorem DD.grew (h : DD w B d a) (r : Int) (hb : Below w.heap.size w w') : Dn w B d r a (.returned (.int .i64 r)) w' := ⟨rfl, B, h.below hb, Tn.ofNew hb, fun _ h => .inl h⟩
/-- A new state of the disk. -/
theorem DD.turned {K mb : Nat} {M M' : List Sg} (hb : ∀ k, blD d mb M k → B k) (D : Dk w' K d mb a'.room (sumA a'.L : Nat) a'.fuse a'.down M') (e : M'.map ab = a'.L) (t : Tn (blD d mb M) w w') (hB : ∀ k, blD d mb M' k → blD d mb M k ∨ w.heap.size ≤ k)
    (le : ((sumA a'.L : Nat) : Int) ≤ a'.room) (rm : a'.room ≤ 67108864) (ln : a'.L.length ≤ 1024) (f1 : -1 ≤ a'.fuse) (f2 : a'.fuse ≤ 9223372036854775807) (r : Int) : Dn w B d r a' (.returned (.int .i64 r)) w' :=
  ⟨rfl, blD d mb M', ⟨⟨K, mb, M', D, e, fun _ h => h⟩, fun _ hk => (D.top hk).2, le, rm, ln, f1, f2⟩, t.mono fun k _ hk => hb k hk, fun k hk => (hB k hk).imp (hb k) id⟩
theorem app_DD (h : DD w B d a) (hn2 : n ≤ 9223372036854775807) (hb : Bs w K' A c p) (hm : p.length = m) (hp : 0 < p.length → ∀ ad : Addr, A = some ad → ¬ B ad.block) (hr : appD a n p = (r, a')) :
    Calls Try.prog 22 #[dP d, .int .i64 n, .slice A m c] w (Dn w B d r a') := by
  obtain ⟨K, mb, M, D, e, hB⟩ := h.ex
  obtain ⟨room, fuse, down, L⟩ := a
  simp only at D e
  have h1 := h.le
  have h2 := h.rm
  have h3 := h.ln
  have h4 := h.f1
  have h5 := h.f2
  simp only at h1 h2 h3 h4 h5
  have hML : M.length = L.length := by rw [← e]; simp
  obtain ⟨g1, g2⟩ := fz_bd h4 h5
  unfold appD at hr
  simp only at hr
  cases down with
  | true =>
    rw [if_pos rfl] at hr
    cases hr
    refine (dapp_down D).mono ?_
    rintro e w' ⟨rfl, rfl⟩
    exact h.same 5
  | false =>
    rw [if_neg (by simp)] at hr
    by_cases c1 : n < 1
    · rw [if_pos c1] at hr
      cases hr
      refine (dapp_arg D c1).mono ?_
      rintro e w' ⟨rfl, rfl⟩
      exact h.same 1
    rw [if_neg c1] at hr
    by_cases c2 : room - (sumA L : Nat) < (p.length : Nat)
    · rw [if_pos c2] at hr
      cases hr
      refine (dapp_big D (by omega) (by omega) h1 h2 (by omega)).mono ?_
      rintro e w' ⟨rfl, hbl⟩
      exact h.grew 4 hbl
    rw [if_neg c2] at hr
    by_cases c3 : hasA L n = false ∧ 1024 ≤ L.length
    · rw [if_pos c3] at hr
      cases hr
      obtain ⟨c3, c4⟩ := c3
      rw [← e, hasA_not] at c3
      refine (dapp_many D (by omega) hn2 (by omega) h1 h2 (by omega) c3 (by omega) (by omega)).mono ?_
      rintro e w' ⟨rfl, hbl⟩
      exact h.grew 4 hbl
    rw [if_neg c3] at hr
    have hfit : fits M n := by
      cases hh : hasA L n with
      | true => rw [← e, hasA_iff] at hh; exact .inl hh
      | false =>
        have : ¬ 1024 ≤ L.length := fun h => c3 ⟨hh, h⟩
        rw [← e, hasA_not] at hh
        exact .inr ⟨hh, by omega⟩
    by_cases c4 : fuse = 0
    · rw [if_pos c4] at hr
      cases hr
      subst c4
      refine (dapp_dead D (by omega) hn2 (by omega) h1 h2 (by omega) hfit).mono ?_
      rintro e' w' ⟨rfl, D', t⟩
      exact DD.turned (a' := ⟨room, 0, true, L⟩) hB D' e (t.mono fun k _ e => .inl e) (fun _ h => .inl h) h1 h2 h3 (by simp only; omega) (by simp only; omega) 5
    rw [if_neg c4] at hr
    cases hr
    have hsum := sum_put n p L
    rcases hfit with ⟨s, hs, hsn⟩ | ⟨hno, hlt⟩
    · subst hsn
      obtain ⟨T, R, eM⟩ := List.append_of_mem hs
      have hslen : s.b.length ≤ sumA L := by rw [← e, eM, sum_split]; omega
      refine (dapp_there D hs (by omega) h1 h2 c4 h5 hb hm (by omega) (fun hl ad ea eb => hp hl ad ea (hB _ (.inl eb))) (by omega)).mono ?_
      rintro e' w' ⟨rfl, v, D', t, hB'⟩
      have hmap : (upd M ⟨s.n, s.g, v, s.b ++ p, s.l, s.k⟩).map ab = putA s.n p L := by
        have hr := D.ri
        rw [← e, eM] at *
        rw [upd_at hr (by rfl)]
        exact putA_there p rfl hr
      refine DD.turned (K := K) (a' := ⟨room, fz fuse, false, putA s.n p L⟩) hB ?_ hmap t hB' (by simp only; omega) h2 (by simp only; rw [← hmap]; simp [upd]; omega) g1 g2 0
      simp only
      rw [hsum, hm]
      exact_mod_cast D'
    · refine (dapp_new D (by omega) hn2 hno hlt (by omega) h1 h2 c4 h5 hb hm (by omega) (fun hl ad ea => ⟨fun eb => hp hl ad ea (hB _ (.inl eb)), fun eb => hp hl ad ea (hB _ (.inr (.inl eb)))⟩)).mono ?_
      rintro e' w' ⟨rfl, g, v, D', t, hB'⟩
      have hmap : (upd (ins (newSg n g) M) ⟨n, g, v, p, 0, false⟩).map ab = putA n p L := by rw [← e]; exact putA_new p rfl rfl hno
      have hlen := len_put n p L
      refine DD.turned (K := K) (a' := ⟨room, fz fuse, false, putA n p L⟩) hB ?_ hmap t hB' (by simp only; omega) h2 (by simp only; omega) g1 g2 0
      simp only
      rw [hsum, hm]
      exact_mod_cast D'
/-- Sync. -/
theorem sync_DD (h : DD w B d a) (hn1 : -9223372036854775808 ≤ n) (hn2 : n ≤ 9223372036854775807) (hr : opD syncA a n = (r, a')) :
    Calls Try.prog 23 #[dP d, .int .i64 n] w (Dn w B d r a') := by
  obtain ⟨K, mb, M, D, e, hB⟩ := h.ex
  obtain ⟨room, fuse, down, L⟩ := a
  simp only at D e
  have h1 := h.le
  have h2 := h.rm
  have h3 := h.ln
  have h4 := h.f1
  have h5 := h.f2
  simp only at h1 h2 h3 h4 h5
  obtain ⟨g1, g2⟩ := fz_bd h4 h5
  unfold opD at hr
  simp only at hr
  cases down with
  | true =>
    rw [if_pos rfl] at hr
    cases hr
    refine (sync_err (dP d) 5 (by decide) (dlook_down _ _ _ _ _ _ _ _ D n)).mono ?_
    rintro e w' ⟨rfl, rfl⟩
    exact h.same 5
  | false =>
    rw [if_neg (by simp)] at hr
    cases hh : hasA L n with
    | false =>
      rw [if_pos hh] at hr
      cases hr
      rw [← e, hasA_not] at hh
      refine (sync_err (dP d) 6 (by decide) (dlook_none _ _ _ _ _ _ _ _ D hn1 hn2 hh)).mono ?_
      rintro e w' ⟨rfl, rfl⟩
      exact h.same 6
    | true =>
      rw [if_neg (by simp [hh])] at hr
      rw [← e, hasA_iff] at hh
      obtain ⟨s, hs, rfl⟩ := hh
      by_cases c4 : fuse = 0
      · rw [if_pos c4] at hr
        cases hr
        subst c4
        refine (sync_dead D hs).mono ?_
        rintro e' w' ⟨rfl, D', t⟩
        exact DD.turned (a' := ⟨room, 0, true, L⟩) hB D' e (t.mono fun k _ e => .inl e) (fun _ h => .inl h) h1 h2 h3 (by simp only; omega) (by simp only; omega) 5
      · rw [if_neg c4] at hr
        cases hr
        refine (sync_ok D hs c4 h5).mono ?_
        rintro e' w' ⟨rfl, D', t, hB'⟩
        have hmap : (upd M (settled s)).map ab = syncA s.n L := by rw [← e]; exact sync_upd D.ri hs
        have hsum := sum_sync s.n L
        refine DD.turned (K := K) (a' := ⟨room, fz fuse, false, syncA s.n L⟩) hB ?_ hmap t hB' (by simp only; omega) h2 (by simp only; rw [← hmap]; simp [upd]; rw [← e] at h3; simpa using h3) g1 g2 0
        simp only
        rw [hsum]
        exact D'
/-- Drop. -/
theorem drop_DD (h : DD w B d a) (hn1 : -9223372036854775808 ≤ n) (hn2 : n ≤ 9223372036854775807) (hr : opD dropA a n = (r, a')) :
    Calls Try.prog 27 #[dP d, .int .i64 n] w (Dn w B d r a') := by
  obtain ⟨K, mb, M, D, e, hB⟩ := h.ex
  obtain ⟨room, fuse, down, L⟩ := a
  simp only at D e
  have h1 := h.le
  have h2 := h.rm
  have h3 := h.ln
  have h4 := h.f1
  have h5 := h.f2
  simp only at h1 h2 h3 h4 h5
  obtain ⟨g1, g2⟩ := fz_bd h4 h5
  unfold opD at hr
  simp only at hr
  cases down with
  | true =>
    rw [if_pos rfl] at hr
    cases hr
    refine (drop_err (dP d) 5 (by decide) (dlook_down _ _ _ _ _ _ _ _ D n)).mono ?_
    rintro e w' ⟨rfl, rfl⟩
    exact h.same 5
  | false =>
    rw [if_neg (by simp)] at hr
    cases hh : hasA L n with
    | false =>
      rw [if_pos hh] at hr
      cases hr
      rw [← e, hasA_not] at hh
      refine (drop_err (dP d) 6 (by decide) (dlook_none _ _ _ _ _ _ _ _ D hn1 hn2 hh)).mono ?_
      rintro e w' ⟨rfl, rfl⟩
      exact h.same 6
    | true =>
      rw [if_neg (by simp [hh])] at hr
      rw [← e, hasA_iff] at hh
      obtain ⟨s, hs, rfl⟩ := hh
      by_cases c4 : fuse = 0
      · rw [if_pos c4] at hr
        cases hr
        subst c4
        refine (drop_dead D hs).mono ?_
        rintro e' w' ⟨rfl, D', t⟩
        exact DD.turned (a' := ⟨room, 0, true, L⟩) hB D' e (t.mono fun k _ e => .inl e) (fun _ h => .inl h) h1 h2 h3 (by simp only; omega) (by simp only; omega) 5
      · rw [if_neg c4] at hr
        cases hr
        obtain ⟨T, R, eM⟩ := List.append_of_mem hs
        have hri := D.ri
        have hsum : sumA L = sumA (dropA s.n L) + s.b.length := by
          rw [← e, ← drop_filter]
          rw [eM] at hri ⊢
          rw [filter_at hri, sum_split]
        refine (drop_ok D hs c4 h5 (by omega) (by omega)).mono ?_
        rintro e' w' ⟨rfl, D', t, hB'⟩
        have hmap : (M.filter fun t => !decide (t.n = s.n)).map ab = dropA s.n L := by rw [← e]; exact drop_filter M s.n
        have hlen := len_drop s.n L
        refine DD.turned (K := K) (a' := ⟨room, fz fuse, false, dropA s.n L⟩) hB ?_ hmap t (fun k hk => .inl (hB' k hk)) (by simp only; omega) h2 (by simp only; omega) g1 g2 0
        simp only
        have : ((sumA L : Nat) : Int) - (s.b.length : Nat) = ((sumA (dropA s.n L) : Nat) : Int) := by omega
        rw [← this]
        exact D'
theorem fuse_DD (h : DD w B d a) (hn2 : n ≤ 9223372036854775807) (hr : fuseD a n = (r, a')) :
    Calls Try.prog 29 #[dP d, .int .i64 n] w (Dn w B d r a') := by
  obtain ⟨K, mb, M, D, e, hB⟩ := h.ex
  obtain ⟨room, fuse, down, L⟩ := a
  simp only at D e
  unfold fuseD at hr
  simp only at hr
  cases down with
  | true =>
    rw [if_pos rfl] at hr
    cases hr
    refine (fuse_down D).mono ?_
    rintro e w' ⟨rfl, rfl⟩
    exact h.same 5
  | false =>
    rw [if_neg (by simp)] at hr
    cases hr
    refine (fuse_ok D).mono ?_
    rintro e' w' ⟨rfl, D', t⟩
    exact DD.turned (a' := ⟨room, max n (-1), false, L⟩) hB D' e (t.mono fun k _ e => .inl e) (fun _ h => .inl h) h.le h.rm h.ln (by simp only; omega) (by simp only; omega) 0
theorem new_DD (x : Int) (h1 : 0 ≤ x) (h2 : x ≤ 67108864) (w : World) : Calls Try.prog 8 #[.int .i64 x] w fun e w' => e = .returned (.tuple #[dP (w.heap.size + 1), .int .i64 0]) ∧ (∃ B, DD w' B (w.heap.size + 1) ⟨x, -1, false, []⟩ ∧ ∀ k, B k → w.heap.size ≤ k) ∧ Below w.heap.size w w' := by
  refine (dnew_ok x h1 h2 w).mono ?_
  rintro e w' ⟨rfl, D, hb⟩
  refine ⟨rfl, ⟨blD (w.heap.size + 1) w.heap.size [], ⟨⟨_, _, [], D, rfl, fun _ h => h⟩, fun k hk => (D.top hk).2, by simpa [sumA] using h1, h2, by simp, by simp, by simp⟩, fun k hk => ?_⟩, hb⟩
  rcases hk with e | e | ⟨s, hs, _⟩
  · omega
  · omega
  · cases hs
theorem down_DD (h : DD w B d a) : Calls Try.prog 31 #[dP d] w fun e w' => e = .returned (.bool a.down) ∧ w' = w := by
  obtain ⟨K, mb, M, D, _, _⟩ := h.ex
  exact down_any D
theorem used_DD (h : DD w B d a) : Calls Try.prog 32 #[dP d] w fun e w' => e = .returned (.int .i64 (sumA a.L : Nat)) ∧ w' = w := by
  obtain ⟨K, mb, M, D, _, _⟩ := h.ex
  exact used_any D
theorem read_DD (h : DD w B d a) (hd : a.down = false) {x : As} (hx : x ∈ a.L) : Calls Try.prog 25 #[dP d, .int .i64 x.n] w fun e w' => ∃ A c, e = .returned (.tuple #[.slice A x.b.length c, .int .i64 0]) ∧ Ob w' w.heap.size (.slice A x.b.length c) x.b ∧ Below w.heap.size w w' := by
  obtain ⟨K, mb, M, D, e, hB⟩ := h.ex
  rw [hd] at D
  rw [← e] at hx
  obtain ⟨s, hs, rfl⟩ := List.mem_map.1 hx
  obtain ⟨T, R, eM⟩ := List.append_of_mem hs
  have hslen : s.b.length ≤ sumA a.L := by rw [← e, eM, sum_split]; omega
  have h1 := h.le
  have h2 := h.rm
  exact read_ok D hs (by omega)
theorem read_DDn (h : DD w B d a) (hn1 : -9223372036854775808 ≤ n) (hn2 : n ≤ 9223372036854775807) {v : Int} (hv : (a.down = true ∧ v = 5) ∨ (a.down = false ∧ hasA a.L n = false ∧ v = 6)) : Calls Try.prog 25 #[dP d, .int .i64 n] w fun e w' => e = .returned (.tuple #[.slice none 0 0, .int .i64 v]) ∧ w' = w := by
  obtain ⟨K, mb, M, D, e, hB⟩ := h.ex
  rcases hv with ⟨hd, rfl⟩ | ⟨hd, hh, rfl⟩
  · rw [hd] at D
    exact read_err (dP d) 5 (by decide) (dlook_down _ _ _ _ _ _ _ _ D n)
  · rw [hd] at D
    rw [← e, hasA_not] at hh
    exact read_err (dP d) 6 (by decide) (dlook_none _ _ _ _ _ _ _ _ D hn1 hn2 hh)
end
end Go.Proofs.Ytpckbbjlihhpdaa
namespace Go.Proofs.Ytpckbbjlihhpdaa
open Go.RowKit Go.Maps Go.BigFrame

theorem Sr.tn {α : Type} {enc : α → List Value} {k K cap : Nat} {A : Option Addr} {l : List α} {P : Nat → Prop} {w w' : World} (hb : Sr enc k w K A cap l) (h : Tn P w w') (hn : 0 < l.length → ∀ ad : Addr, A = some ad → ¬ P ad.block) : Sr enc k w' K A cap l :=
  ⟨hb.le, hb.max, hb.nil, fun hl => by
    obtain ⟨ad, e, hk, hc⟩ := hb.at_ hl
    refine ⟨ad, e, hk, fun i x hi j u hu => ?_⟩
    have := hc i x hi j u hu
    have hbl : (ad.add (i * k + j)).block = ad.block := el_block_of_add ad _
    generalize ad.add (i * k + j) = q at *
    exact h.cell this (by rw [hbl]; exact hn hl ad e)⟩
theorem Sr.int {K cap i : Nat} {A : Option Addr} {l : List Int} {w : World} (h : Sr encI 1 w K A cap l) (hi : i < l.length) : ∃ ad : Addr, A = some ad ∧ ad.block < K ∧ w.cell? (ad.add i) = some (.int .i64 l[i]) := by
  obtain ⟨ad, e, hb, hc⟩ := h.get hi
  have := hc 0 (.int .i64 l[i]) rfl
  rw [Nat.mul_one, Nat.add_zero] at this
  exact ⟨ad, e, hb, this⟩
theorem crash_step (T T' R : List Sg) (s : Sg) (ks : List Int) (i : Nat) (more : Int) (hmore : more = ks.getD i 0) (hT' : T'.map ab = tornA (ab s) more) {L : List As} (h : T.map ab ++ crashA ((s :: R).map ab) (ks.drop i) = L) :
    (T ++ T').map ab ++ crashA (R.map ab) (ks.drop (i + 1)) = L := by
  subst hmore
  have e0 : crashA (ab s :: R.map ab) (ks.drop i) = tornA (ab s) ((ks.drop i).headD 0) ++ crashA (R.map ab) (ks.drop i).tail := rfl
  rw [← h, List.map_append, hT', List.map_cons, e0]
  have e1 : (ks.drop i).headD 0 = ks.getD i 0 := by
    rw [List.headD_eq_head?_getD, List.head?_drop]; rfl
  have e2 : (ks.drop i).tail = ks.drop (i + 1) := by rw [List.tail_drop]
  rw [e1, e2, List.append_assoc]
def Crashed (w : World) (K d mb : Nat) (room : Int) (M : List Sg) (ks : List Int) (e : Ending) (w' : World) : Prop :=
  e = .returned (.int .i64 0) ∧ ∃ M', M'.map ab = crashA (M.map ab) ks ∧ Dk w' K d mb room (sumA (M'.map ab) : Nat) (-1) false M' ∧ Tn (blD d mb M) w w' ∧ ∀ k, blD d mb M' k → blD d mb M k ∨ w.heap.size ≤ k
/-- Behind i rounds. -/
structure Cr (w1 wr : World) (K d mb : Nat) (room fuse : Int) (down : Bool) (M : List Sg) (ks : List Int) (i : Nat) (T : List Sg) : Prop where
  le : i ≤ M.length
  dk : Dk wr K d mb room (sumA ((T ++ M.drop i).map ab) : Nat) fuse down (T ++ M.drop i)
  eq : T.map ab ++ crashA ((M.drop i).map ab) (ks.drop i) = crashA (M.map ab) ks
  su : sumA ((T ++ M.drop i).map ab) ≤ sumA (M.map ab)
  tn : Tn (blD d mb M) w1 wr
  bl : ∀ k, blD d mb (T ++ M.drop i) k → blD d mb M k ∨ w1.heap.size ≤ k
section
variable {K d mb : Nat} {room fuse : Int} {down : Bool} {M T : List Sg} {w w1 wr w' : World} {ks : List Int} {i : Nat}
theorem Cr.start (h : Dk w1 K d mb room (sumA (M.map ab) : Nat) fuse down M) : Cr w1 w1 K d mb room fuse down M ks 0 [] :=
  ⟨Nat.zero_le _, h, rfl, Nat.le_refl _, Tn.refl _ _, fun _ h => .inl h⟩
theorem Cr.tear (h : Cr w1 wr K d mb room fuse down M ks i T) (hi : i < M.length) (hu : sumA (M.map ab) ≤ 67108864) (more : Int) (hmore : more = ks.getD i 0) :
    Calls Try.prog 54 #[dP d, .int .i64 M[i].n, .int .i64 more] wr fun e w' => e = .returned (.tuple #[]) ∧ ∃ T', Cr w1 w' K d mb room fuse down M ks (i + 1) T' := by
  have hd : M.drop i = M[i] :: M.drop (i + 1) := List.drop_eq_getElem_cons hi
  obtain ⟨h1, h2, h3, h4, h5, h6⟩ := h
  rw [hd] at h2 h3 h4 h6
  have hs := sum_split T (M.drop (i + 1)) M[i]
  refine (tear_at h2 more (by omega) (by omega) (by omega)).mono ?_
  rintro e w' ⟨rfl, T', e', D, t, B⟩
  have hk := kq_le (ab M[i]) more
  have hk' : kq (ab M[i]) more ≤ M[i].b.length := hk
  have hs2 : sumA ((T ++ T' ++ M.drop (i + 1)).map ab) = sumA ((T ++ M.drop (i + 1)).map ab) + kq (ab M[i]) more := by
    simp only [List.map_append, sumA_append, e', sum_torn]; omega
  refine ⟨rfl, T ++ T', hi, ?_, crash_step T T' _ M[i] ks i more hmore e' h3, by omega, h5.thenQ t fun k hk e => ?_, fun k hk => ?_⟩
  · have : (((sumA ((T ++ M[i] :: M.drop (i + 1)).map ab) : Nat) : Int) - ((M[i].b.length : Int) - (kq (ab M[i]) more : Nat))) = ((sumA ((T ++ T' ++ M.drop (i + 1)).map ab) : Nat) : Int) := by omega
    rw [this] at D
    exact D
  · rcases h6 k e with e | e
    · exact e
    · omega
  · rcases B k hk with e | e
    · exact h6 k e
    · exact .inr (Nat.le_trans h5.size e)
theorem Cr.end_ (h : Cr w1 wr K d mb room fuse down M ks M.length T) : T.map ab = crashA (M.map ab) ks ∧ Dk wr K d mb room (sumA (T.map ab) : Nat) fuse down T ∧ Tn (blD d mb M) w1 wr ∧ ∀ k, blD d mb T k → blD d mb M k ∨ w1.heap.size ≤ k := by
  obtain ⟨h1, h2, h3, h4, h5, h6⟩ := h
  rw [List.drop_length, List.append_nil] at h2 h6
  rw [List.drop_length] at h3
  exact ⟨by simpa [crashA] using h3, h2, h5, h6⟩
end
set_option maxRecDepth 100000 in
set_option maxHeartbeats 3200000 in
theorem crash_any {K d mb : Nat} {room fuse : Int} {down : Bool} {M : List Sg} {w : World} {A : Option Addr} {c m : Nat} {ks : List Int} (h : Dk w K d mb room (sumA (M.map ab) : Nat) fuse down M) (hu : sumA (M.map ab) ≤ 67108864) (hM : M.length ≤ 1024) (hk : Sr encI 1 w w.heap.size A c ks) (hm : ks.length = m)
    (hap : 0 < ks.length → ∀ ad : Addr, A = some ad → ¬ blD d mb M ad.block) :
    Calls Try.prog 24 #[dP d, .slice A m c] w (Crashed w K d mb room M ks) := by
  subst hm
  have HN := Lib.hid (numbers_any K d mb room _ fuse down M w h hM)
  have HD := Lib.hid h
  have HK := Lib.hid hk
  have HAP := Lib.hid hap
  have HU := Lib.hid hu
  have hkl := hk.le
  have hkm := hk.max
  unfold maxLen at hkm
  clear h hk hap hu
  go_enter Try.func24, Try.ntmps24
  go_wp2_with (go_at_call 53; refine HN.out.mono ?_; rintro e w1 ⟨v, rfl, so, b1⟩; obtain ⟨A1, c1, hv⟩ := so.form; rw [List.length_map] at hv; subst hv)
  have HS := Lib.hid (so.sr encI_len).1
  have hblk : ∀ ad : Addr, A1 = some ad → w.heap.size ≤ ad.block := fun ad e => by
    subst e
    obtain ⟨g, hg⟩ : ∃ g, (Value.slice (some ad) M.length c1).ownBlock = some g := ⟨_, rfl⟩
    exact (so.lt _ rfl).1
  have HB := Lib.hid hblk
  have HB1 := Lib.hid b1
  have HD1 := Lib.hid (HD.out.below b1)
  have HK1 := Lib.hid (HK.out.below b1)
  clear so hblk b1 HK
  go_loopw [13] (fun iv wr => ∃ (i : Nat) (T : List Sg), iv = .int .i64 (i : Int) ∧ Cr w1 wr K d mb room fuse down M ks i T) (fun iv _ => M.length - (intOf iv).toNat)
  case atStart => exact ⟨0, [], rfl, Cr.start HD1.out⟩
  case round =>
    obtain ⟨i, T, rfl, C⟩ := hrel
    rename World => W0
    have hle := C.le
    by_cases hlt : i < M.length
    · obtain ⟨ad, rfl, hb, hc0⟩ := (HS.out.tn C.tn fun _ ad e hbl => by
        have := HB.out ad e
        have := (HD.out.top hbl).2
        omega).int (i := i) (by rw [List.length_map]; exact hlt)
      rw [List.getElem_map] at hc0
      have hi0 : 0 ≤ (i : Int) := by omega
      by_cases hik : i < ks.length
      · have hmore : ks[i] = ks.getD i 0 := by simp [hik]
        obtain ⟨ak, rfl, hbk, hck⟩ := (HK1.out.tn C.tn HAP.out).int (i := i) hik
        have HT := Lib.hid (C.tear hlt HU.out ks[i] hmore)
        clear hmore C
        go_wp2_with (go_at_call 54; refine HT.out.mono ?_; rintro e W2 ⟨rfl, T2, C2⟩; have HC2 := Lib.hid C2; clear C2)
        go_roundw
        case rel => exact ⟨i + 1, T2, by go_num, HC2.out⟩
        case measure => simp [intOf]; omega
      · have hmore : (0 : Int) = ks.getD i 0 := by rw [List.getD_eq_getElem?_getD, List.getElem?_eq_none (by omega)]; rfl
        have HT := Lib.hid (C.tear hlt HU.out 0 hmore)
        clear hmore C
        go_wp2_with (go_at_call 54; refine HT.out.mono ?_; rintro e W2 ⟨rfl, T2, C2⟩; have HC2 := Lib.hid C2; clear C2)
        go_roundw
        case rel => exact ⟨i + 1, T2, by go_num, HC2.out⟩
        case measure => simp [intOf]; omega
    · obtain rfl : M.length = i := by omega
      obtain ⟨e1, D2, T2, B2⟩ := C.end_
      have c3 := D2.c3
      have c4 := D2.c4
      have f3 := D2.fr 3
      have f4 := D2.fr 4
      have HD2 := Lib.hid D2
      have HE := Lib.hid e1
      have HT2 := Lib.hid T2
      have HB2 := Lib.hid B2
      clear C D2 e1 T2 B2
      go_wp2
      go_ret
      exact ⟨rfl, T, HE.out, (HD2.out.set3 (-1)).set4 false, (((Tn.ofNew (P := blD d mb M) HB1.out).thenQ HT2.out (fun _ _ e => e)).thenQ (Tn.setCell _ d 3 _) (fun _ _ e => .inl e)).thenQ (Tn.setCell _ d 4 _) (fun _ _ e => .inl e), fun k hk => (HB2.out k hk).imp id fun e => Nat.le_trans HB1.out.size e⟩
theorem crash_DD {B : Nat → Prop} {w : World} {d : Nat} {a : Ad} {A : Option Addr} {m c K' : Nat} {ks : List Int} (h : DD w B d a) (hk : Sr encI 1 w K' A c ks) (hK' : K' ≤ w.heap.size) (hm : ks.length = m) (hp : 0 < ks.length → ∀ ad : Addr, A = some ad → ¬ B ad.block) :
    Calls Try.prog 24 #[dP d, .slice A m c] w (Dn w B d 0 (crashD a ks)) := by
  obtain ⟨K, mb, M, D, e, hB⟩ := h.ex
  have h1 := h.le
  have h2 := h.rm
  have h3 := h.ln
  rw [← e] at D h1 h3
  refine (crash_any D (by omega) (by simpa using h3) (hk.more hK') hm fun hl ad ea eb => hp hl ad ea (hB _ eb)).mono ?_
  rintro e' w' ⟨rfl, M', eM, D', t, hB'⟩
  have hc1 := len_crash (M.map ab) ks
  have hc2 := sum_crash (M.map ab) ks
  refine DD.turned (K := K) (a' := crashD a ks) hB ?_ (by rw [eM, e]; rfl) t hB' ?_ h2 ?_ (by simp [crashD]) (by simp [crashD]) 0
  · rw [eM, e] at D'
    exact D'
  · show ((sumA (crashA a.L ks) : Nat) : Int) ≤ a.room
    rw [← e]; omega
  · show (crashA a.L ks).length ≤ 1024
    rw [← e]; omega
end Go.Proofs.Ytpckbbjlihhpdaa
namespace Go.Proofs.Ytpckbbjlihhpdaa
open Go.RowKit

def strB (l : List UInt8) : ByteArray := ⟨l.toArray⟩
theorem strB_toList (l : List UInt8) : (strB l).data.toList = l := rfl
theorem strB_size (l : List UInt8) : (strB l).size = l.length := by simp [strB, ByteArray.size]

theorem bs_str {w : World} {K cap n : Nat} {A : Option Addr} {l : List UInt8} (h : Bs w K A cap l) (hn : l.length = n) : (convert 30 9 (.slice A n cap)).run Try.prog w = .ok (.string (strB l)) w := by
  subst hn
  by_cases hl : l = []
  · subst hl
    rcases A with _ | ad
    · exact run_convert_bytes_nil (P := Try.prog) w 30 5 Try.underlying30 Try.underlying5 0 cap 9 Try.underlying9
    · show (convert 30 9 (.slice (some ad) 0 cap)).run Try.prog w = _
      rw [run_convert_bytes_string w 30 9 5 _ _ _ Try.underlying30 Try.underlying5 Try.underlying9, run_bytesToString w ad 0 cap [] (by simpa using run_loadCells_list (P := Try.prog) w ad [] (fun j v hj => by simp at hj))]
      rfl
  · obtain ⟨ad, rfl, _, hc⟩ := h.at_ (List.length_pos_iff.2 hl)
    have hld : (loadCells ad l.length).run Try.prog w = .ok ((l.map fun c => (c.toNat : Int)).map (Value.int .u8)).toArray w := by
      have := run_loadCells_list (P := Try.prog) w ad (l.map bv) (fun j v hj => by
        simp only [List.getElem?_map, Option.map_eq_some_iff] at hj
        obtain ⟨c, hc', rfl⟩ := hj
        exact hc j c hc')
      rw [List.length_map] at this
      rw [List.map_map]
      exact this
    rw [run_convert_bytes_string w 30 9 5 _ _ _ Try.underlying30 Try.underlying5 Try.underlying9, run_bytesToString w ad l.length cap _ hld, foldl_push_bytes, List.map_map]
    have e : (l.map ((fun n : Int => UInt8.ofNat n.toNat) ∘ fun c : UInt8 => (c.toNat : Int))) = l := by
      rw [show ((fun n : Int => UInt8.ofNat n.toNat) ∘ fun c : UInt8 => (c.toNat : Int)) = id by funext c; simp, List.map_id]
    rw [e]
    simp [strB, ByteArray.empty, ByteArray.emptyWithCapacity]
    rfl
end Go.Proofs.Ytpckbbjlihhpdaa
namespace Go.Proofs.Ytpckbbjlihhpdaa
open Go.RowKit Go.Maps Go.BigFrame

theorem DD.lt {w : World} {B : Nat → Prop} {d : Nat} {a : Ad} (h : DD w B d a) : d < w.heap.size ∧ B d := by
  obtain ⟨K, mb, M, D, _, hb⟩ := h.ex
  exact ⟨D.lt, hb d (.inl rfl)⟩
theorem Tn.bel {K : Nat} {B : Nat → Prop} {w w1 w2 : World} (t : Tn B w1 w2) (hb : Below K w w1) (hB : ∀ k, B k → K ≤ k) (hK : K ≤ w.heap.size) : Below K w w2 := hb.trans (t.below (Nat.le_trans hK hb.size) fun k _ h => hB k h)
theorem up {B B' : Nat → Prop} {K n : Nat} (h : ∀ k, B' k → B k ∨ n ≤ k) (hB : ∀ k, B k → K ≤ k) (hn : K ≤ n) : ∀ k, B' k → K ≤ k := fun k hk => (h k hk).elim (hB k) fun e => Nat.le_trans hn e
def Ok0 (w : World) (e : Ending) (w' : World) : Prop := e = .returned (.bool true) ∧ Below w.heap.size w w'
set_option maxRecDepth 100000 in
set_option maxHeartbeats 3200000 in
theorem dawake_any (w : World) : Calls Try.prog 7 #[] w (Ok0 w) := by
  have kc := fun (w : World) (C : Array Value) (n c : Nat) => Lib.run_convert_bytes_const (P := Try.prog) w 30 5 C n c Try.underlying30 Try.underlying5
  go_enter Try.func7, Try.ntmps7
  go_wp2_with fail
  refine (new_DD 9 (by decide) (by decide) w).mono ?_
  rintro e w1 ⟨rfl, ⟨B1, D1, hB1⟩, b1⟩
  have z1 := D1.lt.1
  have zz := b1.size
  go_wp2_with fail
  refine (app_DD (K' := w1.heap.size + 1) (p := [97, 98]) (D1.alloc _) (by decide) (lit_bsF w1 _ _ _ rfl #[.int .u8 97, .int .u8 98] 2 [97, 98] rfl rfl (by decide)) rfl (fun _ ad e hb => ?_) (r := 0) (a' := ⟨9, -1, false, [⟨1, [97, 98], 0, false⟩]⟩) (by rfl)).mono ?_
  · cases e
    exact Nat.lt_irrefl _ (D1.bt _ hb)
  rintro e w2 ⟨rfl, B2, D2, T2, hB2⟩
  have b2 := T2.bel (b1.alloc zz _) hB1 (Nat.le_refl _)
  have hB2' := up hB2 hB1 (by simp; omega)
  clear D1 T2 hB1 hB2 b1
  have z2 := D2.lt.1
  have zz2 := b2.size
  go_wp2_with fail
  refine (sync_DD D2 (by decide) (by decide) (r := 0) (a' := ⟨9, -1, false, [⟨1, [97, 98], 2, true⟩]⟩) (by rfl)).mono ?_
  rintro e w3 ⟨rfl, B3, D3, T3, hB3⟩
  have b3 := T3.bel b2 hB2' (Nat.le_refl _)
  have hB3' := up hB3 hB2' zz2
  clear D2 T3 hB3 hB2' b2
  have z3 := D3.lt.1
  have zz3 := b3.size
  go_wp2_with fail
  refine (app_DD (K' := w3.heap.size + 1) (p := [99, 100]) (D3.alloc _) (by decide) (lit_bsF w3 _ _ _ rfl #[.int .u8 99, .int .u8 100] 2 [99, 100] rfl rfl (by decide)) rfl (fun _ ad e hb => ?_) (r := 0) (a' := ⟨9, -1, false, [⟨1, [97, 98, 99, 100], 2, true⟩]⟩) (by rfl)).mono ?_
  · cases e
    exact Nat.lt_irrefl _ (D3.bt _ hb)
  rintro e w4 ⟨rfl, B4, D4, T4, hB4⟩
  have b4 := T4.bel (b3.alloc zz3 _) hB3' (Nat.le_refl _)
  have hB4' := up hB4 hB3' (by simp; omega)
  clear D3 T4 hB4 hB3' b3
  have z4 := D4.lt.1
  have zz4 := b4.size
  go_wp2_with fail
  have hks := (lit_so (α := Int) (enc := encI) (k := 1) w4 w4.heap.size 3 w4.heap.size rfl (Nat.le_refl _) #[.int .i64 1] 1 [1] encI_len rfl rfl (by decide)).sr encI_len
  refine (crash_DD (ks := [1]) (D4.alloc _) hks.1 (Nat.le_refl _) rfl (fun _ ad e hb => ?_)).mono ?_
  · cases e
    exact Nat.lt_irrefl _ (D4.bt _ hb)
  rintro e w5 ⟨rfl, B5, D5, T5, hB5⟩
  have b5 := T5.bel (b4.alloc zz4 _) hB4' (Nat.le_refl _)
  have hB5' := up hB5 hB4' (by simp; omega)
  have D6 : DD w5 B5 _ ⟨9, -1, false, [⟨1, [97, 98, 99], 3, true⟩]⟩ := D5
  clear D4 T5 hB5 hB4' b4 D5 hks
  have z5 := D6.lt.1
  have zz5 := b5.size
  go_wp2_with fail
  refine (read_DD D6 rfl (x := ⟨1, [97, 98, 99], 3, true⟩) (by simp)).mono ?_
  rintro e w6 ⟨A6, c6, rfl, ob6, b6⟩
  have hs : (convert 30 9 (.slice A6 3 c6)).run Try.prog w6 = .ok (.string (strB [97, 98, 99])) w6 := bs_str ob6.bs.1 rfl
  have hq : ((strB [97, 98, 99]).toList == [97, 98, 99]) = true := by decide +kernel
  have b7 := b5.trans (b6.mono zz5)
  go_wp2_with fail
  go_ret
  exact ⟨rfl, b7⟩
end Go.Proofs.Ytpckbbjlihhpdaa
namespace Go.Proofs.Ytpckbbjlihhpdaa
open Go.ChangeShapes Go.WideShapes Go.ChangeAt Go.RowKit

theorem own : ownKnob Try.prog.godebug = none := by kernel_rfl
theorem laid_out : laidOutB Try.prog = true := by kernel_rfl

noncomputable def readOk (t : TypeId) : Bool := Try.prog.readableRec t && decide (t < Try.prog.types.size)
theorem trodAll_stays {H : Type} {enc : TypeId × Value → H} {W W' : World} (hb : Below W.heap.size W W') (ts : List TypeId) (hts : ts.all readOk = true)
    {vs : List Value} {ds : List (DataW H)} {ps : List MemPlace} (h : DataW.TrodAll enc Try.prog W 0 (fun _ => true) true ts vs ds ps) (hlt : ∀ x ∈ ps, x.block < W.heap.size) : DataW.TrodAll enc Try.prog W' 0 (fun b => decide (b < W.heap.size)) true ts vs ds ps := by
  induction ts generalizing vs ds ps with
  | nil =>
    obtain ⟨rfl, rfl, rfl⟩ := trodAll_nil h
    exact trodAll_mk0
  | cons t ts ih =>
    obtain ⟨v, vs', d, ds', p, q, rfl, rfl, rfl, h1, h2⟩ := trodAll_cons h
    rw [List.all_cons, Bool.and_eq_true] at hts
    have hr := hts.1
    unfold readOk at hr
    rw [Bool.and_eq_true, decide_eq_true_eq] at hr
    exact trodAll_cons_mk (Below.trod laid_out hr.1 hr.2 h1 hb fun x hx => hlt x (List.mem_append_left _ hx)) (ih hts.2 h2 fun x hx => hlt x (List.mem_append_right _ hx))

theorem law_post {H : Type} {enc : TypeId × Value → H} {f : Func} {s : ChangeSpec} {apart : Bool} {W W' : World} {args : Array Value} {ds gs : List (DataW H)} {before : List MemPlace}
    (hW : DataW.Whole enc Try.prog f.params.toList s.vars apart W args.toList ds gs before) (hs : s.vars = []) (hres : f.resultTypes = #[4])
    (hts : f.params.toList.all readOk = true) (hfn : (s.fn H (ds ++ gs)).results = [.lit (.bool true)] ∧ (s.fn H (ds ++ gs)).args = ds ∧ (s.fn H (ds ++ gs)).vars = [])
    (hb : Below W.heap.size W W') : s.post enc Try.prog f apart true false false W args (.bool true) W' := by
  have hlt := hW.lt
  have hW' := hW
  obtain ⟨p, q, hA, hV, rfl, hfz, hnd⟩ := hW
  rw [hs] at hV
  obtain ⟨rfl, rfl⟩ := trodVars_none hV
  refine ⟨ds, [], p ++ [], [], p, [], hW', ?_, ?_, ?_, hb.frame _, fun h => by cases h⟩
  · rw [hfn.1, hres]
    exact trodAll_mk1 (shut_bool Try.underlying4 _)
  · rw [hfn.2.1]
    exact trodAll_stays hb _ hts hA fun x hx => hlt x (List.mem_append_left _ hx)
  · rw [hfn.2.2, hs]; rfl

theorem cells_u8 : Try.prog.cellsOf 5 = 1 := by kernel_rfl
theorem len_le_bulk {H : Type} : ∀ (l : List (DataW H)), l.length ≤ Rows.uptoBulkAll l
  | [] => by simp [Rows.uptoBulkAll]
  | x :: r => by
    have h1 : 1 ≤ Rows.uptoBulk x := by
      cases x with
      | lit l => cases l <;> simp [Rows.uptoBulk]
      | nil => simp [Rows.uptoBulk]
      | ptr d => simp [Rows.uptoBulk]
      | slice elems spare => simp [Rows.uptoBulk]
      | agg parts => simp [Rows.uptoBulk]
      | iface t d => simp [Rows.uptoBulk]
      | map entries => simp [Rows.uptoBulk]
      | held h => simp [Rows.uptoBulk]
    have := len_le_bulk r
    simp only [Rows.uptoBulkAll, List.length_cons]; omega

theorem open_bs0 {H : Type} {enc : TypeId × Value → H} {W : World} {base fuel : Nat} {sp : Nat → Bool} {held : Bool} {cs : List Value} {x : DataW H × List MemPlace} (hf : DataW.trod enc Try.prog W base sp held fuel 30 cs = some x) :
    ∃ A cap l, cs = [.slice A l.length cap] ∧ Bs W W.heap.size A cap l ∧ l.length ≤ Rows.uptoBulk x.1 ∧ (l = [] ∨ ∃ es ss, x.1 = .slice es ss ∧ es.length = l.length) := by
  rcases open_ints Try.underlying30 Try.underlying5 cells_u8 hf with ⟨hcs, hx⟩ | ⟨a, len, cap, zs, hcs, _, hl, hm, hz, hx, hcell, hwz⟩
  · subst hcs hx
    exact ⟨none, 0, [], rfl, ⟨Nat.le_refl _, Nat.zero_le _, fun _ => rfl, fun h => absurd h (by simp)⟩, by simp, .inl rfl⟩
  · subst hcs hx
    have hzl : len ≤ zs.length := by rw [hz]; split <;> omega
    have hll : ((zs.take len).map fun n => UInt8.ofNat n.toNat).length = len := by simp; omega
    refine ⟨some a, cap, (zs.take len).map fun n => UInt8.ofNat n.toNat, by rw [hll], ⟨by rw [hll]; exact hl, hm, (fun h => by cases h), fun hn => ⟨a, rfl, ?_, fun k c hk => ?_⟩⟩, ?_, .inr ⟨_, _, rfl, by simp [lits]⟩⟩
    · rw [hll] at hn
      have := World.block_lt_of_cell? W _ (hcell 0 (by omega))
      rwa [block_of_add] at this
    · simp only [List.getElem?_map, List.getElem?_take, Option.map_eq_some_iff] at hk
      obtain ⟨n, hn, rfl⟩ := hk
      split at hn
      · have hkz := (List.getElem?_eq_some_iff.1 hn).1
        have hnz : n ∈ zs := List.mem_of_getElem? hn
        have hb : 0 ≤ n ∧ n ≤ 255 := by simpa [Lit.wf, IntKind.min, IntKind.max, IntKind.signed, IntKind.bits] using hwz n hnz
        rw [hcell k hkz]
        have : zs.getD k 0 = n := by simp [List.getD, hn]
        rw [this]
        have : ((UInt8.ofNat n.toNat).toNat : Int) = n := by simp; omega
        rw [this]
      · cases hn
    · rw [hll]
      have := len_le_bulk (lits (H := H) .u8 (zs.take len))
      simp only [Rows.uptoBulk]
      have e : (lits (H := H) .u8 (zs.take len)).length = len := by simp [lits]; omega
      omega
set_option maxRecDepth 100000 in
theorem open_bs {H : Type} {enc : TypeId × Value → H} {W : World} {base : Nat} {v : Value} {d : DataW H} {p : List MemPlace}
    (hv : Value.okWide Try.prog W .any base 30 v) (h : DataW.Trod enc Try.prog W 0 (fun _ => true) true 30 v d p) :
    ∃ A cap l, v = .slice A l.length cap ∧ Bs W W.heap.size A cap l ∧ l.length ≤ Rows.uptoBulk d ∧ (l = [] ∨ ∃ es sp, d = .slice es sp ∧ es.length = l.length) := by
  obtain ⟨a1, len, cap, rfl⟩ := okWide_slice Try.underlying30 hv
  obtain ⟨fuel, hf⟩ := h
  obtain ⟨A, cap', l, hcs, hb, hk, hd⟩ := open_bs0 hf
  simp [Value.cells] at hcs
  obtain ⟨rfl, rfl, rfl⟩ := hcs
  exact ⟨_, _, l, rfl, hb, hk, hd⟩
end Go.Proofs.Ytpckbbjlihhpdaa
namespace Go.Proofs.Ytpckbbjlihhpdaa
open Go.ChangeShapes Go.WideShapes Go.ChangeAt Go.RowKit Go.Deep Go.Joins

structure Op7 where
  k : Int
  n : Int
  p : List UInt8
  ks : List Int
instance : Inhabited Op7 := ⟨⟨0, 0, [], []⟩⟩
/-- The slice at A with capacity cap reads as the steps os, in memory below block K. -/
structure Os7 (w : World) (K : Nat) (A : Option Addr) (cap : Nat) (os : List Op7) : Prop where
  le : os.length ≤ cap
  max : cap ≤ maxLen
  nil : A = none → cap = 0
  at_ : 0 < os.length → ∃ ad : Addr, A = some ad ∧ ad.block < K ∧ ∀ (i : Nat) (o : Op7), os[i]? = some o → w.cell? (ad.add (i * 4)) = some (.int .i64 o.k) ∧ w.cell? (ad.add (i * 4 + 1)) = some (.int .i64 o.n) ∧ (-9223372036854775808 ≤ o.n ∧ o.n ≤ 9223372036854775807) ∧
    (∃ A' c', w.cell? (ad.add (i * 4 + 2)) = some (.slice A' o.p.length c') ∧ Bs w K A' c' o.p) ∧ ∃ A' c', w.cell? (ad.add (i * 4 + 3)) = some (.slice A' o.ks.length c') ∧ Sr encI 1 w K A' c' o.ks

section
variable {w w' : World} {K K' cap : Nat} {A : Option Addr} {os : List Op7}
theorem Os7.keep (h : Os7 w K A cap os) (hk : ∀ p : Addr, p.block < K → w'.cell? p = w.cell? p) : Os7 w' K A cap os :=
  ⟨h.le, h.max, h.nil, fun hn => by
    obtain ⟨ad, e, hb, hc⟩ := h.at_ hn
    refine ⟨ad, e, hb, fun i o hi => ?_⟩
    obtain ⟨h1, h2, h3, ⟨A', c', h4, h5⟩, A2, c2, h6, h7⟩ := hc i o hi
    have hk' := fun j => hk (ad.add j) (by rw [block_of_add]; exact hb)
    exact ⟨(hk' _).trans h1, (hk' _).trans h2, h3, ⟨A', c', (hk' _).trans h4, h5.keep hk⟩, A2, c2, (hk' _).trans h6, h7.keep hk⟩⟩
theorem Os7.below (h : Os7 w K A cap os) (hb : Below K w w') : Os7 w' K A cap os := h.keep fun _ hp => hb.cell hp
/-- The step's cells as the walk spells them. -/
structure At7 (w : World) (K : Nat) (ad : Addr) (o : Op7) (A1 : Option Addr) (c1 : Nat) (A2 : Option Addr) (c2 : Nat) : Prop where
  lt : ad.block < K
  x0 : w.cell? ad = some (.int .i64 o.k)
  x1 : w.cell? ⟨ad.block, ad.off + 1, none⟩ = some (.int .i64 o.n)
  x2 : w.cell? ⟨ad.block, ad.off + 2, none⟩ = some (.slice A1 o.p.length c1)
  x3 : w.cell? ⟨ad.block, ad.off + 3, none⟩ = some (.slice A2 o.ks.length c2)
  n1 : -9223372036854775808 ≤ o.n
  n2 : o.n ≤ 9223372036854775807
  bs : Bs w K A1 c1 o.p
  sr : Sr encI 1 w K A2 c2 o.ks
theorem Os7.get (h : Os7 w K A cap os) {i : Nat} {o : Op7} (hi : os[i]? = some o) : ∃ ad A1 c1 A2 c2, A = some ad ∧ At7 w K (ad.add (i * 4)) o A1 c1 A2 c2 := by
  have hil := (List.getElem?_eq_some_iff.1 hi).1
  obtain ⟨ad, e, hb, hc⟩ := h.at_ (by omega)
  obtain ⟨h1, h2, h3, ⟨A1, c1, h4, h5⟩, A2, c2, h6, h7⟩ := hc i o hi
  refine ⟨ad, A1, c1, A2, c2, e, ⟨by rw [block_of_add]; exact hb, h1, ?_, ?_, ?_, h3.1, h3.2, h5, h7⟩⟩
  · rw [← el_add_pos _ _ (by decide), el_add_of_add]; exact h2
  · rw [← el_add_pos _ _ (by decide), el_add_of_add]; exact h4
  · rw [← el_add_pos _ _ (by decide), el_add_of_add]; exact h6
end

theorem cells_op7 : Try.prog.cellsOf 33 = 4 := by kernel_rfl
theorem cells_int : Try.prog.cellsOf 3 = 1 := by kernel_rfl
theorem cells_isl : Try.prog.cellsOf 31 = 1 := by kernel_rfl
theorem cells_bsl : Try.prog.cellsOf 30 = 1 := by kernel_rfl
theorem open_isr0 {H : Type} {enc : TypeId × Value → H} {W : World} {base fuel : Nat} {sp : Nat → Bool} {held : Bool} {cs : List Value} {x : DataW H × List MemPlace} (hf : DataW.trod enc Try.prog W base sp held fuel 31 cs = some x) :
    ∃ A cap l, cs = [.slice A l.length cap] ∧ Sr encI 1 W W.heap.size A cap l := by
  rcases open_ints Try.underlying31 Try.underlying3 cells_int hf with ⟨hcs, hx⟩ | ⟨a, len, cap, zs, hcs, _, hl, hm, hz, hx, hcell, hwz⟩
  · subst hcs
    exact ⟨none, 0, [], rfl, Sr.none_ _ _⟩
  · subst hcs
    have hzl : len ≤ zs.length := by rw [hz]; split <;> omega
    have hll : (zs.take len).length = len := by simp; omega
    refine ⟨some a, cap, zs.take len, by rw [hll], ⟨by rw [hll]; exact hl, hm, (fun h => by cases h), fun hn => ⟨a, rfl, ?_, fun i x hk j u hu => ?_⟩⟩⟩
    · rw [hll] at hn
      have := World.block_lt_of_cell? W _ (hcell 0 (by omega))
      rwa [el_block_of_add] at this
    · rw [List.getElem?_take] at hk
      split at hk
      · have hkz := (List.getElem?_eq_some_iff.1 hk).1
        obtain rfl : j = 0 := by
          have := (List.getElem?_eq_some_iff.1 hu).1
          rw [encI_len] at this; omega
        have : zs.getD i 0 = x := by simp [List.getD, hk]
        rw [Nat.mul_one, Nat.add_zero, hcell i hkz, this]
        exact hu
      · cases hk
set_option maxRecDepth 100000 in
theorem open_isr {H : Type} {enc : TypeId × Value → H} {W : World} {base : Nat} {v : Value} {d : DataW H} {p : List MemPlace}
    (hv : Value.okWide Try.prog W .any base 31 v) (h : DataW.Trod enc Try.prog W 0 (fun _ => true) true 31 v d p) :
    ∃ A cap l, v = .slice A l.length cap ∧ Sr encI 1 W W.heap.size A cap l := by
  obtain ⟨a1, n, cap, rfl⟩ := okWide_slice Try.underlying31 hv
  obtain ⟨fuel, hf⟩ := h
  obtain ⟨A, cap', l, hcs, hb⟩ := open_isr0 hf
  simp [Value.cells] at hcs
  obtain ⟨rfl, rfl, rfl⟩ := hcs
  exact ⟨_, _, l, rfl, hb⟩
/-- One step's cells, opened. -/
theorem open_op7 {H : Type} {enc : TypeId × Value → H} {W : World} {base fuel : Nat} {sp : Nat → Bool} {held : Bool} {u0 u1 u2 u3 : Value} {x : DataW H × List MemPlace} (ht : DataW.trod enc Try.prog W base sp held fuel 33 [u0, u1, u2, u3] = some x) :
    ∃ (o : Op7) (A1 : Option Addr) (c1 : Nat) (A2 : Option Addr) (c2 : Nat), u0 = .int .i64 o.k ∧ u1 = .int .i64 o.n ∧ (-9223372036854775808 ≤ o.n ∧ o.n ≤ 9223372036854775807) ∧ u2 = .slice A1 o.p.length c1 ∧ Bs W W.heap.size A1 c1 o.p ∧ u3 = .slice A2 o.ks.length c2 ∧ Sr encI 1 W W.heap.size A2 c2 o.ks := by
  obtain ⟨y0, y1, y2, y3, n, _, _, g0, g1, g2, g3⟩ := trod_struct4 Try.underlying33 ht
  simp only [cells_int, cells_isl, cells_bsl, List.drop_zero, List.take_succ_cons, List.take_zero, List.drop_succ_cons] at g0 g1 g2 g3
  obtain ⟨a, e0, _, _⟩ := DataW.trod_int Try.underlying3 g0
  obtain ⟨c, e1, _, iw⟩ := DataW.trod_int Try.underlying3 g1
  obtain ⟨A1, c1, l1, e2, hb, _⟩ := open_bs0 g2
  obtain ⟨A2, c2, l2, e3, hs⟩ := open_isr0 g3
  simp at e0 e1 e2 e3
  subst e0 e1 e2 e3
  have ir : -9223372036854775808 ≤ c ∧ c ≤ 9223372036854775807 := by simpa [Lit.wf, IntKind.min, IntKind.max, IntKind.signed, IntKind.bits] using iw
  exact ⟨⟨a, c, l1, l2⟩, A1, c1, A2, c2, rfl, rfl, ir, rfl, hb, rfl, hs⟩
set_option maxRecDepth 100000 in
theorem open_ops7 {H : Type} {enc : TypeId × Value → H} {W : World} {base : Nat} {v : Value} {d : DataW H} {p : List MemPlace}
    (hv : Value.okWide Try.prog W .any base 22 v) (h : DataW.Trod enc Try.prog W 0 (fun _ => true) true 22 v d p) :
    ∃ A cap os, v = .slice A os.length cap ∧ Os7 W W.heap.size A cap os := by
  obtain ⟨a1, len, cap, rfl⟩ := okWide_slice Try.underlying22 hv
  obtain ⟨fuel, hf⟩ := h
  rcases open_slice Try.underlying22 hf with ⟨hcs, hx⟩ | ⟨a, len', cap', m, n, D, Pl, hcs, _, hl, hmx, hmm, hx, hi⟩
  · simp [Value.cells] at hcs
    obtain ⟨rfl, rfl, rfl⟩ := hcs
    exact ⟨none, 0, [], rfl, ⟨Nat.le_refl _, Nat.zero_le _, fun _ => rfl, fun h => absurd h (by simp)⟩⟩
  · simp [Value.cells] at hcs
    obtain ⟨rfl, rfl, rfl⟩ := hcs
    have hlm : len ≤ m := by rw [hmm]; split <;> omega
    have each : ∀ i, i < len → ∃ x : Op7, W.cell? (a.add (i * 4)) = some (.int .i64 x.k) ∧ W.cell? (a.add (i * 4 + 1)) = some (.int .i64 x.n) ∧ (-9223372036854775808 ≤ x.n ∧ x.n ≤ 9223372036854775807) ∧
        (∃ A' c', W.cell? (a.add (i * 4 + 2)) = some (.slice A' x.p.length c') ∧ Bs W W.heap.size A' c' x.p) ∧ ∃ A' c', W.cell? (a.add (i * 4 + 3)) = some (.slice A' x.ks.length c') ∧ Sr encI 1 W W.heap.size A' c' x.ks := fun i hil => by
      obtain ⟨cs', hc, ht⟩ := hi i (by omega)
      rw [cells_op7] at hc
      obtain ⟨_, hcl, hat⟩ := World.cells?_some hc
      match cs', hcl with
      | [u0, u1, u2, u3], _ =>
        obtain ⟨x, A1, c1, A2, c2, rfl, rfl, hn, rfl, hb, rfl, hs⟩ := open_op7 ht
        have h0 := hat 0 (by omega)
        have h1 := hat 1 (by omega)
        have h2 := hat 2 (by omega)
        have h3 := hat 3 (by omega)
        rw [Go.Deep.add_add] at h0 h1 h2 h3
        rw [Nat.add_zero] at h0
        exact ⟨x, h0, h1, hn, ⟨A1, c1, h2, hb⟩, A2, c2, h3, hs⟩
    obtain ⟨f, hf'⟩ := choose_lt each
    have hll : ((List.range len).map f).length = len := by simp
    refine ⟨some a, cap, (List.range len).map f, by rw [hll], ⟨by rw [hll]; exact hl, hmx, (fun h => by cases h), fun hn => ⟨a, rfl, ?_, fun i m hk => ?_⟩⟩⟩
    · rw [hll] at hn
      have := World.block_lt_of_cell? W _ (hf' 0 hn).1
      rwa [block_of_add] at this
    · simp only [List.getElem?_map, Option.map_eq_some_iff] at hk
      obtain ⟨j, hj, he⟩ := hk
      obtain ⟨hj1, hj2⟩ := List.getElem?_eq_some_iff.1 hj
      simp at hj1 hj2
      subst hj2
      have := hf' i hj1
      rw [he] at this
      exact this
end Go.Proofs.Ytpckbbjlihhpdaa
namespace Go.Proofs.Ytpckbbjlihhpdaa
open Go.ChangeShapes Go.WideShapes Go.ChangeAt Go.RowKit Go.Deep Go.Joins

/-- Each slice of a datum takes at most what memory holds. -/
def Sz {H : Type} (t : TypeId) (d : DataW H) : Prop := (DataW.weights Try.prog t d).all (· ≤ reachBytes) = true
theorem bytes_int : Try.prog.bytesOf 3 = 8 := by kernel_rfl
theorem sz_all {H : Type} {P : Program} {e : TypeId} {p : Nat → Bool} : ∀ {l : List (DataW H)}, (DataW.weightsAll P e l).all p = true → ∀ x ∈ l, (DataW.weights P e x).all p = true
  | [], _, _, hx => by cases hx
  | y :: r, h, x, hx => by
    rw [DataW.weightsAll, List.all_append, Bool.and_eq_true] at h
    rcases List.mem_cons.1 hx with rfl | hx
    · exact h.1
    · exact sz_all h.2 x hx
theorem sz_ints {H : Type} {zs : List Int} {n : Nat} (h : Sz (H := H) 31 (.slice (lits .i64 (zs.take n)) (lits .i64 (zs.drop n)))) : zs.length * 8 ≤ 140737488351232 := by
  unfold Sz at h
  simp only [DataW.weights, Try.underlying31, bytes_int, List.all_cons, Bool.and_eq_true, decide_eq_true_eq] at h
  have h1 := h.1
  unfold reachBytes at h1
  simp only [lits, List.length_map, List.length_take, List.length_drop] at h1
  omega
theorem sz_op {H : Type} {d0 d1 d2 d3 : DataW H} (h : Sz 33 (.agg [d0, d1, d2, d3])) : Sz 31 d3 := by
  unfold Sz at h ⊢
  simp only [DataW.weights, Try.underlying33, List.map_cons, List.map_nil, DataW.weightsEach, List.all_append, Bool.and_eq_true] at h
  exact h.2.2.2.1
theorem sz_mem {H : Type} {es sp : List (DataW H)} (h : Sz 22 (.slice es sp)) : ∀ x ∈ es, Sz 33 x := by
  unfold Sz at h
  simp only [DataW.weights, Try.underlying22, List.all_cons, List.all_append, Bool.and_eq_true] at h
  exact sz_all h.2.1
theorem open_isr0z {H : Type} {enc : TypeId × Value → H} {W : World} {base fuel : Nat} {sp : Nat → Bool} {held : Bool} {cs : List Value} {x : DataW H × List MemPlace} (hf : DataW.trod enc Try.prog W base sp held fuel 31 cs = some x) :
    ∃ A cap l, cs = [.slice A l.length cap] ∧ Sr encI 1 W W.heap.size A cap l ∧ (Sz 31 x.1 → l.length * 8 ≤ 140737488351232) := by
  rcases open_ints Try.underlying31 Try.underlying3 cells_int hf with ⟨hcs, hx⟩ | ⟨a, len, cap, zs, hcs, _, hl, hm, hz, hx, hcell, hwz⟩
  · subst hcs
    exact ⟨none, 0, [], rfl, Sr.none_ _ _, fun _ => by simp⟩
  · subst hcs
    have hzl : len ≤ zs.length := by rw [hz]; split <;> omega
    have hll : (zs.take len).length = len := by simp; omega
    refine ⟨some a, cap, zs.take len, by rw [hll], ⟨by rw [hll]; exact hl, hm, (fun h => by cases h), fun hn => ⟨a, rfl, ?_, fun i x hk j u hu => ?_⟩⟩, fun hs => ?_⟩
    · rw [hll] at hn
      have := World.block_lt_of_cell? W _ (hcell 0 (by omega))
      rwa [el_block_of_add] at this
    · rw [List.getElem?_take] at hk
      split at hk
      · have hkz := (List.getElem?_eq_some_iff.1 hk).1
        obtain rfl : j = 0 := by
          have := (List.getElem?_eq_some_iff.1 hu).1
          rw [encI_len] at this; omega
        have : zs.getD i 0 = x := by simp [List.getD, hk]
        rw [Nat.mul_one, Nat.add_zero, hcell i hkz, this]
        exact hu
      · cases hk
    · rw [hx] at hs
      have h1 := sz_ints hs
      omega
/-- One step's cells, opened. -/
theorem open_op7z {H : Type} {enc : TypeId × Value → H} {W : World} {base fuel : Nat} {sp : Nat → Bool} {held : Bool} {u0 u1 u2 u3 : Value} {x : DataW H × List MemPlace} (ht : DataW.trod enc Try.prog W base sp held fuel 33 [u0, u1, u2, u3] = some x) :
    ∃ (o : Op7) (A1 : Option Addr) (c1 : Nat) (A2 : Option Addr) (c2 : Nat), u0 = .int .i64 o.k ∧ u1 = .int .i64 o.n ∧ (-9223372036854775808 ≤ o.n ∧ o.n ≤ 9223372036854775807) ∧ u2 = .slice A1 o.p.length c1 ∧ Bs W W.heap.size A1 c1 o.p ∧ u3 = .slice A2 o.ks.length c2 ∧ Sr encI 1 W W.heap.size A2 c2 o.ks ∧ (Sz 33 x.1 → o.ks.length * 8 ≤ 140737488351232) := by
  obtain ⟨y0, y1, y2, y3, n, hx, _, g0, g1, g2, g3⟩ := trod_struct4 Try.underlying33 ht
  simp only [cells_int, cells_isl, cells_bsl, List.drop_zero, List.take_succ_cons, List.take_zero, List.drop_succ_cons] at g0 g1 g2 g3
  obtain ⟨a, e0, _, _⟩ := DataW.trod_int Try.underlying3 g0
  obtain ⟨c, e1, _, iw⟩ := DataW.trod_int Try.underlying3 g1
  obtain ⟨A1, c1, l1, e2, hb, _⟩ := open_bs0 g2
  obtain ⟨A2, c2, l2, e3, hs, hz⟩ := open_isr0z g3
  simp at e0 e1 e2 e3
  subst e0 e1 e2 e3
  have ir : -9223372036854775808 ≤ c ∧ c ≤ 9223372036854775807 := by simpa [Lit.wf, IntKind.min, IntKind.max, IntKind.signed, IntKind.bits] using iw
  exact ⟨⟨a, c, l1, l2⟩, A1, c1, A2, c2, rfl, rfl, ir, rfl, hb, rfl, hs, fun h => hz (sz_op (by rw [hx] at h; exact h))⟩
set_option maxRecDepth 100000 in
theorem open_ops7z {H : Type} {enc : TypeId × Value → H} {W : World} {base : Nat} {v : Value} {d : DataW H} {p : List MemPlace}
    (hv : Value.okWide Try.prog W .any base 22 v) (h : DataW.Trod enc Try.prog W 0 (fun _ => true) true 22 v d p) :
    ∃ A cap os, v = .slice A os.length cap ∧ Os7 W W.heap.size A cap os ∧ (Sz 22 d → ∀ o ∈ os, o.ks.length * 8 ≤ 140737488351232) := by
  obtain ⟨a1, len, cap, rfl⟩ := okWide_slice Try.underlying22 hv
  obtain ⟨fuel, hf⟩ := h
  rcases open_slice Try.underlying22 hf with ⟨hcs, hx⟩ | ⟨a, len', cap', m, n, D, Pl, hcs, _, hl, hmx, hmm, hx, hi⟩
  · simp [Value.cells] at hcs
    obtain ⟨rfl, rfl, rfl⟩ := hcs
    exact ⟨none, 0, [], rfl, ⟨Nat.le_refl _, Nat.zero_le _, fun _ => rfl, fun h => absurd h (by simp)⟩, fun _ o ho => by cases ho⟩
  · simp [Value.cells] at hcs
    obtain ⟨rfl, rfl, rfl⟩ := hcs
    have hlm : len ≤ m := by rw [hmm]; split <;> omega
    have each : ∀ i, i < len → ∃ x : Op7, (W.cell? (a.add (i * 4)) = some (.int .i64 x.k) ∧ W.cell? (a.add (i * 4 + 1)) = some (.int .i64 x.n) ∧ (-9223372036854775808 ≤ x.n ∧ x.n ≤ 9223372036854775807) ∧
        (∃ A' c', W.cell? (a.add (i * 4 + 2)) = some (.slice A' x.p.length c') ∧ Bs W W.heap.size A' c' x.p) ∧ ∃ A' c', W.cell? (a.add (i * 4 + 3)) = some (.slice A' x.ks.length c') ∧ Sr encI 1 W W.heap.size A' c' x.ks) ∧ (Sz 33 (D i) → x.ks.length * 8 ≤ 140737488351232) := fun i hil => by
      obtain ⟨cs', hc, ht⟩ := hi i (by omega)
      rw [cells_op7] at hc
      obtain ⟨_, hcl, hat⟩ := World.cells?_some hc
      match cs', hcl with
      | [u0, u1, u2, u3], _ =>
        obtain ⟨x, A1, c1, A2, c2, rfl, rfl, hn, rfl, hb, rfl, hs, hz⟩ := open_op7z ht
        have h0 := hat 0 (by omega)
        have h1 := hat 1 (by omega)
        have h2 := hat 2 (by omega)
        have h3 := hat 3 (by omega)
        rw [Go.Deep.add_add] at h0 h1 h2 h3
        rw [Nat.add_zero] at h0
        exact ⟨x, ⟨h0, h1, hn, ⟨A1, c1, h2, hb⟩, A2, c2, h3, hs⟩, hz⟩
    obtain ⟨f, hf'⟩ := choose_lt each
    have hll : ((List.range len).map f).length = len := by simp
    refine ⟨some a, cap, (List.range len).map f, by rw [hll], ⟨by rw [hll]; exact hl, hmx, (fun h => by cases h), fun hn => ⟨a, rfl, ?_, fun i m hk => ?_⟩⟩, fun hs o ho => ?_⟩
    · rw [hll] at hn
      have := World.block_lt_of_cell? W _ (hf' 0 hn).1.1
      rwa [block_of_add] at this
    · simp only [List.getElem?_map, Option.map_eq_some_iff] at hk
      obtain ⟨j, hj, he⟩ := hk
      obtain ⟨hj1, hj2⟩ := List.getElem?_eq_some_iff.1 hj
      simp at hj1 hj2
      subst hj2
      have := (hf' i hj1).1
      rw [he] at this
      exact this
    · obtain ⟨i, hi1, rfl⟩ := List.mem_map.1 ho
      rw [List.mem_range] at hi1
      refine (hf' i hi1).2 (sz_mem (by have hd := congrArg Prod.fst hx; simp only at hd; rw [hd] at hs; exact hs) (D i) (List.mem_map.2 ⟨i, List.mem_range.2 hi1, rfl⟩))
end Go.Proofs.Ytpckbbjlihhpdaa
namespace Go.Proofs.Ytpckbbjlihhpdaa
open Go.RowKit

/-- Bytes in new memory. -/
def NewB (w : World) (l : List UInt8) (e : Ending) (w' : World) : Prop := ∃ A c, e = .returned (.slice A l.length c) ∧ Ob w' w.heap.size (.slice A l.length c) l ∧ Below w.heap.size w w'
/-- A value as it is, or a slice of the call's own that holds these bytes. -/
def Hb (w : World) : Value ⊕ List UInt8 → Value → World → Prop
  | .inl x, v, _ => v = x
  | .inr l, v, wx => ∃ A c, v = .slice A l.length c ∧ Ob wx w.heap.size (.slice A l.length c) l
theorem Hb.mono {w : World} {p : Value ⊕ List UInt8} {v : Value} {wx w1 : World} (h : Hb w p v wx) (hb : Below wx.heap.size wx w1) : Hb w p v w1 := by
  cases p with
  | inl x => exact h
  | inr l => obtain ⟨A, c, e, ho⟩ := h; exact ⟨A, c, e, ho.below hb⟩
end Go.Proofs.Ytpckbbjlihhpdaa
namespace Go.Proofs.Ytpckbbjlihhpdaa
open Go.RowKit

theorem sum_mem {x : As} {L : List As} (h : x ∈ L) : x.b.length ≤ sumA L := by
  obtain ⟨T, R, rfl⟩ := List.append_of_mem h
  rw [sumA_append]
  simp only [sumA]
  omega
theorem so_addr {w : World} {K n cap : Nat} {T : TypeId} {A : Option Addr} {l : List Int} (h : So encI 1 w K T (.slice A n cap) l) (hl : 0 < l.length) : ∃ g, A = some ⟨g, 0, none⟩ := by
  rcases h.2 with ⟨_, h0⟩ | ⟨g, cap', cur, he, _⟩
  · omega
  · injection he with h1 _ _
    exact ⟨g, h1⟩
theorem so_slot {w : World} {K n cap h i : Nat} {T : TypeId} {l : List Int} {x : Int} (so : So encI 1 w K T (.slice (some ⟨h, 0, none⟩) n cap) l) (hi : l[i]? = some x) : w.cell? ⟨h, i, none⟩ = some (.int .i64 x) := by
  have h1 := World.ownsRow.cells (g := h) so rfl _ _ (flatMap_get encI_len l i x hi 0 (.int .i64 x) rfl)
  have e : (⟨h, 0, none⟩ : Addr).add (i * 1 + 0) = ⟨h, i, none⟩ := by unfold Addr.add; split <;> simp_all
  rwa [e] at h1
section
variable {w wx : World} {B : Nat → Prop} {d : Nat} {a : Ad} {room fuse : Int} {L : List As}
theorem segs_DD (h : DD wx B d a) (hd : a.down = false) : Calls Try.prog 34 #[dP d] wx fun e w' => ∃ v, e = .returned (.tuple #[v, .int .i64 0]) ∧ So encI 1 w' wx.heap.size 3 v (a.L.map As.n) ∧ Below wx.heap.size wx w' := by
  obtain ⟨K, mb, M, D, e, _⟩ := h.ex
  have hl : M.length ≤ 1024 := by have := h.ln; rw [← e, List.length_map] at this; exact this
  rw [hd] at D
  have e2 : M.map Sg.n = a.L.map As.n := by rw [← e, List.map_map]; rfl
  rw [← e2]
  exact segs_ok D hl
theorem segs_DDn (h : DD wx B d ⟨room, fuse, true, L⟩) : Calls Try.prog 34 #[dP d] wx fun e w' => e = .returned (.tuple #[.slice none 0 0, .int .i64 5]) ∧ w' = wx := by
  obtain ⟨K, mb, M, D, e, _⟩ := h.ex
  exact segs_down D
theorem own_block {k : Nat} {ad : Addr} {K n c : Nat} {l : List UInt8} {A9 : Option Addr} (ho : Ob wx K (.slice A9 n c) l) (hl : 0 < l.length) (e : A9 = some ad) (ek : ad.block = k) : K ≤ k ∧ (Value.slice A9 n c).ownBlock = some k := by
  have hn := ho.bs.2
  obtain ⟨g', e', h1, h2⟩ := ho.addr (by omega)
  rw [e'] at e
  cases e
  subst ek
  refine ⟨h1, ?_⟩
  rw [e']
  rfl
end
end Go.Proofs.Ytpckbbjlihhpdaa
namespace Go.Proofs.Ytpckbbjlihhpdaa
open Go.RowKit

section
variable {P : Program} {Q : Exit → Act → World → Prop}

/-- What every operation left, put into its slot, in the text's order. -/
def putAll (vs : Nat → Value) : Nat → List Oper → Act → Act
  | _, [], a => a
  | k, o :: os, a => putAll vs (k + 1) os (a.put o.dst (vs k))
/-- The last operation that writes a slot. -/
def owner : List Oper → Tmp → Option Nat
  | [], _ => none
  | o :: os, t => match owner os t with
    | some j => some (j + 1)
    | none => if o.dst = some t then some 0 else none

theorem put_size (a : Act) (d : Option Tmp) (v : Value) : (a.put d v).tmps.size = a.tmps.size := by
  cases d <;> simp [Act.put]
theorem put_defers (a : Act) (d : Option Tmp) (v : Value) : (a.put d v).defers = a.defers := by
  cases d <;> rfl
theorem putAll_size (vs : Nat → Value) : ∀ (os : List Oper) (k : Nat) (a : Act), (putAll vs k os a).tmps.size = a.tmps.size
  | [], _, _ => rfl
  | _ :: os, k, _ => (putAll_size vs os (k + 1) _).trans (put_size _ _ _)
theorem putAll_defers (vs : Nat → Value) : ∀ (os : List Oper) (k : Nat) (a : Act), (putAll vs k os a).defers = a.defers
  | [], _, _ => rfl
  | _ :: os, k, _ => (putAll_defers vs os (k + 1) _).trans (put_defers _ _ _)
theorem putAll_get (vs : Nat → Value) (t : Tmp) : ∀ (os : List Oper) (k : Nat) (a : Act),
    (putAll vs k os a).tmps[t]? = match owner os t with | some j => (if t < a.tmps.size then some (vs (k + j)) else none) | none => a.tmps[t]?
  | [], _, _ => rfl
  | o :: os, k, a => by
    rw [putAll, putAll_get vs t os (k + 1)]
    simp only [owner]
    cases h : owner os t with
    | some j => simp only [put_size, show k + 1 + j = k + (j + 1) by omega]
    | none =>
      by_cases hd : o.dst = some t
      · simp only [hd, if_true, Act.put, Nat.add_zero, Array.getElem?_setIfInBounds]
      · simp only [hd, if_false]
        cases hd' : o.dst with
        | none => rfl
        | some d =>
          have hne : d ≠ t := fun e => hd (by rw [hd', e])
          simp [Act.put, Array.getElem?_setIfInBounds_ne hne]

/-- What the kernel reckons of a statement's operations: each slot has one writer, each waits for those that it looks at, and for earlier ones alone. -/
def fitsAt (ops : Array Oper) (i : Nat) (o : Oper) : Bool :=
  (match o.dst with | some d => owner ops.toList d == some i | none => true) &&
  ((o.looksAt ops).all fun t => match owner ops.toList t with | some j => o.after.any fun e => Region.binds .any e && e.on == j | none => true) &&
  (o.after.all fun e => !Region.binds .any e || Nat.blt e.on i) &&
  (match o.op with | .select _ _ => false | _ => true)
def fitsR (ops : Array Oper) : Bool := (List.range ops.size).all fun i => match ops[i]? with | some o => fitsAt ops i o | none => true

theorem fits_spec {ops : Array Oper} (h : fitsR ops = true) {i : Nat} {o : Oper} (hi : ops[i]? = some o) : fitsAt ops i o = true := by
  have hlt : i < ops.size := (Array.getElem?_eq_some_iff.1 hi).1
  have := List.all_eq_true.1 h i (List.mem_range.2 hlt)
  simpa [hi] using this

def updR {α : Type} (f : Nat → α) (i : Nat) (v : α) : Nat → α := fun j => if j = i then v else f j
theorem updR_same {α : Type} (f : Nat → α) (i : Nat) (v : α) : updR f i v i = v := by simp [updR]
theorem updR_ne {α : Type} (f : Nat → α) {i j : Nat} (v : α) (h : j ≠ i) : updR f i v j = f j := by simp [updR, h]

theorem put_alike {a b : Act} {d : Option Tmp} {u v : Value} (hs : a.tmps.size = b.tmps.size) (h : b.put d u = b.put d v) : a.put d u = a.put d v := by
  cases d with
  | none => rfl
  | some t =>
    by_cases ht : t < b.tmps.size
    · have := congrArg (fun x => x.tmps[t]?) h
      simp [Act.put, ht] at this
      rw [this]
    · have ht' : a.tmps.size ≤ t := hs ▸ Nat.le_of_not_lt ht
      simp [Act.put, Array.setIfInBounds_eq_of_size_le ht']

/-- One operation at one frame, and at another one that it can't tell from it. -/
theorem wp_alike {o : Oper} {a b : Act} {w : World} {K : Act → World → Prop} {Post : Value → World → Prop} (he : execOp a.eval o = execOp b.eval o)
    (hs : a.tmps.size = b.tmps.size) (hd : b.defers = a.defers) (hQ : ∀ c (x y : Act) w, x.defers = y.defers → Q (.panic c) x w → Q (.panic c) y w) (hK : ∀ v w', Post v w' → K (a.put o.dst v) w')
    (h : Oper.wp P o b w (fun a' w' => ∃ v, a' = b.put o.dst v ∧ Post v w') Q) : Oper.wp P o a w K Q := by
  have one : ∀ {u : Value} {w' : World}, (∃ v, b.put o.dst u = b.put o.dst v ∧ Post v w') → K (a.put o.dst u) w' := fun ⟨v, e, hp⟩ => by
    rw [put_alike hs e]; exact hK v _ hp
  unfold Oper.wp at *
  rw [he]
  generalize (execOp b.eval o).run P w = r at *
  cases r with
  | ok n w' =>
    cases n <;> simp only [Oper.upon] at h ⊢
    case value u => exact one h
    case skip => exact one h
    case defer d =>
      obtain ⟨v, e, _⟩ := h
      have := congrArg (fun x => x.defers.length) e
      simp [put_defers] at this
    case enter f args =>
      refine Calls.mono h fun e w'' he => ?_
      cases e with
      | returned u => exact one he
      | panicked c => exact hQ _ _ _ _ hd he
      | outgrown => exact he
    case row row args => exact Rows.mono h fun u w'' he => one he
  | halt x w' =>
    cases x <;> simp only [Oper.upon] at h ⊢
    case panic u => exact hQ _ _ _ _ hd h

/-- Two frames that an operation can't tell from one another: its operands and its guard's slot hold the same. -/
theorem eval_alike {a b : Act} {x : Operand} (h : ∀ t, x = .tmp t → a.tmps[t]? = b.tmps[t]?) : a.eval x = b.eval x := by
  cases x with
  | tmp t => simp only [Act.eval, Array.getD_eq_getD_getElem?, h t rfl]
  | _ => rfl
theorem exec_alike {ops : Array Oper} {a b : Act} {o : Oper} (hsel : ∀ cs d, o.op ≠ .select cs d) (h : ∀ t ∈ o.looksAt ops, a.tmps[t]? = b.tmps[t]?) : execOp a.eval o = execOp b.eval o :=
  execOp_congr o hsel fun x hx => eval_alike fun t ht => h t (by
    subst ht
    exact List.mem_append_left _ (List.mem_filterMap.2 ⟨.tmp t, by simpa using hx, rfl⟩))
theorem wanted_alike {ops : Array Oper} {a b : Act} {o : Oper} (h : ∀ t ∈ o.looksAt ops, a.tmps[t]? = b.tmps[t]?) : Region.wanted o (yielded ops a.tmps) = Region.wanted o (yielded ops b.tmps) := by
  unfold Region.wanted
  cases hg : o.guard with
  | none => rfl
  | some gw =>
    obtain ⟨g, want⟩ := gw
    have hy : yielded ops a.tmps g = yielded ops b.tmps g := by
      unfold yielded
      cases ht : (ops[g]?).bind (·.dst) with
      | none => rfl
      | some t => simp only [Option.bind_some, h t (by simp [Oper.looksAt, hg, ht])]
    simp only [hy]

/-- How many have not come up. -/
def todo (n : Nat) (listed : Array Bool) : Nat := (List.range n).countP fun i => !listed.getD i false
theorem todo_set {n i : Nat} {listed : Array Bool} (hn : i < n) (hs : listed.size = n) (h : listed.getD i true = false) : todo n (listed.setIfInBounds i true) + 1 ≤ todo n listed := by
  have h' : listed.getD i false = false := by
    have hi : i < listed.size := by omega
    simpa [hi] using h
  unfold todo
  have key : ∀ l : List Nat, i ∈ l → l.countP (fun k => !(listed.setIfInBounds i true).getD k false) + 1 ≤ l.countP fun k => !listed.getD k false := by
    have le : ∀ l : List Nat, l.countP (fun k => !(listed.setIfInBounds i true).getD k false) ≤ l.countP fun k => !listed.getD k false := fun l =>
      List.countP_mono_left fun k _ hk => by
        by_cases hik : i = k
        · subst hik
          simp [show i < listed.size by omega] at hk
        · rw [getD_set_ne false hik] at hk; exact hk
    intro l hl
    induction l with
    | nil => cases hl
    | cons x r ih =>
      rcases List.mem_cons.1 hl with rfl | hr
      · have h1 : (listed.setIfInBounds i true).getD i false = true := by simp [show i < listed.size by omega]
        have := le r
        rw [List.countP_cons, List.countP_cons, h1, h']
        simp only [Bool.not_true, Bool.not_false, Bool.false_eq_true, if_true, if_false, Nat.add_zero]
        omega
      · have := ih hr
        have l2 : (!(listed.setIfInBounds i true).getD x false) = true → (!listed.getD x false) = true := fun hk => by
          by_cases hik : i = x
          · subst hik; simp [show i < listed.size by omega] at hk
          · rw [getD_set_ne false hik] at hk; exact hk
        rw [List.countP_cons, List.countP_cons]
        split <;> split <;> simp_all <;> omega
  exact key _ (List.mem_range.2 hn)

theorem readyR_nil {ops : Array Oper} (hf : fitsR ops = true) {listed : Array Bool} (hs : listed.size = ops.size) (h : Region.ready .any ops listed = []) : ∀ i, i < ops.size → listed.getD i false = true := by
  intro i
  induction i using Nat.strongRecOn with
  | ind i ih =>
    intro hi
    by_cases hl : listed.getD i false = true
    · exact hl
    · exfalso
      have hi' : i < listed.size := by omega
      have ho : ops[i]? = some ops[i] := Array.getElem?_eq_getElem hi
      have hfit := fits_spec hf ho
      simp only [fitsAt, Bool.and_eq_true, Array.all_eq_true_iff_forall_mem] at hfit
      have : i ∈ Region.ready .any ops listed := mem_ready.2 ⟨by simpa [hi'] using hl, _, ho, fun e he hb => by
        have := hfit.1.2 e he
        simp [hb] at this
        have h2 : e.on < i := by simpa using this
        exact ih e.on h2 (Nat.lt_trans h2 hi)⟩
      rw [h] at this
      cases this

theorem any_of_inv {ops : Array Oper} (hf : fitsR ops = true) {a0 : Act} {F : (Nat → Value) → Act} (hF : ∀ vs, F vs = putAll vs 0 ops.toList a0)
    (hQ : ∀ c (x y : Act) w, x.defers = y.defers → Q (.panic c) x w → Q (.panic c) y w) (J : (Nat → Bool) → (Nat → Value) → World → Prop)
    (hstep : ∀ i o, ops[i]? = some o → ∀ l vs w, J l vs w → l i = false → (∀ e ∈ o.after, Region.binds .any e = true → l e.on = true) →
      ∀ K : Act → World → Prop, (∀ v w', J (updR l i true) (updR vs i v) w' → K ((F vs).put o.dst v) w') →
        if Region.wanted o (yielded ops (F vs).tmps) = true then Oper.wp P o (F vs) w K Q else K ((F vs).put o.dst undef) w)
    (hend : ∀ l vs w, (∀ i, i < ops.size → l i = true) → J l vs w → Q .normal (F vs) w) :
    ∀ (fuel : Nat) (listed : Array Bool) (vs : Nat → Value) (a : Act) (w : World), todo ops.size listed ≤ fuel → listed.size = ops.size →
      a.defers = a0.defers → a.tmps.size = a0.tmps.size → (∀ t, (∀ j, owner ops.toList t = some j → listed.getD j false = true) → a.tmps[t]? = (F vs).tmps[t]?) →
      J (fun j => listed.getD j false) vs w → wpAny P .any ops Q fuel listed a w := by
  have fin : ∀ (listed : Array Bool) (vs : Nat → Value) (a : Act) (w : World), listed.size = ops.size → a.defers = a0.defers →
      (∀ t, (∀ j, owner ops.toList t = some j → listed.getD j false = true) → a.tmps[t]? = (F vs).tmps[t]?) → J (fun j => listed.getD j false) vs w →
      Region.ready .any ops listed = [] → Q .normal a w := fun listed vs a w hs hd ha hJ hr => by
    have hall := readyR_nil hf hs hr
    have own_lt : ∀ (l : List Oper) t j, owner l t = some j → j < l.length := by
      intro l
      induction l with
      | nil => intro t j h; cases h
      | cons x r ih =>
        intro t j h
        simp only [owner] at h
        split at h
        · rename_i k hk; have := ih t k hk; simp at h; subst h; simp; omega
        · split at h
          · simp at h; subst h; simp
          · cases h
    have : a = F vs := by
      have ht : a.tmps = (F vs).tmps := Array.ext_getElem? fun t => ha t fun j hj => hall j (by simpa using own_lt _ t j hj)
      have hdd : a.defers = (F vs).defers := by rw [hF, putAll_defers]; exact hd
      cases a; cases hv : F vs; rw [hv] at ht hdd; simp at ht hdd; rw [ht, hdd]
    rw [this]
    exact hend _ vs w (fun i hi => hall i hi) hJ
  intro fuel
  induction fuel with
  | zero =>
    intro listed vs a w ht hs hd hsz ha hJ
    have hr : Region.ready .any ops listed = [] := by
      refine List.eq_nil_iff_forall_not_mem.2 fun i hi => ?_
      obtain ⟨h0, o, ho, _⟩ := mem_ready.1 hi
      have := todo_set (Array.getElem?_eq_some_iff.1 ho).1 hs h0
      omega
    exact ⟨hr, fin listed vs a w hs hd ha hJ hr⟩
  | succ fuel ih =>
    intro listed vs a w ht hs hd hsz ha hJ
    refine ⟨fin listed vs a w hs hd ha hJ, fun i hi => ?_⟩
    obtain ⟨h0, o, ho, hall⟩ := mem_ready.1 hi
    have hlt : i < ops.size := (Array.getElem?_eq_some_iff.1 ho).1
    have hfit := fits_spec hf ho
    simp only [fitsAt, Bool.and_eq_true, Array.all_eq_true_iff_forall_mem, List.all_eq_true] at hfit
    obtain ⟨⟨⟨hdst, hlook⟩, hback⟩, hsel⟩ := hfit
    have hfs : (F vs).tmps.size = a.tmps.size := by rw [hF, putAll_size]; exact hsz.symm
    have same : ∀ t ∈ o.looksAt ops, a.tmps[t]? = (F vs).tmps[t]? := fun t hlt => ha t fun j hj => by
      have := hlook t hlt
      rw [hj] at this
      simp only [Array.any_eq_true', Bool.and_eq_true, beq_iff_eq] at this
      obtain ⟨e, he, hb, heq⟩ := this
      rw [← heq]; exact hall e he hb
    have hsel' : ∀ cs d, o.op ≠ .select cs d := fun cs d h => by rw [h] at hsel; simp at hsel
    have hl : listed.getD i false = false := by
      have hi' : i < listed.size := by omega
      simpa [hi'] using h0
    have go := hstep i o ho (fun j => listed.getD j false) vs w hJ hl hall
    have next : ∀ v w', J (updR (fun j => listed.getD j false) i true) (updR vs i v) w' → wpAny P .any ops Q fuel (listed.setIfInBounds i true) (a.put o.dst v) w' := fun v w' hJ' => by
      refine ih _ (updR vs i v) _ w' (by have := todo_set hlt hs h0; omega) (by simpa using hs) (by rw [put_defers]; exact hd) (by rw [put_size]; exact hsz) (fun t hown => ?_) ?_
      · rw [hF, putAll_get]
        by_cases hdt : o.dst = some t
        · rw [hdt] at hdst
          simp only [beq_iff_eq] at hdst
          rw [hdst]
          simp only [Nat.zero_add, updR_same, hdt, Act.put, Array.getElem?_setIfInBounds, hsz]
          simp
        · have h1 : (a.put o.dst v).tmps[t]? = a.tmps[t]? := by
            cases hd' : o.dst with
            | none => rfl
            | some d =>
              have hne : d ≠ t := fun e => hdt (by rw [hd', e])
              simp [Act.put, Array.getElem?_setIfInBounds_ne hne]
          rw [h1, ha t (fun j hj => by
            have h2 := hown j hj
            by_cases hji : i = j
            · subst hji
              exfalso
              have own_dst : ∀ (l : List Oper) j, owner l t = some j → ∃ x, l[j]? = some x ∧ x.dst = some t := by
                intro l
                induction l with
                | nil => intro j h; cases h
                | cons x r ih2 =>
                  intro j h
                  simp only [owner] at h
                  split at h
                  · rename_i k hk; obtain ⟨y, hy, hyd⟩ := ih2 k hk; simp at h; subst h; exact ⟨y, by simpa using hy, hyd⟩
                  · split at h
                    · rename_i hx; simp at h; subst h; exact ⟨x, by simp, hx⟩
                    · cases h
              obtain ⟨x, hx, hxd⟩ := own_dst _ _ hj
              rw [Array.getElem?_toList, ho] at hx
              cases hx
              exact hdt hxd
            · rw [getD_set_ne false hji] at h2; exact h2), hF, putAll_get]
          cases hw : owner ops.toList t with
          | none => rfl
          | some j =>
            have hji : j ≠ i := fun e => by
              subst e
              have own_dst : ∀ (l : List Oper) j, owner l t = some j → ∃ x, l[j]? = some x ∧ x.dst = some t := by
                intro l
                induction l with
                | nil => intro j h; cases h
                | cons x r ih2 =>
                  intro j h
                  simp only [owner] at h
                  split at h
                  · rename_i k hk; obtain ⟨y, hy, hyd⟩ := ih2 k hk; simp at h; subst h; exact ⟨y, by simpa using hy, hyd⟩
                  · split at h
                    · rename_i hx; simp at h; subst h; exact ⟨x, by simp, hx⟩
                    · cases h
              obtain ⟨x, hx, hxd⟩ := own_dst _ _ hw
              rw [Array.getElem?_toList, ho] at hx
              cases hx
              exact hdt hxd
            simp only [Nat.zero_add, updR_ne vs v hji]
      · have : (fun j => (listed.setIfInBounds i true).getD j false) = updR (fun j => listed.getD j false) i true := by
          funext j
          by_cases hji : j = i
          · subst hji; simp [updR, show j < listed.size by omega]
          · rw [updR_ne _ _ hji, getD_set_ne false (Ne.symm hji)]
        rw [this]; exact hJ'
    unfold wpOp
    simp only [ho]
    rw [wanted_alike same]
    by_cases hw : Region.wanted o (yielded ops (F vs).tmps) = true
    · simp only [hw, if_true] at go ⊢
      exact .inl (wp_alike (Post := fun v w' => J (updR (fun j => listed.getD j false) i true) (updR vs i v) w') (exec_alike hsel' same) hfs.symm (by rw [hF, putAll_defers]; exact hd.symm) hQ next (go _ fun v w' hp => ⟨v, rfl, hp⟩))
    · have hw' : Region.wanted o (yielded ops (F vs).tmps) = false := by simpa using hw
      simp only [hw', Bool.false_eq_true, if_false] at go ⊢
      obtain ⟨v, e, hp⟩ := go (fun a' w' => ∃ v, a' = (F vs).put o.dst v ∧ J (updR (fun j => listed.getD j false) i true) (updR vs i v) w') fun v w' hp => ⟨v, rfl, hp⟩
      rw [put_alike hfs.symm e]
      exact next v w hp

/-- A STATEMENT WHOSE ORDER IS OPEN: an invariant of what has come up, of what it left, and of the world. -/
theorem region_inv {ops : Array Oper} {id : Nat} {a0 : Act} {w0 : World} (hm : P.follows .mixedOrders = true) (hf : fitsR ops = true)
    (F : (Nat → Value) → Act) (hF : ∀ vs, F vs = putAll vs 0 ops.toList a0)
    (hQ : ∀ c (x y : Act) w, x.defers = y.defers → Q (.panic c) x w → Q (.panic c) y w) (J : (Nat → Bool) → (Nat → Value) → World → Prop)
    (h0 : J (fun _ => false) (fun _ => undef) w0.drew)
    (hstep : ∀ i o, ops[i]? = some o → ∀ l vs w, J l vs w → l i = false → (∀ e ∈ o.after, Region.binds .any e = true → l e.on = true) →
      ∀ K : Act → World → Prop, (∀ v w', J (updR l i true) (updR vs i v) w' → K ((F vs).put o.dst v) w') →
        if Region.wanted o (yielded ops (F vs).tmps) = true then Oper.wp P o (F vs) w K Q else K ((F vs).put o.dst undef) w)
    (hend : ∀ l vs w, (∀ i, i < ops.size → l i = true) → J l vs w → Q .normal (F vs) w) :
    (Code.region id ops true).wp P Q a0 w0 := by
  refine wp_region_any hm ?_
  refine any_of_inv hf hF hQ J hstep hend ops.size _ (fun _ => undef) a0 _ ?_ (by simp) rfl rfl (fun t ht => ?_) ?_
  · unfold todo
    exact Nat.le_trans List.countP_le_length (by simp)
  · rw [hF, putAll_get]
    cases hw : owner ops.toList t with
    | none => rfl
    | some j =>
      have h1 := ht j hw
      exfalso
      by_cases hj : j < ops.size
      · simp [hj] at h1
      · simp [hj] at h1
  · have : (fun j => (Array.replicate ops.size false).getD j false) = fun _ => false := by
      funext j
      by_cases hj : j < ops.size <;> simp [hj]
    rw [this]; exact h0

/-- Of each operation, with its number. -/
def AllOps (p : Nat → Oper → Prop) : Nat → List Oper → Prop
  | _, [] => True
  | k, o :: os => p k o ∧ AllOps p (k + 1) os
theorem AllOps.get {p : Nat → Oper → Prop} : ∀ {os : List Oper} {k : Nat}, AllOps p k os → ∀ {j : Nat} {o : Oper}, os[j]? = some o → p (k + j) o
  | [], _, _, _, _, hj => by cases hj
  | x :: os, k, h, 0, o, hj => by simp at hj; subst hj; exact h.1
  | x :: os, k, h, j + 1, o, hj => by
    have := AllOps.get h.2 (j := j) (o := o) (by simpa using hj)
    rwa [show k + 1 + j = k + (j + 1) by omega] at this
theorem AllOps.nil {p : Nat → Oper → Prop} {k : Nat} : AllOps p k [] := trivial
theorem AllOps.cons {p : Nat → Oper → Prop} {k : Nat} {o : Oper} {os : List Oper} (h : p k o) (h' : AllOps p (k + 1) os) : AllOps p k (o :: os) := ⟨h, h'⟩
/-- Those that an operation waits for. -/
def depsOf (o : Oper) : List Nat := o.after.toList.filterMap fun e => if Region.binds .any e = true then some e.on else none
def AllR (R : Nat → Value → World → Prop) (vs : Nat → Value) (w : World) : List Nat → Prop
  | [] => True
  | j :: js => R j (vs j) w ∧ AllR R vs w js
theorem AllR.mk {R : Nat → Value → World → Prop} {vs : Nat → Value} {w : World} : ∀ {js : List Nat}, (∀ j ∈ js, R j (vs j) w) → AllR R vs w js
  | [], _ => trivial
  | j :: js, h => ⟨h j (by simp), AllR.mk fun k hk => h k (by simp [hk])⟩
theorem AllR.get {R : Nat → Value → World → Prop} {vs : Nat → Value} {w : World} : ∀ {js : List Nat}, AllR R vs w js → ∀ j ∈ js, R j (vs j) w
  | j :: js, h, k, hk => by
    rcases List.mem_cons.1 hk with rfl | hk
    · exact h.1
    · exact h.2.get k hk

/-- THE COMMON CASE: of each operation's value one thing is known, which later calls and new memory leave true; S is what is known of the world. -/
theorem region_grow {ops : Array Oper} {id : Nat} {a0 : Act} {w0 : World} (S : World → Prop) (R : Nat → Value → World → Prop)
    (F : (Nat → Value) → Act) (hF : ∀ vs, F vs = putAll vs 0 ops.toList a0) (hm : P.follows .mixedOrders = true) (hf : fitsR ops = true)
    (hQ : ∀ c (x y : Act) w, x.defers = y.defers → Q (.panic c) x w → Q (.panic c) y w)
    (h0 : S w0.drew) (stab : ∀ w w', Below w.heap.size w w' → ∀ j v, R j v w → R j v w')
    (hstep : AllOps (fun i o => ∀ vs w, S w → AllR R vs w (depsOf o) →
      ∀ K : Act → World → Prop, (∀ v w', S w' → R i v w' → Below w.heap.size w w' → K ((F vs).put o.dst v) w') →
        if Region.wanted o (yielded ops (F vs).tmps) = true then Oper.wp P o (F vs) w K Q else K ((F vs).put o.dst undef) w) 0 ops.toList)
    (hend : ∀ vs w, S w → AllR R vs w (List.range ops.size) → Q .normal (F vs) w) :
    (Code.region id ops true).wp P Q a0 w0 := by
  refine region_inv hm hf F hF hQ (fun l vs w => S w ∧ ∀ j, l j = true → R j (vs j) w) ⟨h0, fun j h => by cases h⟩ ?_ ?_
  · intro i o ho l vs w ⟨hS, hR⟩ _ hall K hK
    have ho' : ops.toList[i]? = some o := by rw [Array.getElem?_toList]; exact ho
    have := hstep.get ho'
    rw [Nat.zero_add] at this
    refine this vs w hS (AllR.mk fun j hj => ?_) K fun v w' hS' hR' hb => hK v w' ⟨hS', fun j hj => ?_⟩
    · simp only [depsOf, List.mem_filterMap, Array.mem_toList_iff] at hj
      obtain ⟨e, he, hej⟩ := hj
      split at hej
      · rename_i hb; cases hej; exact hR _ (hall e he hb)
      · cases hej
    · by_cases hji : j = i
      · subst hji; rw [updR_same]; exact hR'
      · rw [updR_ne _ _ hji] at hj ⊢; exact stab w w' hb j _ (hR j hj)
  · intro l vs w hl ⟨hS, hR⟩
    exact hend vs w hS (AllR.mk fun j hj => hR j (hl j (List.mem_range.1 hj)))

theorem own_dst {t : Tmp} : ∀ (l : List Oper) j, owner l t = some j → ∃ x, l[j]? = some x ∧ x.dst = some t := by
  intro l
  induction l with
  | nil => intro j h; cases h
  | cons x r ih2 =>
    intro j h
    simp only [owner] at h
    split at h
    · rename_i k hk; obtain ⟨y, hy, hyd⟩ := ih2 k hk; simp at h; subst h; exact ⟨y, by simpa using hy, hyd⟩
    · split at h
      · rename_i hx; simp at h; subst h; exact ⟨x, by simp, hx⟩
      · cases h

/-- THE PLAINEST CASE: each operation leaves one value, whatever the order: xs; S is what is known of the world; each only makes new memory. -/
theorem region_vals {ops : Array Oper} {id : Nat} {a0 : Act} {w0 : World} (S : World → Prop) (xs : List Value)
    (F : Act) (hF : F = putAll (fun i => xs.getD i undef) 0 ops.toList a0) (hm : P.follows .mixedOrders = true) (hf : fitsR ops = true)
    (hQ : ∀ c (x y : Act) w, x.defers = y.defers → Q (.panic c) x w → Q (.panic c) y w)
    (h0 : S w0.drew)
    (hstep : AllOps (fun i o => ∀ w, S w → ∀ K : Act → World → Prop, (∀ v w', v = xs.getD i undef → S w' → K (F.put o.dst v) w') →
        if Region.wanted o (yielded ops F.tmps) = true then Oper.wp P o F w K Q else K (F.put o.dst undef) w) 0 ops.toList)
    (hend : ∀ w, S w → Q .normal F w) :
    (Code.region id ops true).wp P Q a0 w0 := by
  refine region_inv hm hf (fun vs => putAll vs 0 ops.toList a0) (fun _ => rfl) hQ (fun l vs w => S w ∧ ∀ j, l j = true → vs j = xs.getD j undef) ⟨h0, fun j h => by cases h⟩ ?_ ?_
  · intro i o ho l vs w ⟨hS, hR⟩ _ hall K hK
    have ho' : ops.toList[i]? = some o := by rw [Array.getElem?_toList]; exact ho
    have go := hstep.get ho'
    rw [Nat.zero_add] at go
    have hfit := fits_spec hf ho
    simp only [fitsAt, Bool.and_eq_true, Array.all_eq_true_iff_forall_mem, List.all_eq_true] at hfit
    obtain ⟨⟨⟨_, hlook⟩, _⟩, hsel⟩ := hfit
    have same : ∀ t ∈ o.looksAt ops, (putAll vs 0 ops.toList a0).tmps[t]? = F.tmps[t]? := fun t ht => by
      rw [hF, putAll_get, putAll_get]
      have := hlook t ht
      cases hj : owner ops.toList t with
      | none => rfl
      | some j =>
        rw [hj] at this
        simp only [Array.any_eq_true', Bool.and_eq_true, beq_iff_eq] at this
        obtain ⟨e, he, hb, heq⟩ := this
        have h1 := hR e.on (hall e he hb)
        rw [heq] at h1
        simp only [Nat.zero_add, h1]
    have hsel' : ∀ cs d, o.op ≠ .select cs d := fun cs d h => by rw [h] at hsel; simp at hsel
    have hsz : (putAll vs 0 ops.toList a0).tmps.size = F.tmps.size := by rw [hF, putAll_size, putAll_size]
    have hdf : F.defers = (putAll vs 0 ops.toList a0).defers := by rw [hF, putAll_defers, putAll_defers]
    have next : ∀ v w', (v = xs.getD i undef ∧ S w') → K ((putAll vs 0 ops.toList a0).put o.dst v) w' := fun v w' ⟨hv, hS'⟩ => hK v w' ⟨hS', fun j hj => by
      by_cases hji : j = i
      · subst hji; rw [updR_same]; exact hv
      · rw [updR_ne _ _ hji] at hj ⊢; exact hR j hj⟩
    rw [wanted_alike same]
    by_cases hw : Region.wanted o (yielded ops F.tmps) = true
    · simp only [hw, if_true] at go ⊢
      exact wp_alike (Post := fun v w' => v = xs.getD i undef ∧ S w') (exec_alike hsel' same) hsz hdf hQ next (go w hS _ fun v w' hv hS' => ⟨v, rfl, hv, hS'⟩)
    · have hw' : Region.wanted o (yielded ops F.tmps) = false := by simpa using hw
      simp only [hw', Bool.false_eq_true, if_false] at go ⊢
      obtain ⟨v, e, hp⟩ := go w hS (fun a' w' => ∃ v, a' = F.put o.dst v ∧ v = xs.getD i undef ∧ S w') fun v w' hv hS' => ⟨v, rfl, hv, hS'⟩
      rw [put_alike hsz e]
      exact next v w hp
  · intro l vs w hl ⟨hS, hR⟩
    have : putAll vs 0 ops.toList a0 = F := by
      have hx : ∀ (os : List Oper) (k : Nat) (a : Act), (∀ j, j < os.length → vs (k + j) = xs.getD (k + j) undef) → putAll vs k os a = putAll (fun i => xs.getD i undef) k os a := by
        intro os
        induction os with
        | nil => intro k a _; rfl
        | cons o os ih =>
          intro k a h
          have h0 := h 0 (by simp)
          simp only [Nat.add_zero] at h0
          simp only [putAll, h0]
          exact ih (k + 1) _ fun j hj => by
            have := h (j + 1) (by simp; omega)
            rwa [show k + (j + 1) = k + 1 + j by omega] at this
      rw [hF]
      exact hx _ 0 a0 fun j hj => by rw [Nat.zero_add]; exact hR j (hl j (by simpa using hj))
    rw [this]
    exact hend w hS
end
end Go.Proofs.Ytpckbbjlihhpdaa
namespace Go.Proofs.Ytpckbbjlihhpdaa
open Go.RowKit

theorem cellO {X : World} {p q : Addr} {u v : Value} (hne : p ≠ q) (h : X.cell? q = some v) : (X.setCell p u).cell? q = some v := by
  rw [World.cell?_setCell_other]
  · exact h
  · exact hne
theorem cellS {X : World} {p : Addr} {u : Value} (h : (X.cell? p).isSome = true) : (X.setCell p u).cell? p = some u := by
  obtain ⟨v, hv⟩ := Option.isSome_iff_exists.1 h
  exact World.cell?_setCell_same (w := X) (a := p) (v := u) hv
theorem isOf {X : World} {p : Addr} {v : Value} (h : X.cell? p = some v) : (X.cell? p).isSome = true := by rw [h]; rfl
theorem isS {X : World} {p q : Addr} {u : Value} (h : (X.cell? q).isSome = true) : ((X.setCell p u).cell? q).isSome = true := by
  by_cases e : p = q
  · subst e; rw [cellS h]; rfl
  · rw [World.cell?_setCell_other]
    · exact h
    · exact e
theorem frS {X : World} {p q : Addr} {u : Value} (h : X.frozen? q = false) : (X.setCell p u).frozen? q = false := by simpa using h

def AllL (l : Nat → Bool) : List Nat → Prop
  | [] => True
  | j :: js => l j = true ∧ AllL l js
theorem AllL.mk {l : Nat → Bool} : ∀ {js : List Nat}, (∀ j ∈ js, l j = true) → AllL l js
  | [], _ => trivial
  | j :: _, h => ⟨h j (by simp), AllL.mk fun k hk => h k (by simp [hk])⟩
theorem region_invA {P : Program} {Q : Exit → Act → World → Prop} {ops : Array Oper} {id : Nat} {a0 : Act} {w0 : World} (J : (Nat → Bool) → (Nat → Value) → World → Prop)
    (F : (Nat → Value) → Act) (hF : ∀ vs, F vs = putAll vs 0 ops.toList a0) (hm : P.follows .mixedOrders = true) (hf : fitsR ops = true)
    (hQ : ∀ c (x y : Act) w, x.defers = y.defers → Q (.panic c) x w → Q (.panic c) y w)
    (h0 : J (fun _ => false) (fun _ => undef) w0.drew)
    (hstep : AllOps (fun i o => ∀ l vs w, J l vs w → l i = false → AllL l (depsOf o) →
      ∀ K : Act → World → Prop, (∀ v w', J (updR l i true) (updR vs i v) w' → K ((F vs).put o.dst v) w') →
        if Region.wanted o (yielded ops (F vs).tmps) = true then Oper.wp P o (F vs) w K Q else K ((F vs).put o.dst undef) w) 0 ops.toList)
    (hend : ∀ l vs w, (∀ i, i < ops.size → l i = true) → J l vs w → Q .normal (F vs) w) :
    (Code.region id ops true).wp P Q a0 w0 := by
  refine region_inv hm hf F hF hQ J h0 (fun i o ho l vs w hJ hl hall => ?_) hend
  have ho' : ops.toList[i]? = some o := by rw [Array.getElem?_toList]; exact ho
  have go := hstep.get ho'
  rw [Nat.zero_add] at go
  refine go l vs w hJ hl (AllL.mk fun j hj => ?_)
  simp only [depsOf, List.mem_filterMap, Array.mem_toList_iff] at hj
  obtain ⟨e, he, hej⟩ := hj
  split at hej
  · rename_i hb; cases hej; exact hall e he hb
  · cases hej

/-- A block with room for a stamp; a block that holds one. -/
def Room3 (w : World) (b : Nat) : Prop := ∀ o, o < 3 → (w.cell? ⟨b, o, none⟩).isSome = true ∧ w.frozen? ⟨b, o, none⟩ = false
def At3 (w : World) (b : Nat) (y : Int × Int × Int) : Prop := w.cell? ⟨b, 0, none⟩ = some (.int .i64 y.1) ∧ w.cell? ⟨b, 1, none⟩ = some (.int .u32 y.2.1) ∧ w.cell? ⟨b, 2, none⟩ = some (.int .u32 y.2.2)
theorem At3.below {w w' : World} {b : Nat} {y : Int × Int × Int} (h : At3 w b y) (hb : Below w.heap.size w w') : At3 w' b y := ⟨kept hb h.1, kept hb h.2.1, kept hb h.2.2⟩
theorem Room3.below {w w' : World} {b : Nat} (h : Room3 w b) (hl : b < w.heap.size) (hb : Below w.heap.size w w') : Room3 w' b := fun o ho => by
  obtain ⟨h1, h2⟩ := h o ho
  rw [hb.cell (p := ⟨b, o, none⟩) hl, hb.frozen (p := ⟨b, o, none⟩) hl]
  exact ⟨h1, h2⟩

def store3 (w : World) (b : Nat) (y : Int × Int × Int) : World := ((w.setCell ⟨b, 0, none⟩ (.int .i64 y.1)).setCell ⟨b, 1, none⟩ (.int .u32 y.2.1)).setCell ⟨b, 2, none⟩ (.int .u32 y.2.2)
theorem Room3.store {w : World} {b c : Nat} {y : Int × Int × Int} (h : Room3 w b) : Room3 (store3 w c y) b := fun o ho => by
  obtain ⟨h1, h2⟩ := h o ho
  exact ⟨isS (isS (isS h1)), frS (frS (frS h2))⟩
theorem At3.store {w : World} {b : Nat} {y : Int × Int × Int} (h : Room3 w b) : At3 (store3 w b y) b y :=
  ⟨cellO (by simp) (cellO (by simp) (cellS (h 0 (by omega)).1)), cellO (by simp) (cellS (isS (h 1 (by omega)).1)), cellS (isS (isS (h 2 (by omega)).1))⟩
theorem At3.store_other {w : World} {b c : Nat} {y z : Int × Int × Int} (h : At3 w b y) (hne : c ≠ b) : At3 (store3 w c z) b y := by
  have ne : ∀ i j : Nat, (⟨c, i, none⟩ : Addr) ≠ ⟨b, j, none⟩ := fun i j e => hne (congrArg Addr.block e)
  exact ⟨cellO (ne _ _) (cellO (ne _ _) (cellO (ne _ _) h.1)), cellO (ne _ _) (cellO (ne _ _) (cellO (ne _ _) h.2.1)), cellO (ne _ _) (cellO (ne _ _) (cellO (ne _ _) h.2.2))⟩
theorem store3_size (w : World) (b : Nat) (y : Int × Int × Int) : (store3 w b y).heap.size = w.heap.size := by simp [store3]

/-- m values, k variables that are made, k stores into them: what holds of those that have come up. -/
structure Lets (S : World → Prop) (N m k : Nat) (xs : Nat → Value) (ys : Nat → Int × Int × Int) (l : Nat → Bool) (vs : Nat → Value) (w : World) : Prop where
  s : S w
  n : N ≤ w.heap.size
  v : ∀ j, j < m → l j = true → vs j = xs j
  p : ∀ i, i < k → l (m + i) = true → ∃ b, vs (m + i) = .pointer (some ⟨b, 0, none⟩) ∧ N ≤ b ∧ b < w.heap.size ∧ Room3 w b
  d : ∀ i j, i < k → j < k → i ≠ j → l (m + i) = true → l (m + j) = true → vs (m + i) ≠ vs (m + j)
  h : ∀ i, i < k → l (m + k + i) = true → l (m + i) = true ∧ ∀ b, vs (m + i) = .pointer (some ⟨b, 0, none⟩) → At3 w b (ys i)

variable {S : World → Prop} {N m k : Nat} {xs : Nat → Value} {ys : Nat → Int × Int × Int} {l : Nat → Bool} {vs : Nat → Value} {w : World}

theorem Lets.value (J : Lets S N m k xs ys l vs w) {i : Nat} (hi : i < m) {v : Value} (hv : v = xs i) {w' : World} (hb : Below w.heap.size w w') (hS : S w') : Lets S N m k xs ys (updR l i true) (updR vs i v) w' where
  s := hS
  n := Nat.le_trans J.n hb.size
  v := fun j hj hl => by
    by_cases e : j = i
    · subst e; rw [updR_same]; exact hv
    · rw [updR_ne _ _ e] at hl ⊢; exact J.v j hj hl
  p := fun j hj hl => by
    rw [updR_ne _ _ (by omega)] at hl ⊢
    obtain ⟨b, h1, h2, h3, h4⟩ := J.p j hj hl
    exact ⟨b, h1, h2, Nat.lt_of_lt_of_le h3 hb.size, h4.below h3 hb⟩
  d := fun a c ha hc hac hla hlc => by
    rw [updR_ne _ _ (by omega)] at hla hlc ⊢
    rw [updR_ne _ _ (by omega)]
    exact J.d a c ha hc hac hla hlc
  h := fun j hj hl => by
    rw [updR_ne _ _ (by omega)] at hl ⊢
    obtain ⟨h1, h2⟩ := J.h j hj hl
    refine ⟨h1, fun b hb' => ?_⟩
    rw [updR_ne _ _ (by omega)] at hb'
    exact (h2 b hb').below hb

theorem Lets.made (J : Lets S N m k xs ys l vs w) {i : Nat} (hi : i < k) (hl : l (m + i) = false) {z0 z1 z2 : Value} {T : TypeId} (hS : S (w.alloc (.cells #[z0, z1, z2] T))) :
    Lets S N m k xs ys (updR l (m + i) true) (updR vs (m + i) (.pointer (some ⟨w.heap.size, 0, none⟩))) (w.alloc (.cells #[z0, z1, z2] T)) := by
  have hb : Below w.heap.size w (w.alloc (.cells #[z0, z1, z2] T)) := (Below.refl _ _).alloc (Nat.le_refl _) _
  refine ⟨hS, Nat.le_trans J.n hb.size, fun j hj hl' => ?_, fun j hj hl' => ?_, fun a c ha hc hac hla hlc => ?_, fun j hj hl' => ?_⟩
  · rw [updR_ne _ _ (by omega)] at hl' ⊢; exact J.v j hj hl'
  · by_cases e : j = i
    · subst e
      rw [updR_same]
      refine ⟨w.heap.size, rfl, J.n, by simp, fun o ho => ?_⟩
      match o, ho with
      | 0, _ => exact ⟨by simp, by simp⟩
      | 1, _ => exact ⟨by simp, by simp⟩
      | 2, _ => exact ⟨by simp, by simp⟩
    · rw [updR_ne _ _ (by omega)] at hl' ⊢
      obtain ⟨b, h1, h2, h3, h4⟩ := J.p j hj hl'
      exact ⟨b, h1, h2, Nat.lt_of_lt_of_le h3 hb.size, h4.below h3 hb⟩
  · have far : ∀ j, j < k → l (m + j) = true → vs (m + j) ≠ .pointer (some ⟨w.heap.size, 0, none⟩) := fun j hj h e => by
      obtain ⟨b, h1, _, h3, _⟩ := J.p j hj h
      rw [h1] at e
      have e' : b = w.heap.size := congrArg (fun x => match x with | Value.pointer (some a) => a.block | _ => 0) e
      omega
    by_cases ea : a = i
    · subst ea
      rw [updR_same, updR_ne _ _ (by omega)]
      rw [updR_ne _ _ (by omega)] at hlc
      exact fun e => far c hc hlc e.symm
    · rw [updR_ne _ _ (by omega)] at hla
      rw [updR_ne vs _ (j := m + a) (by omega)]
      by_cases ec : c = i
      · subst ec; rw [updR_same]; exact far a ha hla
      · rw [updR_ne _ _ (by omega)] at hlc ⊢; exact J.d a c ha hc hac hla hlc
  · rw [updR_ne _ _ (by omega)] at hl'
    obtain ⟨h1, h2⟩ := J.h j hj hl'
    have ej : j ≠ i := fun e => by subst e; rw [hl] at h1; cases h1
    rw [updR_ne _ _ (by omega)]
    refine ⟨h1, fun b hb' => ?_⟩
    rw [updR_ne _ _ (by omega)] at hb'
    exact (h2 b hb').below hb

theorem Lets.stored (J : Lets S N m k xs ys l vs w) {i : Nat} (hi : i < k) (hl : l (m + i) = true) {b : Nat} (hv : vs (m + i) = .pointer (some ⟨b, 0, none⟩)) (hS : S (store3 w b (ys i))) (u : Value) :
    Lets S N m k xs ys (updR l (m + k + i) true) (updR vs (m + k + i) u) (store3 w b (ys i)) := by
  refine ⟨hS, by rw [store3_size]; exact J.n, fun j hj hl' => ?_, fun j hj hl' => ?_, fun a c ha hc hac hla hlc => ?_, fun j hj hl' => ?_⟩
  · rw [updR_ne _ _ (by omega)] at hl' ⊢; exact J.v j hj hl'
  · rw [updR_ne _ _ (by omega)] at hl' ⊢
    obtain ⟨c, h1, h2, h3, h4⟩ := J.p j hj hl'
    exact ⟨c, h1, h2, by rw [store3_size]; exact h3, h4.store⟩
  · rw [updR_ne _ _ (by omega)] at hla hlc ⊢
    rw [updR_ne _ _ (by omega)]
    exact J.d a c ha hc hac hla hlc
  · by_cases e : j = i
    · subst e
      rw [updR_ne _ _ (by omega)]
      refine ⟨hl, fun c hc => ?_⟩
      rw [updR_ne _ _ (by omega), hv] at hc
      simp at hc
      subst hc
      obtain ⟨c, h1, _, _, h4⟩ := J.p j hj hl
      rw [hv] at h1
      simp at h1
      subst h1
      exact At3.store h4
    · rw [updR_ne _ _ (by omega)] at hl' ⊢
      obtain ⟨h1, h2⟩ := J.h j hj hl'
      refine ⟨h1, fun c hc => ?_⟩
      rw [updR_ne _ _ (by omega)] at hc
      refine (h2 c hc).store_other fun ebc => ?_
      subst ebc
      exact J.d i j hi hj (Ne.symm e) hl h1 (by rw [hv, hc])

end Go.Proofs.Ytpckbbjlihhpdaa
namespace Go.Proofs.Ytpckbbjlihhpdaa
open Go.RowKit

def AllD (p : Nat → Prop) : List Nat → Prop
  | [] => True
  | j :: js => p j ∧ AllD p js
theorem AllD.of {p : Nat → Prop} {l : Nat → Bool} (h : ∀ j, l j = true → p j) : ∀ {js : List Nat}, AllL l js → AllD p js
  | [], _ => trivial
  | _ :: _, ⟨h1, h2⟩ => ⟨h _ h1, AllD.of h h2⟩
theorem AllD.get {p : Nat → Prop} : ∀ {js : List Nat}, AllD p js → ∀ {j : Nat}, j ∈ js → p j
  | _ :: _, ⟨h1, h2⟩, _, hj => (List.mem_cons.1 hj).elim (fun e => e ▸ h1) (fun e => h2.get e)
theorem AllOps.imp {p q : Nat → Oper → Prop} (h : ∀ i o, p i o → q i o) : ∀ {k : Nat} {os : List Oper}, AllOps p k os → AllOps q k os
  | _, [], _ => trivial
  | _, _ :: _, h2 => ⟨h _ _ h2.1, AllOps.imp h h2.2⟩
theorem region_V {P : Program} {Q : Exit → Act → World → Prop} {ops : Array Oper} {id : Nat} {a0 : Act} {w0 : World} {ι : Type} (holds : ι → Value → World → Prop) (G : World → Prop) (xs : List ι) (d : ι)
    (mono : ∀ p v w w', holds p v w → Below w.heap.size w w' → holds p v w')
    (F : (Nat → Value) → Act) (hF : ∀ vs, F vs = putAll vs 0 ops.toList a0) (hm : P.follows .mixedOrders = true) (hf : fitsR ops = true)
    (hQ : ∀ c (x y : Act) w, x.defers = y.defers → Q (.panic c) x w → Q (.panic c) y w)
    (h0 : G w0.drew)
    (hstep : AllOps (fun i o => ∀ vs w, G w → AllD (fun j => holds (xs.getD j d) (vs j) w) (depsOf o) →
      ∀ K : Act → World → Prop, (∀ v w', Below w.heap.size w w' → G w' → holds (xs.getD i d) v w' → K ((F vs).put o.dst v) w') →
        if Region.wanted o (yielded ops (F vs).tmps) = true then Oper.wp P o (F vs) w K Q else K ((F vs).put o.dst undef) w) 0 ops.toList)
    (hend : ∀ vs w, G w → (∀ i, i < ops.size → holds (xs.getD i d) (vs i) w) → Q .normal (F vs) w) :
    (Code.region id ops true).wp P Q a0 w0 := by
  refine region_invA (fun l vs w => G w ∧ ∀ i, l i = true → holds (xs.getD i d) (vs i) w) F hF hm hf hQ ⟨h0, fun i h => by cases h⟩ ?_ (fun l vs w hl hJ => hend vs w hJ.1 fun i hi => hJ.2 i (hl i hi))
  refine hstep.imp fun i o go l vs w hJ _ hd K hK => ?_
  refine go vs w hJ.1 (AllD.of (fun j hj => hJ.2 j hj) hd) K fun v w' hb hG hv => hK v w' ⟨hG, fun j hj => ?_⟩
  by_cases e : j = i
  · subst e; rw [updR_same]; exact hv
  · rw [updR_ne _ _ e] at hj ⊢
    exact mono _ _ _ _ (hJ.2 j hj) hb
end Go.Proofs.Ytpckbbjlihhpdaa
namespace Go.Proofs.Ytpckbbjlihhpdaa
open Go.RowKit


section
variable {P : Program} {Q : Exit → Act → World → Prop}
def depsAt (ops : Array Oper) (i : Nat) : List Nat := match ops[i]? with | some o => depsOf o | none => []
/-- Does i wait for a, by whatever way? -/
def reach (ops : Array Oper) : Nat → Nat → Nat → Bool
  | 0, _, _ => false
  | f + 1, a, i => (depsAt ops i).any fun e => e == a || reach ops f a e
theorem reach_up {ops : Array Oper} {l : Nat → Bool} (hC : ∀ j, l j = true → ∀ e ∈ depsAt ops j, l e = true) :
    ∀ (f a i : Nat), (∀ e ∈ depsAt ops i, l e = true) → reach ops f a i = true → l a = true
  | 0, _, _, _, h => by cases h
  | f + 1, a, i, hi, h => by
    simp only [reach, List.any_eq_true, Bool.or_eq_true, beq_iff_eq] at h
    obtain ⟨e, he, h⟩ := h
    rcases h with rfl | h
    · exact hi _ he
    · exact reach_up hC f a e (hC e (hi e he)) h

theorem mem_deps {ops : Array Oper} {i : Nat} {o : Oper} (ho : ops[i]? = some o) {l : Nat → Bool} (hall : ∀ e ∈ o.after, Region.binds .any e = true → l e.on = true) : ∀ e ∈ depsAt ops i, l e = true := by
  intro e he
  simp only [depsAt, ho, depsOf, List.mem_filterMap, Array.mem_toList_iff] at he
  obtain ⟨x, hx, hxe⟩ := he
  split at hxe
  · rename_i hb; cases hxe; exact hall x hx hb
  · cases hxe

/-- Each operation leaves one value; S is what is known of the world, by which operations have come up. -/
theorem region_valsL {ops : Array Oper} {id : Nat} {a0 : Act} {w0 : World} (S : (Nat → Bool) → World → Prop) (xs : List Value)
    (F : Act) (hF : F = putAll (fun i => xs.getD i undef) 0 ops.toList a0) (hm : P.follows .mixedOrders = true) (hf : fitsR ops = true)
    (hQ : ∀ c (x y : Act) w, x.defers = y.defers → Q (.panic c) x w → Q (.panic c) y w)
    (h0 : S (fun _ => false) w0.drew)
    (hstep : ∀ i o, ops[i]? = some o → ∀ l w, S l w → l i = false → (∀ e ∈ depsAt ops i, l e = true) → (∀ j, l j = true → ∀ e ∈ depsAt ops j, l e = true) →
      ∀ K : Act → World → Prop, (∀ v w', v = xs.getD i undef → S (updR l i true) w' → K (F.put o.dst v) w') →
        if Region.wanted o (yielded ops F.tmps) = true then Oper.wp P o F w K Q else K (F.put o.dst undef) w)
    (hend : ∀ l w, (∀ i, i < ops.size → l i = true) → S l w → Q .normal F w) :
    (Code.region id ops true).wp P Q a0 w0 := by
  refine region_inv hm hf (fun vs => putAll vs 0 ops.toList a0) (fun _ => rfl) hQ (fun l vs w => (S l w ∧ ∀ j, l j = true → ∀ e ∈ depsAt ops j, l e = true) ∧ ∀ j, l j = true → vs j = xs.getD j undef) ⟨⟨h0, fun j h => by cases h⟩, fun j h => by cases h⟩ ?_ ?_
  · intro i o ho l vs w ⟨⟨hS, hC⟩, hR⟩ hl hall K hK
    have hd := mem_deps ho hall
    have hC' : ∀ j, updR l i true j = true → ∀ e ∈ depsAt ops j, updR l i true e = true := fun j hj e he => by
      by_cases hei : e = i
      · subst hei; rw [updR_same]
      · rw [updR_ne _ _ hei]
        by_cases hji : j = i
        · subst hji; exact hd e he
        · rw [updR_ne _ _ hji] at hj; exact hC j hj e he
    have go := hstep i o ho l w hS hl hd hC
    have hfit := fits_spec hf ho
    simp only [fitsAt, Bool.and_eq_true, Array.all_eq_true_iff_forall_mem, List.all_eq_true] at hfit
    obtain ⟨⟨⟨_, hlook⟩, _⟩, hsel⟩ := hfit
    have same : ∀ t ∈ o.looksAt ops, (putAll vs 0 ops.toList a0).tmps[t]? = F.tmps[t]? := fun t ht => by
      rw [hF, putAll_get, putAll_get]
      have := hlook t ht
      cases hj : owner ops.toList t with
      | none => rfl
      | some j =>
        rw [hj] at this
        simp only [Array.any_eq_true', Bool.and_eq_true, beq_iff_eq] at this
        obtain ⟨e, he, hb, heq⟩ := this
        have h1 := hR e.on (hall e he hb)
        rw [heq] at h1
        simp only [Nat.zero_add, h1]
    have hsel' : ∀ cs d, o.op ≠ .select cs d := fun cs d h => by rw [h] at hsel; simp at hsel
    have hsz : (putAll vs 0 ops.toList a0).tmps.size = F.tmps.size := by rw [hF, putAll_size, putAll_size]
    have hdf : F.defers = (putAll vs 0 ops.toList a0).defers := by rw [hF, putAll_defers, putAll_defers]
    have next : ∀ v w', (v = xs.getD i undef ∧ S (updR l i true) w') → K ((putAll vs 0 ops.toList a0).put o.dst v) w' := fun v w' ⟨hv, hS'⟩ => hK v w' ⟨⟨hS', hC'⟩, fun j hj => by
      by_cases hji : j = i
      · subst hji; rw [updR_same]; exact hv
      · rw [updR_ne _ _ hji] at hj ⊢; exact hR j hj⟩
    rw [wanted_alike same]
    by_cases hw : Region.wanted o (yielded ops F.tmps) = true
    · simp only [hw, if_true] at go ⊢
      exact wp_alike (Post := fun v w' => v = xs.getD i undef ∧ S (updR l i true) w') (exec_alike hsel' same) hsz hdf hQ next (go _ fun v w' hv hS' => ⟨v, rfl, hv, hS'⟩)
    · have hw' : Region.wanted o (yielded ops F.tmps) = false := by simpa using hw
      simp only [hw', Bool.false_eq_true, if_false] at go ⊢
      obtain ⟨v, e, hp⟩ := go (fun a' w' => ∃ v, a' = F.put o.dst v ∧ v = xs.getD i undef ∧ S (updR l i true) w') fun v w' hv hS' => ⟨v, rfl, hv, hS'⟩
      rw [put_alike hsz e]
      exact next v w hp
  · intro l vs w hl ⟨⟨hS, _⟩, hR⟩
    have : putAll vs 0 ops.toList a0 = F := by
      have hx : ∀ (os : List Oper) (k : Nat) (a : Act), (∀ j, j < os.length → vs (k + j) = xs.getD (k + j) undef) → putAll vs k os a = putAll (fun i => xs.getD i undef) k os a := by
        intro os
        induction os with
        | nil => intro k a _; rfl
        | cons o os ih =>
          intro k a h
          have h0 := h 0 (by simp)
          simp only [Nat.add_zero] at h0
          simp only [putAll, h0]
          exact ih (k + 1) _ fun j hj => by
            have := h (j + 1) (by simp; omega)
            rwa [show k + (j + 1) = k + 1 + j by omega] at this
      rw [hF]
      exact hx _ 0 a0 fun j hj => by rw [Nat.zero_add]; exact hR j (hl j (by simpa using hj))
    rw [this]
    exact hend l w hl hS

/-- What the kernel reckons: an operation of phase p waits for all turns ahead of p, and the turn p waits for it; a turn has its own phase. -/
def phaseAt (ops : Array Oper) (T : List Nat) (ph : List (Option Nat)) (i : Nat) : Bool :=
  match ph.getD i none with
  | none => (List.range T.length).all fun q => T[q]? != some i
  | some p => (match T[p]? with | some t => i == t || reach ops ops.size i t | none => true) &&
    ((List.range p).all fun q => match T[q]? with | some t => reach ops ops.size t i | none => false) &&
    ((List.range T.length).all fun q => T[q]? != some i || q == p)
def phases (ops : Array Oper) (T : List Nat) (ph : List (Option Nat)) : Bool :=
  ((List.range ops.size).all fun i => phaseAt ops T ph i) && T.all fun t => Nat.blt t ops.size

def preOf (W : Nat → World → Prop) : Option Nat → World → Prop
  | some p, w => W p w
  | none, _ => True
def postOf (W : Nat → World → Prop) (T : List Nat) (i : Nat) : Option Nat → World → World → Prop
  | some p, _, w' => W (if T[p]? = some i then p + 1 else p) w'
  | none, w, w' => w' = w

theorem region_phase {ops : Array Oper} {id : Nat} {a0 : Act} {w0 : World} (W : Nat → World → Prop) (T : List Nat) (ph : List (Option Nat)) (xs : List Value)
    (F : Act) (hF : F = putAll (fun i => xs.getD i undef) 0 ops.toList a0) (hm : P.follows .mixedOrders = true) (hf : fitsR ops = true) (hp : phases ops T ph = true)
    (hQ : ∀ c (x y : Act) w, x.defers = y.defers → Q (.panic c) x w → Q (.panic c) y w)
    (h0 : W 0 w0.drew)
    (hstep : AllOps (fun i o => ∀ w, preOf W (ph.getD i none) w → ∀ K : Act → World → Prop, (∀ v w', v = xs.getD i undef → postOf W T i (ph.getD i none) w w' → K (F.put o.dst v) w') →
        if Region.wanted o (yielded ops F.tmps) = true then Oper.wp P o F w K Q else K (F.put o.dst undef) w) 0 ops.toList)
    (hend : ∀ w, W T.length w → Q .normal F w) :
    (Code.region id ops true).wp P Q a0 w0 := by
  simp only [phases, Bool.and_eq_true, List.all_eq_true, List.mem_range] at hp
  obtain ⟨hp, hT⟩ := hp
  have hTs : ∀ q t, T[q]? = some t → t < ops.size := fun q t h => by
    have := hT t (List.mem_of_getElem? h)
    simpa using this
  refine region_valsL (fun l w => ∀ p, (∀ q, q < p → ∃ t, T[q]? = some t ∧ l t = true) → (∀ t, T[p]? = some t → l t = false) → W p w) xs F hF hm hf hQ ?_ ?_ ?_
  · intro p hp' _
    cases p with
    | zero => exact h0
    | succ p => obtain ⟨t, _, ht⟩ := hp' 0 (by omega); cases ht
  · intro i o ho l w hS hl hd hC K hK
    have ho' : ops.toList[i]? = some o := by rw [Array.getElem?_toList]; exact ho
    have go := hstep.get ho'
    rw [Nat.zero_add] at go
    have hi : i < ops.size := (Array.getElem?_eq_some_iff.1 ho).1
    have hpi := hp i hi
    cases hph : ph.getD i none with
    | none =>
      rw [hph] at go
      simp only [phaseAt, hph, List.all_eq_true, List.mem_range, bne_iff_ne, ne_eq] at hpi
      refine go w trivial K fun v w' hv hw => hK v w' hv ?_
      have hw' : w' = w := hw
      rw [hw']
      have ne : ∀ q t, T[q]? = some t → t ≠ i := fun q t hq e => by
        subst e
        exact hpi q (List.getElem?_eq_some_iff.1 hq).1 hq
      intro p h1 h2
      refine hS p (fun q hq => ?_) fun t ht => ?_
      · obtain ⟨t, ht, hlt⟩ := h1 q hq
        rw [updR_ne _ _ (ne q t ht)] at hlt
        exact ⟨t, ht, hlt⟩
      · have := h2 t ht
        rwa [updR_ne _ _ (ne p t ht)] at this
    | some p =>
      rw [hph] at go
      simp only [phaseAt, hph, Bool.and_eq_true, List.all_eq_true, List.mem_range] at hpi
      obtain ⟨⟨hp1, hp2⟩, hp3⟩ := hpi
      have up : ∀ {a b : Nat}, (∀ e ∈ depsAt ops b, l e = true) → reach ops ops.size a b = true → l a = true := fun h1 h2 => reach_up hC _ _ _ h1 h2
      have before : ∀ q, q < p → ∃ t, T[q]? = some t ∧ l t = true := fun q hq => by
        have := hp2 q hq
        split at this
        · rename_i t ht; exact ⟨t, ht, up hd this⟩
        · cases this
      have now : ∀ t, T[p]? = some t → l t = false := fun t ht => by
        rw [ht] at hp1
        cases hlt : l t with
        | false => rfl
        | true =>
          simp only [Bool.or_eq_true, beq_iff_eq] at hp1
          rcases hp1 with rfl | h
          · rw [hl] at hlt; cases hlt
          · have := up (hC t hlt) h
            rw [hl] at this; cases this
      refine go w (hS p before now) K fun v w' hv hw => hK v w' hv ?_
      have hw' : W (if T[p]? = some i then p + 1 else p) w' := hw
      intro p' h1 h2
      have at_i : ∀ q, T[q]? = some i → q = p := fun q hq => by
        have := hp3 q (List.getElem?_eq_some_iff.1 hq).1
        simpa [hq] using this
      by_cases hTp : T[p]? = some i
      · rw [if_pos hTp] at hw'
        have h3 : p' = p + 1 := by
          rcases Nat.lt_trichotomy p' (p + 1) with hlt | heq | hgt
          · exfalso
            by_cases hpp : p' = p
            · subst hpp
              have := h2 i hTp
              rw [updR_same] at this; cases this
            · obtain ⟨t, ht, hlt'⟩ := before p' (by omega)
              have := h2 t ht
              by_cases hti : t = i
              · subst hti; rw [updR_same] at this; cases this
              · rw [updR_ne _ _ hti, hlt'] at this; cases this
          · exact heq
          · exfalso
            obtain ⟨t, ht, hlt'⟩ := h1 (p + 1) hgt
            have hti : t ≠ i := fun e => by subst e; have := at_i _ ht; omega
            rw [updR_ne _ _ hti] at hlt'
            have hpt := hp t (hTs _ _ ht)
            cases hq : ph.getD t none with
            | none =>
              simp only [phaseAt, hq, List.all_eq_true, List.mem_range, bne_iff_ne, ne_eq] at hpt
              exact hpt _ (List.getElem?_eq_some_iff.1 ht).1 ht
            | some p2 =>
              simp only [phaseAt, hq, Bool.and_eq_true, List.all_eq_true, List.mem_range] at hpt
              have e2 : p + 1 = p2 := by
                have := hpt.2 (p + 1) (List.getElem?_eq_some_iff.1 ht).1
                simpa [ht] using this
              have := hpt.1.2 p (by omega)
              rw [hTp] at this
              have := up (hC t hlt') this
              rw [hl] at this; cases this
        rw [h3]; exact hw'
      · rw [if_neg hTp] at hw'
        have ne : ∀ q t, T[q]? = some t → t ≠ i := fun q t hq e => by
          subst e
          have := at_i _ hq
          subst this
          exact hTp hq
        have h3 : p' = p := by
          rcases Nat.lt_trichotomy p' p with hlt | heq | hgt
          · exfalso
            obtain ⟨t, ht, hlt'⟩ := before p' hlt
            have := h2 t ht
            rw [updR_ne _ _ (ne _ _ ht), hlt'] at this; cases this
          · exact heq
          · exfalso
            obtain ⟨t, ht, hlt'⟩ := h1 p hgt
            rw [updR_ne _ _ (ne _ _ ht), now t ht] at hlt'; cases hlt'
        rw [h3]; exact hw'
  · intro l w hall hS
    refine hend w (hS _ (fun q hq => ?_) fun t ht => ?_)
    · have ht : T[q]? = some T[q] := List.getElem?_eq_getElem hq
      exact ⟨_, ht, hall _ (hTs _ _ ht)⟩
    · rw [List.getElem?_eq_none (Nat.le_refl _)] at ht; cases ht
end

end Go.Proofs.Ytpckbbjlihhpdaa
namespace Go.Proofs.Ytpckbbjlihhpdaa
open Go.RowKit

def stepOr (b : Bool) (p q : Prop) : Prop := match b with | true => p | false => q
/-- What the kernel reckons: the operation n waits for all others. -/
def lastAll (ops : Array Oper) (n : Nat) : Bool := (ops.size == n + 1) && (List.range n).all fun i => reach ops ops.size i n
theorem region_VS {P : Program} {Q : Exit → Act → World → Prop} {ops : Array Oper} {id : Nat} {a0 : Act} {w0 : World} {ι : Type} (holds : ι → Value → World → Prop) (G E : World → Prop) (n : Nat) (xs : List ι) (d : ι)
    (mono : ∀ p v w w', holds p v w → Below w.heap.size w w' → holds p v w')
    (F : (Nat → Value) → Act) (hF : ∀ vs, F vs = putAll vs 0 ops.toList a0) (hm : P.follows .mixedOrders = true) (hf : fitsR ops = true) (hl : lastAll ops n = true)
    (hQ : ∀ c (x y : Act) w, x.defers = y.defers → Q (.panic c) x w → Q (.panic c) y w)
    (h0 : G w0.drew)
    (hstep : AllOps (fun i o => ∀ vs w, G w → AllD (fun j => holds (xs.getD j d) (vs j) w) (depsOf o) →
      ∀ K : Act → World → Prop, stepOr (Nat.beq i n) (∀ v w', E w' → K ((F vs).put o.dst v) w') (∀ v w', Below w.heap.size w w' → G w' → holds (xs.getD i d) v w' → K ((F vs).put o.dst v) w') →
        if Region.wanted o (yielded ops (F vs).tmps) = true then Oper.wp P o (F vs) w K Q else K ((F vs).put o.dst undef) w) 0 ops.toList)
    (hend : ∀ vs w, E w → Q .normal (F vs) w) :
    (Code.region id ops true).wp P Q a0 w0 := by
  simp only [lastAll, Bool.and_eq_true, beq_iff_eq, List.all_eq_true, List.mem_range] at hl
  obtain ⟨hsz, hlast⟩ := hl
  refine region_inv hm hf F hF hQ (fun l vs w => (∀ j, l j = true → ∀ e ∈ depsAt ops j, l e = true) ∧ (l n = true → E w) ∧ (l n = false → G w ∧ ∀ i, l i = true → holds (xs.getD i d) (vs i) w))
    ⟨(fun _ h => by cases h), (fun h => by cases h), fun _ => ⟨h0, (fun _ h => by cases h)⟩⟩ ?_ (fun l vs w hl hJ => hend vs w (hJ.2.1 (hl n (by omega))))
  intro i o ho l vs w ⟨hC, hE, hG⟩ hli hall K hK
  have hi : i < ops.size := (Array.getElem?_eq_some_iff.1 ho).1
  have hd := mem_deps ho hall
  have hC' : ∀ j, updR l i true j = true → ∀ e ∈ depsAt ops j, updR l i true e = true := fun j hj e he => by
    by_cases hei : e = i
    · subst hei; rw [updR_same]
    · rw [updR_ne _ _ hei]
      by_cases hji : j = i
      · subst hji; exact hd e he
      · rw [updR_ne _ _ hji] at hj; exact hC j hj e he
  have hn : l n = false := by
    cases hln : l n with
    | false => rfl
    | true =>
      by_cases e : i = n
      · subst e; rw [hli] at hln; cases hln
      · have := reach_up hC ops.size i n (hC n hln) (hlast i (by omega))
        rw [hli] at this
        cases this
  obtain ⟨hg, hh⟩ := hG hn
  have ho' : ops.toList[i]? = some o := by rw [Array.getElem?_toList]; exact ho
  have go := hstep.get ho'
  rw [Nat.zero_add] at go
  have hdep : AllD (fun j => holds (xs.getD j d) (vs j) w) (depsOf o) := by
    have hdo : depsAt ops i = depsOf o := by simp [depsAt, ho]
    rw [hdo] at hd
    exact AllD.of (fun j hj => hh j hj) (AllL.mk hd)
  refine go vs w hg hdep K ?_
  by_cases e : i = n
  · subst e
    have hb : Nat.beq i i = true := Nat.beq_refl i
    rw [hb]
    exact fun v w' hw => hK v w' ⟨hC', fun _ => hw, fun h => by rw [updR_same] at h; cases h⟩
  · have hb : Nat.beq i n = false := by
      cases h : Nat.beq i n with
      | false => rfl
      | true => exact absurd (Nat.eq_of_beq_eq_true h) e
    rw [hb]
    refine fun v w' hbl hG' hv => hK v w' ⟨hC', fun h => ?_, fun _ => ⟨hG', fun j hj => ?_⟩⟩
    · rw [updR_ne _ _ (Ne.symm e), hn] at h; cases h
    · by_cases ej : j = i
      · subst ej; rw [updR_same]; exact hv
      · rw [updR_ne _ _ ej] at hj ⊢
        exact mono _ _ _ _ (hh j hj) hbl
end Go.Proofs.Ytpckbbjlihhpdaa
namespace Go.Proofs.Ytpckbbjlihhpdaa
open Go.RowKit

def lastBut (ops : Array Oper) (n : Nat) : Bool := (ops.size == n + 2) && ((List.range n).all fun i => reach ops ops.size i n) && (depsAt ops (n + 1)).contains n
theorem region_VT {P : Program} {Q : Exit → Act → World → Prop} {ops : Array Oper} {id : Nat} {a0 : Act} {w0 : World} {ι : Type} (holds : ι → Value → World → Prop) (G : World → Prop) (E : Value → World → Prop) (n : Nat) (xs : List ι) (d : ι)
    (mono : ∀ p v w w', holds p v w → Below w.heap.size w w' → holds p v w')
    (F : (Nat → Value) → Act) (hF : ∀ vs, F vs = putAll vs 0 ops.toList a0) (hm : P.follows .mixedOrders = true) (hf : fitsR ops = true) (hl : lastBut ops n = true)
    (hQ : ∀ c (x y : Act) w, x.defers = y.defers → Q (.panic c) x w → Q (.panic c) y w)
    (h0 : G w0.drew)
    (hstep : AllOps (fun i o => stepOr (Nat.beq i (n + 1))
      (∀ vs w, E (vs n) w → ∀ K : Act → World → Prop, K ((F vs).put o.dst (vs n)) w → if Region.wanted o (yielded ops (F vs).tmps) = true then Oper.wp P o (F vs) w K Q else K ((F vs).put o.dst undef) w)
      (∀ vs w, G w → AllD (fun j => holds (xs.getD j d) (vs j) w) (depsOf o) →
      ∀ K : Act → World → Prop, stepOr (Nat.beq i n) (∀ v w', E v w' → K ((F vs).put o.dst v) w') (∀ v w', Below w.heap.size w w' → G w' → holds (xs.getD i d) v w' → K ((F vs).put o.dst v) w') →
        if Region.wanted o (yielded ops (F vs).tmps) = true then Oper.wp P o (F vs) w K Q else K ((F vs).put o.dst undef) w)) 0 ops.toList)
    (hend : ∀ vs w, E (vs n) w → vs (n + 1) = vs n → Q .normal (F vs) w) :
    (Code.region id ops true).wp P Q a0 w0 := by
  simp only [lastBut, Bool.and_eq_true, beq_iff_eq, List.all_eq_true, List.mem_range, List.contains_iff_mem] at hl
  obtain ⟨⟨hsz, hlast⟩, hdn⟩ := hl
  refine region_inv hm hf F hF hQ (fun l vs w => (∀ j, l j = true → ∀ e ∈ depsAt ops j, l e = true) ∧ (l n = true → E (vs n) w ∧ (l (n + 1) = true → vs (n + 1) = vs n)) ∧ (l n = false → G w ∧ ∀ i, l i = true → holds (xs.getD i d) (vs i) w))
    ⟨(fun _ h => by cases h), (fun h => by cases h), fun _ => ⟨h0, (fun _ h => by cases h)⟩⟩ ?_ (fun l vs w hl hJ => by
      have h1 := hJ.2.1 (hl n (by omega))
      exact hend vs w h1.1 (h1.2 (hl (n + 1) (by omega))))
  intro i o ho l vs w ⟨hC, hE, hG⟩ hli hall K hK
  have hi : i < ops.size := (Array.getElem?_eq_some_iff.1 ho).1
  have hd := mem_deps ho hall
  have hC' : ∀ j, updR l i true j = true → ∀ e ∈ depsAt ops j, updR l i true e = true := fun j hj e he => by
    by_cases hei : e = i
    · subst hei; rw [updR_same]
    · rw [updR_ne _ _ hei]
      by_cases hji : j = i
      · subst hji; exact hd e he
      · rw [updR_ne _ _ hji] at hj; exact hC j hj e he
  have ho' : ops.toList[i]? = some o := by rw [Array.getElem?_toList]; exact ho
  have go := hstep.get ho'
  rw [Nat.zero_add] at go
  by_cases e1 : i = n + 1
  · subst e1
    have hb : Nat.beq (n + 1) (n + 1) = true := Nat.beq_refl _
    rw [hb] at go
    have hln := hd n hdn
    obtain ⟨hEn, _⟩ := hE hln
    refine go vs w hEn K (hK _ _ ⟨hC', fun _ => ?_, fun h => ?_⟩)
    · rw [updR_ne _ _ (by omega : n ≠ n + 1), updR_same]
      exact ⟨hEn, fun _ => updR_same _ _ _⟩
    · rw [updR_ne _ _ (by omega : n ≠ n + 1), hln] at h
      cases h
  · have hb1 : Nat.beq i (n + 1) = false := by
      cases h : Nat.beq i (n + 1) with
      | false => rfl
      | true => exact absurd (Nat.eq_of_beq_eq_true h) e1
    rw [hb1] at go
    have hn : l n = false := by
      cases hln : l n with
      | false => rfl
      | true =>
        by_cases e : i = n
        · subst e; rw [hli] at hln; cases hln
        · have := reach_up hC ops.size i n (hC n hln) (hlast i (by omega))
          rw [hli] at this
          cases this
    have hn1 : l (n + 1) = false := by
      cases h : l (n + 1) with
      | false => rfl
      | true => have := hC (n + 1) h n hdn; rw [hn] at this; cases this
    obtain ⟨hg, hh⟩ := hG hn
    have hdep : AllD (fun j => holds (xs.getD j d) (vs j) w) (depsOf o) := by
      have hdo : depsAt ops i = depsOf o := by simp [depsAt, ho]
      rw [hdo] at hd
      exact AllD.of (fun j hj => hh j hj) (AllL.mk hd)
    refine go vs w hg hdep K ?_
    by_cases e : i = n
    · subst e
      have hb : Nat.beq i i = true := Nat.beq_refl i
      rw [hb]
      exact fun v w' hw => hK v w' ⟨hC', fun _ => ⟨by rw [updR_same]; exact hw, fun h => by rw [updR_ne _ _ (by omega : i + 1 ≠ i), hn1] at h; cases h⟩, fun h => by rw [updR_same] at h; cases h⟩
    · have hb : Nat.beq i n = false := by
        cases h : Nat.beq i n with
        | false => rfl
        | true => exact absurd (Nat.eq_of_beq_eq_true h) e
      rw [hb]
      refine fun v w' hbl hG' hv => hK v w' ⟨hC', fun h => ?_, fun _ => ⟨hG', fun j hj => ?_⟩⟩
      · rw [updR_ne _ _ (Ne.symm e), hn] at h; cases h
      · by_cases ej : j = i
        · subst ej; rw [updR_same]; exact hv
        · rw [updR_ne _ _ ej] at hj ⊢
          exact mono _ _ _ _ (hh j hj) hbl
end Go.Proofs.Ytpckbbjlihhpdaa
