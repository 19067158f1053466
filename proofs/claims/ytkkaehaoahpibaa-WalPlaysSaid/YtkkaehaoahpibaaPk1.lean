/- The document's disk: Find, Used, power. -/
import Derived.Test.YtkkaehaoahpibaaPk0
import Derived.LoopTactic
import Derived.BigQuiet
namespace Go.Proofs.Ytkkaehaoahpibaa
open Go.RowKit

set_option maxRecDepth 100000 in
set_option maxHeartbeats 3200000 in
theorem rjoin_any {w : World} {K cp cq : Nat} {A A2 : Option Addr} {p q : List UInt8} (hp : Bs w K A cp p) (hq : Bs w K A2 cq q) (hK : K ≤ w.heap.size) (hs1 : p.length ≤ 70000000) (hs2 : q.length ≤ 70000000) {L : List UInt8} (hL : L = p ++ q) :
    Calls Try.prog 42 #[.slice A p.length cp, .slice A2 q.length cq] w (NewB w L) := by
  have HLL := Lib.hid hL
  clear hL
  have h1 := hp.le
  have h2 := hp.max
  have h3 := hq.le
  have h4 := hq.max
  unfold maxLen at h2 h4
  have HP := Lib.hid hp
  have HQ := Lib.hid hq
  clear hp hq
  go_enter Try.func42, Try.ntmps42
  go_wp2_with fail
  go_loopw [5, 6] (fun v i wr => ∃ (k c : Nat) (B : Option Addr) (m : Nat), k ≤ p.length ∧ i = .int .i64 (k : Int) ∧ v = .slice B m c ∧ m = k ∧ Ob wr w.heap.size (.slice B m c) (p.take k) ∧ Below w.heap.size w wr) (fun _ i _ => p.length - (intOf i).toNat)
  case atStart => exact ⟨0, 0, none, 0, Nat.zero_le _, rfl, rfl, rfl, by simpa using Ob.empty _ _, Below.refl _ _⟩
  case round =>
    obtain ⟨k, c, B, m, hk, rfl, rfl, hm, hob, hbl⟩ := hrel
    rename World => wr
    have z := hbl.size
    by_cases hlt : k < p.length
    · skip
      obtain ⟨ad, hA, _, hc⟩ := (HP.out.below (hbl.mono hK)).get hlt
      subst hA
      have htk : p.take (k + 1) = p.take k ++ [p[k]] := List.take_succ_eq_append_getElem hlt
      generalize p[k] = x at *
      have hml : m ≤ 140000000 := by omega
      have HT := Lib.hid htk
      have HO := Lib.hid hob
      have HM := Lib.hid hm
      have HL := Lib.hid hbl
      clear htk hob hbl hm
      go_wp2_with (at_builtin; refine wpList_app _ rfl (.tmp 14) (.tmp 19) rfl w.heap.size (.slice B m c) (p.take k) rfl (HO.out.alloc _) (some ⟨wr.heap.size, 0, none⟩) 1 1 [x] rfl rfl (wr.heap.size + 1) (lit_bsF wr _ _ _ rfl #[bv x] 1 [x] rfl rfl (by decide)) (m + 1) (by rw [← HO.out.bs.2]; rfl) (by rw [← HO.out.bs.2]; simp; omega) (by simp; omega) ?_; intro A2 cap2 w2 hown2 hgrow2 hat2; have B2 : Below w.heap.size w w2 := Below.grown (HL.out.alloc z _) hgrow2 (by simp; omega) (fun _ h => (HO.out.lt _ h).1))
      go_roundw
      case rel => exact ⟨k + 1, cap2, A2, m + 1, by omega, by go_num, rfl, by have := HM.out; omega, by rw [HT.out]; exact hown2, B2⟩
      case measure => simp [intOf]; omega
    · obtain rfl : k = p.length := by omega
      rw [List.take_length] at hob
      subst hm
      have HO0 := Lib.hid hob
      have HL0 := Lib.hid hbl
      clear hob hbl
      go_wp2_with fail
      go_loopw [5, 7] (fun v i wr => ∃ (k c : Nat) (B : Option Addr) (m : Nat), k ≤ q.length ∧ i = .int .i64 (k : Int) ∧ v = .slice B m c ∧ m = p.length + k ∧ Ob wr w.heap.size (.slice B m c) (p ++ q.take k) ∧ Below w.heap.size w wr) (fun _ i _ => q.length - (intOf i).toNat)
      case atStart => exact ⟨0, c, B, p.length, Nat.zero_le _, rfl, rfl, rfl, by simpa using HO0.out, HL0.out⟩
      case round =>
        clear z HO0 HL0
        obtain ⟨k, c, B, m, hk, rfl, rfl, hm, hob, hbl⟩ := hrel
        rename World => wr
        have z := hbl.size
        by_cases hlt : k < q.length
        · skip
          obtain ⟨ae, hA, _, hc⟩ := (HQ.out.below (hbl.mono hK)).get hlt
          subst hA
          have htk : q.take (k + 1) = q.take k ++ [q[k]] := List.take_succ_eq_append_getElem hlt
          generalize q[k] = x at *
          have hml : m ≤ 140000000 := by omega
          have HT := Lib.hid htk
          have HO := Lib.hid hob
          have HM := Lib.hid hm
          have HL := Lib.hid hbl
          clear htk hob hbl hm
          go_wp2_with (at_builtin; refine wpList_app _ rfl (.tmp 27) (.tmp 32) rfl w.heap.size (.slice B m c) (p ++ q.take k) rfl (HO.out.alloc _) (some ⟨wr.heap.size, 0, none⟩) 1 1 [x] rfl rfl (wr.heap.size + 1) (lit_bsF wr _ _ _ rfl #[bv x] 1 [x] rfl rfl (by decide)) (m + 1) (by rw [← HO.out.bs.2]; rfl) (by rw [← HO.out.bs.2]; simp; omega) (by simp; omega) ?_; intro A2 cap2 w2 hown2 hgrow2 hat2; have B2 : Below w.heap.size w w2 := Below.grown (HL.out.alloc z _) hgrow2 (by simp; omega) (fun _ h => (HO.out.lt _ h).1))
          go_roundw
          case rel => exact ⟨k + 1, cap2, A2, m + 1, by omega, by go_num, rfl, by have := HM.out; omega, by rw [HT.out, ← List.append_assoc]; exact hown2, B2⟩
          case measure => simp [intOf]; omega
        · obtain rfl : k = q.length := by omega
          rw [List.take_length] at hob
          have hlen : m = L.length := by rw [HLL.out, List.length_append]; exact hm
          rw [← HLL.out] at hob
          clear hm
          subst hlen
          go_wp2
          go_ret
          exact ⟨B, c, rfl, hob, hbl⟩
end Go.Proofs.Ytkkaehaoahpibaa
namespace Go.Proofs.Ytkkaehaoahpibaa
open Go.RowKit

structure Tn (P : Nat → Prop) (w w' : World) : Prop where
  os : w'.os = w.os
  tape : w'.tape = w.tape
  output : w'.output = w.output
  size : w.heap.size ≤ w'.heap.size
  block : ∀ k, k < w.heap.size → ¬ P k → w'.heap[k]? = w.heap[k]?

section
variable {P Q R : Nat → Prop} {w w1 w2 w' : World}
theorem Tn.refl (P : Nat → Prop) (w : World) : Tn P w w := ⟨rfl, rfl, rfl, Nat.le_refl _, fun _ _ _ => rfl⟩
theorem Tn.thenQ (h : Tn P w w1) (h2 : Tn Q w1 w2) (hQ : ∀ k, k < w.heap.size → Q k → P k) : Tn P w w2 :=
  ⟨h2.os.trans h.os, h2.tape.trans h.tape, h2.output.trans h.output, Nat.le_trans h.size h2.size, fun k hk hn =>
    (h2.block k (Nat.lt_of_lt_of_le hk h.size) (fun q => hn (hQ k hk q))).trans (h.block k hk hn)⟩
theorem Tn.then (h : Tn P w w1) (h2 : Tn P w1 w2) : Tn P w w2 := h.thenQ h2 fun _ _ h => h
theorem Tn.mono (h : Tn P w w') (hP : ∀ k, k < w.heap.size → P k → Q k) : Tn Q w w' :=
  ⟨h.os, h.tape, h.output, h.size, fun k hk hn => h.block k hk fun p => hn (hP k hk p)⟩
theorem Tn.ofBelow {B : Nat} (h : Below B w w') : Tn (B ≤ ·) w w' := ⟨h.os, h.tape, h.output, h.size, fun k _ hn => h.block k (by omega)⟩
theorem Tn.ofNew (h : Below w.heap.size w w') : Tn P w w' := ⟨h.os, h.tape, h.output, h.size, fun k hk _ => h.block k hk⟩
theorem Tn.below {B : Nat} (h : Tn P w w') (hB : B ≤ w.heap.size) (hP : ∀ k, k < w.heap.size → P k → B ≤ k) : Below B w w' :=
  ⟨h.os, h.tape, h.output, h.size, fun k hk => h.block k (by omega) fun p => by have := hP k (by omega) p; omega⟩
theorem Tn.ofGrown {row : Option Nat} (h : w.grownBy w' row) : Tn (fun k => some k = row) w w' := ⟨h.os, h.tape, h.output, h.size, fun k hk hn => h.block k hk hn⟩
theorem Tn.setCell (w : World) (b o : Nat) (v : Value) : Tn (· = b) w (w.setCell ⟨b, o, none⟩ v) :=
  ⟨rfl, rfl, rfl, by simp [World.setCell], fun k _ hn => by
    simp only [World.setCell]; rw [Array.getElem?_modify, if_neg (fun e => hn e.symm)]⟩
theorem Tn.alloc (w : World) (o : Obj) : Tn P w (w.alloc o) := ⟨rfl, rfl, rfl, by simp, fun k hk _ => Below.heap_alloc w o k hk⟩
theorem Tn.drew (w : World) : Tn P w w.drew := ⟨rfl, rfl, rfl, Nat.le_refl _, fun _ _ _ => rfl⟩
theorem Tn.cell (h : Tn P w w') {p : Addr} {v : Value} (hc : w.cell? p = some v) (hn : ¬ P p.block) : w'.cell? p = some v :=
  (World.cell?_of_block (h.block _ (World.block_lt_of_cell? w _ hc) hn)).trans hc
theorem Tn.frozen (h : Tn P w w') {p : Addr} (hp : p.block < w.heap.size) (hn : ¬ P p.block) : w'.frozen? p = w.frozen? p :=
  World.frozen?_of_block (h.block _ hp hn)
theorem Tn.ob (h : Tn P w w') {K : Nat} {v : Value} {l : List UInt8} (ho : Ob w K v l) (hn : ∀ k, v.ownBlock = some k → ¬ P k) : Ob w' K v l := by
  have hlt := ho.lt
  rcases ho.2 with ⟨he, h0⟩ | ⟨g, cap', cur, he, hb, hg, hrest⟩
  · exact ⟨ho.1, .inl ⟨he, h0⟩⟩
  · subst he
    exact ⟨ho.1, .inr ⟨g, cap', cur, rfl, hb, (h.block g (hlt g rfl).2 (hn g rfl)).trans hg, hrest⟩⟩
theorem Tn.bs (h : Tn P w w') {K : Nat} {A : Option Addr} {cap : Nat} {l : List UInt8} (hb : Bs w K A cap l) (hn : 0 < l.length → ∀ ad : Addr, A = some ad → ¬ P ad.block) : Bs w' K A cap l :=
  ⟨hb.le, hb.max, hb.nil, fun hl => by
    obtain ⟨ad, e, hk, hc⟩ := hb.at_ hl
    refine ⟨ad, e, hk, fun k c hkc => ?_⟩
    have := hc k c hkc
    have hbl : (ad.add k).block = ad.block := block_of_add ad k
    have hlt := World.block_lt_of_cell? w _ this
    generalize ad.add k = q at *
    obtain ⟨qb, qo, qx⟩ := q
    exact h.cell this (by rw [hbl]; exact hn hl ad e)⟩
end
end Go.Proofs.Ytkkaehaoahpibaa
namespace Go.Proofs.Ytkkaehaoahpibaa
open Go.RowKit

theorem So.tn {α : Type} {enc : α → List Value} {k : Nat} {P : Nat → Prop} {w w' : World} {K : Nat} {T : TypeId} {v : Value} {l : List α} (h : So enc k w K T v l) (t : Tn P w w') (hn : ∀ g, v.ownBlock = some g → ¬ P g) : So enc k w' K T v l := by
  have hlt := h.lt
  rcases h.2 with ⟨he, h0⟩ | ⟨g, cap', cur, he, hb, hg, hrest⟩
  · exact ⟨h.1, .inl ⟨he, h0⟩⟩
  · subst he
    exact ⟨h.1, .inr ⟨g, cap', cur, rfl, hb, (t.block g (hlt g rfl).2 (hn g rfl)).trans hg, hrest⟩⟩
theorem flat_set1 {α : Type} {enc : α → List Value} {k : Nat} (henc : ∀ x, (enc x).length = k) {j : Nat} (hj : j < k) {u : Value} : ∀ (l : List α) (i : Nat) (x y : α), l[i]? = some x → enc y = (enc x).set j u → (l.flatMap enc).set (i * k + j) u = (l.set i y).flatMap enc
  | [], i, x, y, h, _ => by simp at h
  | z :: l, 0, x, y, h, he => by
    simp at h
    subst h
    rw [List.flatMap_cons, Nat.zero_mul, Nat.zero_add, List.set_append_left _ _ (by rw [henc]; exact hj), List.set_cons_zero, List.flatMap_cons, he]
  | z :: l, i + 1, x, y, h, he => by
    have ih := flat_set1 henc hj l i x y (by simpa using h) he
    have e : (i + 1) * k + j - (enc z).length = i * k + j := by rw [henc, Nat.add_mul]; omega
    rw [List.flatMap_cons, List.set_append_right _ _ (by rw [henc, Nat.add_mul]; omega), e, ih, List.set_cons_succ, List.flatMap_cons]
theorem So.set1 {α : Type} {enc : α → List Value} {k : Nat} (henc : ∀ x, (enc x).length = k) {w : World} {K : Nat} {T : TypeId} {g n cap : Nat} {l : List α} (h : So enc k w K T (.slice (some ⟨g, 0, none⟩) n cap) l) {i j : Nat} (hj : j < k) {u : Value} {x y : α} (hx : l[i]? = some x) (he : enc y = (enc x).set j u) :
    So enc k (w.setCell ⟨g, i * k + j, none⟩ u) K T (.slice (some ⟨g, 0, none⟩) n cap) (l.set i y) := by
  obtain ⟨A', c', e⟩ := h.form
  injection e with _ e _
  subst e
  have h1 := (World.ownsRow.stored h (i * k + j) u).1
  unfold So
  rw [List.length_set, ← flat_set1 henc hj l i x y hx he]
  exact h1

/-- A segment of the document's, and where its two rows of bytes lie. -/
structure Rq where
  x : As
  A : Option Addr
  c : Nat
  B : Option Addr
  d : Nat
def encQ (q : Rq) : List Value := [.int .i64 q.x.n, .slice q.A q.x.l q.c, .slice q.B (q.x.b.length - q.x.l) q.d, .bool q.x.k]
theorem encQ_len (q : Rq) : (encQ q).length = 4 := rfl
theorem encQ_one (q : Rq) : ∀ u ∈ encQ q, u.oneCell' = true := by
  intro u hu
  simp [encQ] at hu
  rcases hu with rfl | rfl | rfl | rfl <;> rfl
structure GQ (w : World) (q : Rq) : Prop where
  le : q.x.l ≤ q.x.b.length
  b1 : Bs w w.heap.size q.A q.c (q.x.b.take q.x.l)
  b2 : Bs w w.heap.size q.B q.d (q.x.b.drop q.x.l)
/-- The blocks of a segment's bytes. -/
def fq (q : Rq) (k : Nat) : Prop := (0 < (q.x.b.take q.x.l).length ∧ ∃ ad : Addr, q.A = some ad ∧ ad.block = k) ∨ (0 < (q.x.b.drop q.x.l).length ∧ ∃ ad : Addr, q.B = some ad ∧ ad.block = k)
theorem GQ.lt {w : World} {q : Rq} (h : GQ w q) {k : Nat} (hk : fq q k) : k < w.heap.size := by
  rcases hk with ⟨hl, ad, e, rfl⟩ | ⟨hl, ad, e, rfl⟩
  · obtain ⟨ad', e', hb, _⟩ := h.b1.at_ hl
    rw [e] at e'
    cases e'
    exact hb
  · obtain ⟨ad', e', hb, _⟩ := h.b2.at_ hl
    rw [e] at e'
    cases e'
    exact hb
theorem GQ.tn {P : Nat → Prop} {w w' : World} {q : Rq} (h : GQ w q) (t : Tn P w w') (hn : ∀ k, fq q k → ¬ P k) : GQ w' q :=
  ⟨h.le, (t.bs h.b1 fun hl ad e => hn _ (.inl ⟨hl, ad, e, rfl⟩)).more t.size, (t.bs h.b2 fun hl ad e => hn _ (.inr ⟨hl, ad, e, rfl⟩)).more t.size⟩
abbrev SG : TypeId := 77
/-- The document's disk at block m: its numbers, its row of segments. -/
structure RK (w : World) (m : Nat) (room fuse : Int) (down : Bool) (A : Option Addr) (cap : Nat) (qs : List Rq) : Prop where
  c0 : w.cell? ⟨m, 0, none⟩ = some (.int .i64 room)
  c1 : w.cell? ⟨m, 1, none⟩ = some (.slice A qs.length cap)
  c2 : w.cell? ⟨m, 2, none⟩ = some (.int .i64 fuse)
  c3 : w.cell? ⟨m, 3, none⟩ = some (.bool down)
  fr : ∀ j, w.frozen? ⟨m, j, none⟩ = false
  so : So encQ 4 w 0 SG (.slice A qs.length cap) qs
  nm : (Value.slice A qs.length cap).ownBlock ≠ some m
  gq : ∀ q ∈ qs, GQ w q
  sep : ∀ q ∈ qs, ∀ k, fq q k → k ≠ m ∧ (Value.slice A qs.length cap).ownBlock ≠ some k
/-- The disk's blocks. -/
def fK (m : Nat) (A : Option Addr) (cap : Nat) (qs : List Rq) (k : Nat) : Prop := k = m ∨ (Value.slice A qs.length cap).ownBlock = some k ∨ ∃ q ∈ qs, fq q k
section
variable {P : Nat → Prop} {w w' : World} {m cap : Nat} {room fuse : Int} {down : Bool} {A : Option Addr} {qs : List Rq}
theorem RK.lt (h : RK w m room fuse down A cap qs) {k : Nat} (hk : fK m A cap qs k) : k < w.heap.size := by
  rcases hk with rfl | hk | ⟨q, hq, hk⟩
  · exact World.block_lt_of_cell? w _ h.c0
  · exact (h.so.lt _ hk).2
  · exact (h.gq q hq).lt hk
theorem RK.tn (h : RK w m room fuse down A cap qs) (t : Tn P w w') (hn : ∀ k, fK m A cap qs k → ¬ P k) : RK w' m room fuse down A cap qs := by
  have hm := hn m (.inl rfl)
  have hml : m < w.heap.size := World.block_lt_of_cell? w _ h.c0
  exact ⟨t.cell h.c0 hm, t.cell h.c1 hm, t.cell h.c2 hm, t.cell h.c3 hm, fun j => (t.frozen (p := ⟨m, j, none⟩) hml hm).trans (h.fr j), h.so.tn t fun g hg => hn g (.inr (.inl hg)), h.nm, fun q hq => (h.gq q hq).tn t fun k hk => hn k (.inr (.inr ⟨q, hq, hk⟩)), h.sep⟩
theorem RK.below (h : RK w m room fuse down A cap qs) (hb : Below w.heap.size w w') : RK w' m room fuse down A cap qs := h.tn (Tn.ofNew (P := fun _ => False) hb) fun _ _ h => h
/-- Only m's cells have turned. -/
theorem RK.turnM (h : RK w m room fuse down A cap qs) (t : Tn (· = m) w w') {fuse' : Int} {down' : Bool} (c0 : w'.cell? ⟨m, 0, none⟩ = some (.int .i64 room)) (c1 : w'.cell? ⟨m, 1, none⟩ = some (.slice A qs.length cap)) (c2 : w'.cell? ⟨m, 2, none⟩ = some (.int .i64 fuse')) (c3 : w'.cell? ⟨m, 3, none⟩ = some (.bool down')) (fr : ∀ j, w'.frozen? ⟨m, j, none⟩ = false) : RK w' m room fuse' down' A cap qs :=
  ⟨c0, c1, c2, c3, fr, h.so.tn t fun _ hg e => h.nm (e ▸ hg), h.nm, fun q hq => (h.gq q hq).tn t fun k hk e => (h.sep q hq k hk).1 e, h.sep⟩
theorem RK.setF (h : RK w m room fuse down A cap qs) (x : Int) : RK (w.setCell ⟨m, 2, none⟩ (.int .i64 x)) m room x down A cap qs :=
  h.turnM (Tn.setCell w m 2 _) (by simp [go_sem, h.c0]) (by simp [go_sem, h.c1]) (by simp [go_sem, h.c2]) (by simp [go_sem, h.c3]) (fun j => by simp [go_sem, h.fr])
theorem RK.setG (h : RK w m room fuse down A cap qs) (x : Bool) : RK (w.setCell ⟨m, 3, none⟩ (.bool x)) m room fuse x A cap qs :=
  h.turnM (Tn.setCell w m 3 _) (by simp [go_sem, h.c0]) (by simp [go_sem, h.c1]) (by simp [go_sem, h.c2]) (by simp [go_sem, h.c3]) (fun j => by simp [go_sem, h.fr])
/-- A new row of segments, in a block of its own, takes the place of the old one. -/
theorem RK.newL {B : Option Addr} {c2 : Nat} {rs : List Rq} (h : RK w m room fuse down A cap qs) (so : So encQ 4 w 0 SG (.slice B rs.length c2) rs) (nm : (Value.slice B rs.length c2).ownBlock ≠ some m) (gq : ∀ q ∈ rs, GQ w q) (sep : ∀ q ∈ rs, ∀ k, fq q k → k ≠ m ∧ (Value.slice B rs.length c2).ownBlock ≠ some k) :
    RK (w.setCell ⟨m, 1, none⟩ (.slice B rs.length c2)) m room fuse down B c2 rs := by
  have t := Tn.setCell w m 1 (.slice B rs.length c2)
  exact ⟨by simp [go_sem, h.c0], by simp [go_sem, h.c1], by simp [go_sem, h.c2], by simp [go_sem, h.c3], fun j => by simp [go_sem, h.fr], so.tn t fun _ hg e => nm (e ▸ hg), nm, fun q hq => (gq q hq).tn t fun k hk e => (sep q hq k hk).1 e, sep⟩
theorem RK.addr (h : RK w m room fuse down A cap qs) (hl : 0 < qs.length) : ∃ g, A = some ⟨g, 0, none⟩ := by
  rcases h.so.2 with ⟨_, h0⟩ | ⟨g, cap', cur, he, _⟩
  · omega
  · injection he with h1 _ _
    exact ⟨g, h1⟩
theorem RK.slot {g : Nat} (h : RK w m room fuse down (some ⟨g, 0, none⟩) cap qs) {i : Nat} {q : Rq} (hi : qs[i]? = some q) : (∀ j u, (encQ q)[j]? = some u → w.cell? ⟨g, i * 4 + j, none⟩ = some u) ∧ ∀ j, w.frozen? ⟨g, j, none⟩ = false := by
  refine ⟨fun j u hu => ?_, fun j => World.ownsRow.frozenAt h.so _⟩
  have h1 := World.ownsRow.cells (g := g) h.so rfl _ _ (flatMap_get encQ_len qs i q hi j u hu)
  have e : (⟨g, 0, none⟩ : Addr).add (i * 4 + j) = ⟨g, i * 4 + j, none⟩ := by unfold Addr.add; split <;> simp_all
  rwa [e] at h1
end
abbrev rP (m : Nat) : Value := .pointer (some ⟨m, 0, none⟩)
def fiA (L : List As) (n : Int) : Nat := (L.takeWhile fun x => !decide (x.n = n)).length
def findI (L : List As) (n : Int) : Int := if fiA L n < L.length then (fiA L n : Int) else -1
theorem fi_at {L : List As} {n : Int} {k : Nat} (hk : k < L.length) (h : ∀ j (hj : j < k), L[j].n ≠ n) (hx : L[k].n = n) : fiA L n = k := by
  induction L generalizing k with
  | nil => simp at hk
  | cons x L ih =>
    cases k with
    | zero =>
      simp only [List.getElem_cons_zero] at hx
      unfold fiA
      rw [List.takeWhile_cons, if_neg (by simp [hx])]
      rfl
    | succ k =>
      have h0 := h 0 (by omega)
      simp only [List.getElem_cons_zero] at h0
      have := ih (k := k) (by simpa using hk) (fun j hj => by have := h (j + 1) (by omega); simpa using this) (by simpa using hx)
      unfold fiA at this ⊢
      rw [List.takeWhile_cons, if_pos (by simpa using h0), List.length_cons, this]
theorem fi_all {L : List As} {n : Int} (h : ∀ j (hj : j < L.length), L[j].n ≠ n) : fiA L n = L.length := by
  induction L with
  | nil => rfl
  | cons x L ih =>
    have h0 := h 0 (by simp)
    simp only [List.getElem_cons_zero] at h0
    have := ih fun j hj => by have := h (j + 1) (by simp; omega); simpa using this
    unfold fiA at this ⊢
    rw [List.takeWhile_cons, if_pos (by simpa using h0), List.length_cons, this, List.length_cons]
end Go.Proofs.Ytkkaehaoahpibaa
namespace Go.Proofs.Ytkkaehaoahpibaa
open Go.RowKit Go.BigFrame

section
variable {w : World} {m cap : Nat} {room fuse : Int} {down : Bool} {A : Option Addr} {qs : List Rq}
theorem getD_map {i : Nat} {q : Rq} (h : qs[i]? = some q) : (qs.map Rq.x)[i]? = some q.x := by rw [List.getElem?_map, h]; rfl
set_option maxRecDepth 100000 in
set_option maxHeartbeats 1600000 in
theorem rfind_any (h : RK w m room fuse down A cap qs) (hlen : qs.length ≤ 1025) (n : Int) :
    Calls Try.prog 40 #[rP m, .int .i64 n] w fun e w' => e = .returned (.int .i64 (findI (qs.map Rq.x) n)) ∧ w' = w := by
  have H := Lib.hid h
  have c1 := h.c1
  have hle := (h.so.sr encQ_len).1.le
  have hmx := (h.so.sr encQ_len).1.max
  unfold maxLen at hmx
  clear h
  go_enter Try.func40, Try.ntmps40
  go_wp2
  go_loopw [5] (fun i wr => ∃ (k : Nat), k ≤ qs.length ∧ i = .int .i64 k ∧ Hid (∀ j (hj : j < qs.length), j < k → qs[j].x.n ≠ n) ∧ wr = w) (fun i _ => qs.length - (intOf i).toNat)
  case atStart => exact ⟨0, Nat.zero_le _, rfl, Lib.hid (fun j _ h => absurd h (by omega)), rfl⟩
  case round =>
    obtain ⟨k, hk, rfl, HJ, rfl⟩ := hrel
    by_cases hlt : k < qs.length
    · obtain ⟨g, rfl⟩ := H.out.addr (by omega)
      have hs : wr.cell? ⟨g, k * 4, none⟩ = some (.int .i64 qs[k].x.n) := (H.out.slot (List.getElem?_eq_getElem hlt)).1 0 _ rfl
      have HT : Hid (qs[k].x.n = n → findI (qs.map Rq.x) n = (k : Int)) := Lib.hid fun e => by
        have h1 : fiA (qs.map Rq.x) n = k := fi_at (by simpa using hlt) (fun j hj => by simpa using HJ.out j (by omega) hj) (by simpa using e)
        unfold findI
        rw [h1, if_pos (by simpa using hlt)]
      have HF : Hid (qs[k].x.n ≠ n → ∀ j (hj : j < qs.length), j < k + 1 → qs[j].x.n ≠ n) := Lib.hid fun e j hj hjk => by
        by_cases ej : j = k
        · subst ej; exact e
        · exact HJ.out j hj (by omega)
      generalize qs[k].x.n = x at *
      have i1 : (k : Int) < qs.length := by omega
      by_cases hx : x = n
      · have HI := Lib.hid (HT.out hx)
        have b1 : (x == n) = true := beq_iff_eq.2 hx
        clear hx HT HF HJ
        go_wp2_with fail
        go_ret
        exact ⟨ret_int HI.out.symm, rfl⟩
      · have HI := Lib.hid (HF.out hx)
        have b1 : (x == n) = false := beq_eq_false_iff_ne.2 hx
        clear hx HT HF HJ
        go_wp2_with fail
        go_roundw
        case rel => exact ⟨k + 1, by omega, by go_num, Lib.hid HI.out, trivial⟩
        case measure => simp [intOf]; omega
    · obtain rfl : k = qs.length := by omega
      have HI : Hid (findI (qs.map Rq.x) n = -1) := Lib.hid (by
        have h1 : fiA (qs.map Rq.x) n = (qs.map Rq.x).length := fi_all fun j hj => by
          have := HJ.out j (by simpa using hj) (by simpa using hj)
          simpa using this
        unfold findI
        rw [h1, if_neg (by omega)])
      go_wp2_with fail
      go_ret
      exact ⟨ret_int HI.out.symm, rfl⟩
theorem sum_next {k : Nat} (h : k < qs.length) : sumA ((qs.take (k + 1)).map Rq.x) = sumA ((qs.take k).map Rq.x) + qs[k].x.b.length := by
  rw [List.take_succ_eq_append_getElem h, List.map_append, sumA_append]
  rfl
theorem sum_take (k : Nat) : sumA ((qs.take k).map Rq.x) ≤ sumA (qs.map Rq.x) := by
  have h := congrArg (fun l : List Rq => sumA (l.map Rq.x)) (List.take_append_drop k qs)
  simp only [List.map_append, sumA_append] at h
  omega
set_option maxRecDepth 100000 in
set_option maxHeartbeats 1600000 in
theorem rused_any (h : RK w m room fuse down A cap qs) (hlen : qs.length ≤ 1025) (hsum : sumA (qs.map Rq.x) ≤ 67108864) :
    Calls Try.prog 36 #[rP m] w fun e w' => e = .returned (.int .i64 (sumA (qs.map Rq.x) : Nat)) ∧ Below w.heap.size w w' := by
  have H := Lib.hid h
  have c1 := h.c1
  have hle := (h.so.sr encQ_len).1.le
  have hmx := (h.so.sr encQ_len).1.max
  unfold maxLen at hmx
  clear h
  go_enter Try.func36, Try.ntmps36
  go_wp2
  go_loopw [3, 4] (fun s i wr => ∃ (k q : Nat), k ≤ qs.length ∧ i = .int .i64 k ∧ s = .int .i64 q ∧ Hid (q = sumA ((qs.take k).map Rq.x)) ∧ ∃ nd, wr = w.drewN nd) (fun _ i _ => qs.length - (intOf i).toNat)
  case atStart => exact ⟨0, 0, Nat.zero_le _, rfl, rfl, Lib.hid rfl, 0, rfl⟩
  case round =>
    obtain ⟨k, q, hk, rfl, rfl, HQ, nd, hw⟩ := hrel
    rename World => wr
    have hB : Below w.heap.size w wr := by rw [hw]; exact ⟨rfl, rfl, rfl, Nat.le_refl _, fun _ _ => rfl⟩
    have H2 := Lib.hid (H.out.below hB)
    have HW := Lib.hid hw
    have HB := Lib.hid hB
    have d1 := H2.out.c1
    have hq := HQ.out
    have hst := sum_take (qs := qs) k
    clear hw hB
    by_cases hlt : k < qs.length
    · obtain ⟨g, rfl⟩ := H.out.addr (by omega)
      have s1 := (H2.out.slot (List.getElem?_eq_getElem hlt)).1 1 _ rfl
      have s2 := (H2.out.slot (List.getElem?_eq_getElem hlt)).1 2 _ rfl
      have hgl := (H.out.gq _ (List.getElem_mem hlt)).le
      have hn := sum_next hlt
      have hst2 := sum_take (qs := qs) (k + 1)
      generalize qs[k] = y at *
      have HN : Hid (q + y.x.b.length = sumA ((qs.take (k + 1)).map Rq.x)) := Lib.hid (by rw [hn, hq])
      have hb : q + y.x.b.length ≤ 67108864 := by omega
      obtain ⟨l1, hl1⟩ : ∃ l, l = y.x.l := ⟨_, rfl⟩
      obtain ⟨l2, hl2⟩ : ∃ l, l = y.x.b.length - y.x.l := ⟨_, rfl⟩
      rw [← hl1] at s1
      rw [← hl2] at s2
      have hs12 : q + l1 + l2 = q + y.x.b.length := by omega
      have HS := Lib.hid hs12
      have hb1 : q + l1 ≤ 67108864 := by omega
      have hb2 : q + l1 + l2 ≤ 67108864 := by omega
      have i1 : (k : Int) < qs.length := by omega
      clear hl1 hl2 hgl hn hst hst2 hq hs12 hb
      go_wp2_with fail
      go_quiet (fail)
      go_wp2_with fail
      go_roundw
      case rel => exact ⟨k + 1, q + l1 + l2, by omega, by go_num, by go_num, Lib.hid (by rw [HS.out, HN.out]), by
        obtain hw := HW.out
        rw [hw]
        exact ⟨_, World.drewN_drewN _ _ _⟩⟩
      case measure => simp [intOf]; omega
    · obtain rfl : k = qs.length := by omega
      have HF : Hid (q = sumA (qs.map Rq.x)) := Lib.hid (by rw [hq, List.take_length])
      clear hq hst
      go_wp2_with fail
      go_ret
      exact ⟨ret_int (by rw [HF.out]), HB.out⟩
set_option maxHeartbeats 1600000 in
theorem rpow_yes (h : RK w m room fuse down A cap qs) (hf : fuse ≠ 0) (hf1 : -1 ≤ fuse) (hf2 : fuse ≤ 9223372036854775807) :
    Calls Try.prog 41 #[rP m] w fun e w' => e = .returned (.bool true) ∧ RK w' m room (fz fuse) down A cap qs ∧ Tn (· = m) w w' := by
  have H := Lib.hid h
  have c2 := h.c2
  have fr := h.fr 2
  have b0 : (fuse == 0) = false := beq_eq_false_iff_ne.2 hf
  clear h
  by_cases hp : 0 < fuse
  · have e : fz fuse = fuse - 1 := if_pos hp
    rw [e]
    have ew : wrap64 (fuse - 1) = fuse - 1 := by unfold wrap64; omega
    clear e
    go_enter Try.func41, Try.ntmps41
    go_wp2
    go_ret
    exact ⟨rfl, H.out.setF _, Tn.setCell _ _ _ _⟩
  · have e : fz fuse = fuse := if_neg hp
    rw [e]
    clear e
    go_enter Try.func41, Try.ntmps41
    go_wp2
    go_ret
    exact ⟨rfl, H.out, Tn.refl _ _⟩
set_option maxHeartbeats 1600000 in
theorem rpow_no (h : RK w m room 0 down A cap qs) :
    Calls Try.prog 41 #[rP m] w fun e w' => e = .returned (.bool false) ∧ RK w' m room 0 true A cap qs ∧ Tn (· = m) w w' := by
  have H := Lib.hid h
  have c2 := h.c2
  have c3 := h.c3
  have fr := h.fr 3
  clear h
  go_enter Try.func41, Try.ntmps41
  go_wp2
  go_ret
  exact ⟨rfl, H.out.setG _, Tn.setCell _ _ _ _⟩
end
end Go.Proofs.Ytkkaehaoahpibaa
