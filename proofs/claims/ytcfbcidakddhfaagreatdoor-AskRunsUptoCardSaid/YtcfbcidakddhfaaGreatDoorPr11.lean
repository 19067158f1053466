/- Two labels' order as the program reckons it. -/
import Derived.Test.YtcfbcidakddhfaaGreatDoorPr9
import Derived.Test.YtcfbcidakddhfaaGreatDoorPr5
import Derived.ChangeMaps5
import Derived.ChangeArms
import Derived.Deep.Slices
import Derived.Deep.Fields
import Derived.Test.YtcfbcidakddhfaaGreatDoorPr8
import Derived.Test.YtcfbcidakddhfaaGreatDoorPr3
import Derived.Test.YtcfbcidakddhfaaGreatDoorPr4
import Derived.Test.YtcfbcidakddhfaaGreatDoorRows
import Derived.LoopTactic
namespace Go.Proofs.YtcfbcidakddhfaaGreatDoor
open Go.ChangeShapes Go.WideShapes Go.ChangeAt Go.RowKit Go.Deep

structure Pt where
  set : List Pp
  t : Int
  k : Int
  n : Int
  x : ByteArray
  a : Int
  b : Int
  c : Int
instance : Inhabited Pt := ⟨⟨[], 0, 0, 0, ByteArray.empty, 0, 0, 0⟩⟩
/-- A point, and where its set lies. -/
abbrev Pz := Pt × Option Addr × Nat
def encPz (p : Pz) : List Value := [.slice p.2.1 p.1.set.length p.2.2, .int .i64 p.1.t, .int .i64 p.1.k, .int .i64 p.1.n, .string p.1.x, .int .i64 p.1.a, .int .u32 p.1.b, .int .u32 p.1.c]
theorem encPz_len (p : Pz) : (encPz p).length = 8 := rfl
structure Pok (p : Pt) : Prop where
  t1 : -9223372036854775808 ≤ p.t
  t2 : p.t ≤ 9223372036854775807
  k1 : -9223372036854775808 ≤ p.k
  k2 : p.k ≤ 9223372036854775807
  n1 : -9223372036854775808 ≤ p.n
  n2 : p.n ≤ 9223372036854775807
  a1 : -9223372036854775808 ≤ p.a
  a2 : p.a ≤ 9223372036854775807
  b1 : 0 ≤ p.b
  b2 : p.b ≤ 4294967295
  c1 : 0 ≤ p.c
  c2 : p.c ≤ 4294967295
/-- Points in blocks below K, their sets too. -/
structure Ps (w : World) (K : Nat) (A : Option Addr) (cap : Nat) (l : List Pz) : Prop where
  sr : Sr encPz 8 w K A cap l
  st : ∀ p ∈ l, Lr w K p.2.1 p.2.2 p.1.set
theorem Ps.below {w w' : World} {K cap : Nat} {A : Option Addr} {l : List Pz} (h : Ps w K A cap l) (hb : Below K w w') : Ps w' K A cap l := ⟨h.sr.below hb, fun p hp => (h.st p hp).below hb⟩
theorem Ps.more {w : World} {K K' cap : Nat} {A : Option Addr} {l : List Pz} (h : Ps w K A cap l) (hK : K ≤ K') : Ps w K' A cap l := ⟨h.sr.more hK, fun p hp => (h.st p hp).more hK⟩
theorem Ps.drew {w : World} {K cap : Nat} {A : Option Addr} {l : List Pz} (h : Ps w K A cap l) : Ps w.drew K A cap l := ⟨h.sr.drew, fun p hp => (h.st p hp).drew⟩
theorem Ps.alloc {w : World} {K cap : Nat} {A : Option Addr} {l : List Pz} (h : Ps w K A cap l) (hK : K ≤ w.heap.size) (o : Obj) : Ps (w.alloc o) K A cap l := ⟨h.sr.alloc hK o, fun p hp => (h.st p hp).alloc hK o⟩
theorem Ps.to {w : World} {K cap : Nat} {A : Option Addr} {l : List Pz} (h : Ps w K A cap l) {j : Nat} (hj : j ≤ l.length) : Ps w K A cap (l.take j) := ⟨h.sr.to hj, fun p hp => h.st p (List.mem_of_mem_take hp)⟩
theorem Ps.from {w : World} {K cap : Nat} {A : Option Addr} {l : List Pz} (h : Ps w K A cap l) {j : Nat} (hj : j ≤ l.length) : Ps w K (if cap = j then A else A.map (·.add (j * 8))) (cap - j) (l.drop j) := ⟨h.sr.from hj, fun p hp => h.st p (List.mem_of_mem_drop hp)⟩

set_option maxRecDepth 100000 in
theorem open_prs1 {H : Type} {enc : TypeId × Value → H} {W : World} {fuel : Nat} {cs : List Value} {d : DataW H} {p : List MemPlace}
    (hf : DataW.trod enc Tryz.prog W 0 (fun _ => true) true fuel 62 cs = some (d, p)) :
    ∃ A cap l, cs = [.slice A l.length cap] ∧ Lr W W.heap.size A cap l ∧ l.length ≤ Rows.uptoBulk d ∧ ∀ x ∈ l, x.1.size ≤ Rows.uptoBulk d ∧ x.2.size ≤ Rows.uptoBulk d := by
  rcases open_slice Tryz.underlying62 hf with ⟨hcs, hx⟩ | ⟨a, len, cap, m, n, D, Pl, hcs, _, hl, hmx, hmm, hx, hi⟩
  · subst hcs
    exact ⟨none, 0, [], rfl, Sr.none_ _ _, by simp, fun x hx => by simp at hx⟩
  · subst hcs
    have hlm : len ≤ m := by rw [hmm]; split <;> omega
    have each : ∀ i, i < len → ∃ x : Pp, W.cell? (a.add (i * 2)) = some (.string x.1) ∧ W.cell? (a.add (i * 2 + 1)) = some (.string x.2) ∧ D i = .agg [.lit (.string x.1.data.toList), .lit (.string x.2.data.toList)] := fun i hil => by
      obtain ⟨cs', hc, ht⟩ := hi i (by omega)
      rw [cells_rp] at hc
      obtain ⟨_, hcl, hat⟩ := World.cells?_some hc
      obtain ⟨ys, n', _, hy, _, hlen, hg⟩ := DataW.trod_struct Tryz.underlying92 ht
      match cs', hcl with
      | [u0, u1], _ =>
        have hone := one_rp Tryz.underlying92
        have g0 := hg 0 _ rfl
        have g1 := hg 1 _ rfl
        obtain ⟨o0, k0⟩ := hone_of hone 0 _ rfl
        obtain ⟨o1, k1⟩ := hone_of hone 1 _ rfl
        rw [o0, k0] at g0
        rw [o1, k1] at g1
        simp only [List.drop_zero, List.take_succ_cons, List.take_zero, List.drop_succ_cons] at g0 g1
        match ys, hlen with
        | [y0, y1], _ =>
          obtain ⟨s0, e0, d0, _⟩ := DataW.trod_string Tryz.underlying9 g0
          obtain ⟨s1, e1, d1, _⟩ := DataW.trod_string Tryz.underlying9 g1
          simp at e0 e1
          subst e0 e1 d0 d1
          have h0 := hat 0 (by omega)
          have h1 := hat 1 (by omega)
          rw [Go.Deep.add_add] at h0 h1
          rw [Nat.add_zero] at h0
          simp only [Prod.mk.injEq] at hy
          exact ⟨(s0, s1), h0, h1, by rw [hy.1]; rfl⟩
    obtain ⟨f, hf'⟩ := choose_lt each
    have hll : ((List.range len).map f).length = len := by simp
    simp only [Prod.mk.injEq] at hx
    have hbulk := len_le_bulk ((List.range len).map D)
    simp only [List.length_map, List.length_range] at hbulk
    refine ⟨some a, cap, (List.range len).map f, by rw [hll], ⟨by rw [hll]; exact hl, hmx, (fun h => by cases h), fun hn => ⟨a, rfl, ?_, fun i x hk => ?_⟩⟩, ?_, ?_⟩
    · rw [hll] at hn
      have := World.block_lt_of_cell? W _ (hf' 0 hn).1
      rwa [el_block_of_add] at this
    · simp only [List.getElem?_map, Option.map_eq_some_iff] at hk
      obtain ⟨j, hj, he⟩ := hk
      obtain ⟨hj1, hj2⟩ := List.getElem?_eq_some_iff.1 hj
      simp at hj1 hj2
      subst hj2
      have h2 := hf' i hj1
      rw [he] at h2
      intro q u hu
      match q, hu with
      | 0, hu =>
        simp [encP] at hu
        subst hu
        exact h2.1
      | 1, hu =>
        simp [encP] at hu
        subst hu
        exact h2.2.1
    · rw [hll, hx.1]
      simp only [Rows.uptoBulk]
      omega
    · intro x hxm
      obtain ⟨i, hi1, rfl⟩ := List.mem_map.1 hxm
      rw [List.mem_range] at hi1
      have hD := (hf' i hi1).2.2
      have hmem : D i ∈ (List.range len).map D := List.mem_map.2 ⟨i, List.mem_range.2 hi1, rfl⟩
      have hb := bulk_mem _ _ hmem
      rw [hD] at hb
      simp only [Rows.uptoBulk, Rows.uptoBulkAll] at hb
      have l1 : (f i).1.data.toList.length = (f i).1.size := by simp
      have l2 : (f i).2.data.toList.length = (f i).2.size := by simp
      rw [hx.1]
      simp only [Rows.uptoBulk]
      omega
theorem cells_pt : Tryz.prog.cellsOf 65 = 8 := by kernel_rfl
theorem cells_psl : Tryz.prog.cellsOf 62 = 1 := by kernel_rfl
theorem cells_pi64 : Tryz.prog.cellsOf 2 = 1 := by kernel_rfl
theorem cells_pint : Tryz.prog.cellsOf 3 = 1 := by kernel_rfl
theorem cells_pstr : Tryz.prog.cellsOf 9 = 1 := by kernel_rfl
theorem cells_pst : Tryz.prog.cellsOf 63 = 3 := by kernel_rfl
theorem cells_pu32 : Tryz.prog.cellsOf 48 = 1 := by kernel_rfl
theorem wf_pi64 {n : Int} (h : (Lit.int .i64 n).wf = true) : -9223372036854775808 ≤ n ∧ n ≤ 9223372036854775807 := by simpa [Lit.wf, IntKind.min, IntKind.max, IntKind.signed, IntKind.bits] using h
theorem wf_pu32 {n : Int} (h : (Lit.int .u32 n).wf = true) : 0 ≤ n ∧ n ≤ 4294967295 := by simpa [Lit.wf, IntKind.min, IntKind.max, IntKind.signed, IntKind.bits] using h
set_option maxRecDepth 100000 in
theorem open_pt {H : Type} {enc : TypeId × Value → H} {W : World} {fuel : Nat} {u0 u1 u2 u3 u4 u5 u6 u7 : Value} {d : DataW H} {p : List MemPlace} (ht : DataW.trod enc Tryz.prog W 0 (fun _ => true) true fuel 65 [u0, u1, u2, u3, u4, u5, u6, u7] = some (d, p)) :
    ∃ x : Pz, [u0, u1, u2, u3, u4, u5, u6, u7] = encPz x ∧ Lr W W.heap.size x.2.1 x.2.2 x.1.set ∧ Pok x.1 ∧ x.1.set.length ≤ Rows.uptoBulk d ∧ (∀ y ∈ x.1.set, y.1.size ≤ Rows.uptoBulk d ∧ y.2.size ≤ Rows.uptoBulk d) ∧ x.1.x.size ≤ Rows.uptoBulk d := by
  obtain ⟨ys, n', _, hy, _, hyl, hf⟩ := DataW.trod_struct Tryz.underlying65 ht
  match ys, hyl with
  | [(d0, p0), y1, y2, y3, y4, y5], _ =>
    have h0 := hf 0 _ rfl
    have h1 := hf 1 _ rfl
    have h2 := hf 2 _ rfl
    have h3 := hf 3 _ rfl
    have h4 := hf 4 _ rfl
    have h5 := hf 5 _ rfl
    simp [cells_psl, cells_pi64, cells_pint, cells_pstr, cells_pst] at h0 h1 h2 h3 h4 h5
    obtain ⟨zs, n2, _, _, _, hzl, hg⟩ := DataW.trod_struct Tryz.underlying63 h5
    match zs, hzl with
    | [z0, z1, z2], _ =>
      have g0 := hg 0 _ rfl
      have g1 := hg 1 _ rfl
      have g2 := hg 2 _ rfl
      simp [cells_pi64, cells_pu32] at g0 g1 g2
      obtain ⟨A, cap, l, e0, hl, hn, hs⟩ := open_prs1 h0
      obtain ⟨t, e1, _, w1⟩ := DataW.trod_int Tryz.underlying2 h1
      obtain ⟨k, e2, _, w2⟩ := DataW.trod_int Tryz.underlying3 h2
      obtain ⟨n, e3, _, w3⟩ := DataW.trod_int Tryz.underlying2 h3
      obtain ⟨s, e4, hs4, hs5⟩ := DataW.trod_string Tryz.underlying9 h4
      obtain ⟨a, e5, _, w5⟩ := DataW.trod_int Tryz.underlying2 g0
      obtain ⟨b, e6, _, w6⟩ := DataW.trod_int Tryz.underlying48 g1
      obtain ⟨c, e7, _, w7⟩ := DataW.trod_int Tryz.underlying48 g2
      simp at e0 e1 e2 e3 e4 e5 e6 e7
      subst e0 e1 e2 e3 e4 e5 e6 e7 hs4
      simp only [Prod.mk.injEq] at hy
      have hb : Rows.uptoBulk d0 ≤ Rows.uptoBulk d ∧ s.size ≤ Rows.uptoBulk d := by
        rw [hy.1]
        simp only [List.map_cons, List.map_nil, Rows.uptoBulk, Rows.uptoBulkAll]
        have hsl : s.data.toList.length = s.size := by simp
        omega
      have b1 := wf_pi64 w1
      have b2 := wf_pi64 w2
      have b3 := wf_pi64 w3
      have b5 := wf_pi64 w5
      have b6 := wf_pu32 w6
      have b7 := wf_pu32 w7
      exact ⟨(⟨l, t, k, n, s, a, b, c⟩, A, cap), rfl, hl, ⟨b1.1, b1.2, b2.1, b2.2, b3.1, b3.2, b5.1, b5.2, b6.1, b6.2, b7.1, b7.2⟩, Nat.le_trans hn hb.1, fun y hy => ⟨Nat.le_trans (hs y hy).1 hb.1, Nat.le_trans (hs y hy).2 hb.1⟩, hb.2⟩
set_option maxRecDepth 100000 in
/-- A slice of points among a law's arguments, or in one. -/
theorem open_pts1 {H : Type} {enc : TypeId × Value → H} {W : World} {fuel : Nat} {cs : List Value} {d : DataW H} {p : List MemPlace}
    (hf : DataW.trod enc Tryz.prog W 0 (fun _ => true) true fuel 25 cs = some (d, p)) :
    ∃ A cap l, cs = [.slice A l.length cap] ∧ Ps W W.heap.size A cap l ∧ l.length ≤ Rows.uptoBulk d ∧ (∀ x ∈ l, Pok x.1) ∧ ∀ x ∈ l, x.1.set.length ≤ Rows.uptoBulk d ∧ (∀ y ∈ x.1.set, y.1.size ≤ Rows.uptoBulk d ∧ y.2.size ≤ Rows.uptoBulk d) ∧ x.1.x.size ≤ Rows.uptoBulk d := by
  rcases open_slice Tryz.underlying25 hf with ⟨hcs, hx⟩ | ⟨a, len, cap, m, n, D, Pl, hcs, _, hl, hmx, hmm, hx, hi⟩
  · subst hcs
    exact ⟨none, 0, [], rfl, ⟨Sr.none_ _ _, fun p hp => by simp at hp⟩, by simp, fun x hx => by simp at hx, fun x hx => by simp at hx⟩
  · subst hcs
    have hlm : len ≤ m := by rw [hmm]; split <;> omega
    have each : ∀ i, i < len → ∃ x : Pz, (∀ j u, (encPz x)[j]? = some u → W.cell? (a.add (i * 8 + j)) = some u) ∧ Lr W W.heap.size x.2.1 x.2.2 x.1.set ∧ Pok x.1 ∧ x.1.set.length ≤ Rows.uptoBulk (D i) ∧ (∀ y ∈ x.1.set, y.1.size ≤ Rows.uptoBulk (D i) ∧ y.2.size ≤ Rows.uptoBulk (D i)) ∧ x.1.x.size ≤ Rows.uptoBulk (D i) := fun i hil => by
      obtain ⟨cs', hc, ht⟩ := hi i (by omega)
      rw [cells_pt] at hc
      obtain ⟨_, hcl, hat⟩ := World.cells?_some hc
      match cs', hcl with
      | [u0, u1, u2, u3, u4, u5, u6, u7], _ =>
        obtain ⟨x, hx1, hx2, hx3, hx4, hx5, hx6⟩ := open_pt ht
        refine ⟨x, fun j u hj => ?_, hx2, hx3, hx4, hx5, hx6⟩
        rw [← hx1] at hj
        have hj8 : j < 8 := by
          rcases Nat.lt_or_ge j 8 with h | h
          · exact h
          · rw [List.getElem?_eq_none (by simpa using h)] at hj; cases hj
        have h9 := hat j (by simpa using hj8)
        rw [Go.Deep.add_add] at h9
        rw [h9]
        simpa using hj
    obtain ⟨f, hf'⟩ := choose_lt each
    have hll : ((List.range len).map f).length = len := by simp
    simp only [Prod.mk.injEq] at hx
    have hbulk := len_le_bulk ((List.range len).map D)
    simp only [List.length_map, List.length_range] at hbulk
    have hD : ∀ i, i < len → Rows.uptoBulk (D i) ≤ Rows.uptoBulk d := fun i hi1 => by
      have hmem : D i ∈ (List.range len).map D := List.mem_map.2 ⟨i, List.mem_range.2 hi1, rfl⟩
      have hb := bulk_mem _ _ hmem
      rw [hx.1]
      simp only [Rows.uptoBulk]
      omega
    refine ⟨some a, cap, (List.range len).map f, by rw [hll], ⟨⟨by rw [hll]; exact hl, hmx, (fun h => by cases h), fun hn => ⟨a, rfl, ?_, fun i x hk => ?_⟩⟩, fun x hxm => ?_⟩, ?_, fun x hxm => ?_, fun x hxm => ?_⟩
    · rw [hll] at hn
      have := World.block_lt_of_cell? W _ ((hf' 0 hn).1 0 _ rfl)
      rwa [el_block_of_add] at this
    · simp only [List.getElem?_map, Option.map_eq_some_iff] at hk
      obtain ⟨j, hj, he⟩ := hk
      obtain ⟨hj1, hj2⟩ := List.getElem?_eq_some_iff.1 hj
      simp at hj1 hj2
      subst hj2
      have h2 := (hf' i hj1).1
      rw [he] at h2
      exact h2
    · obtain ⟨i, hi1, rfl⟩ := List.mem_map.1 hxm
      exact (hf' i (List.mem_range.1 hi1)).2.1
    · rw [hll, hx.1]
      simp only [Rows.uptoBulk]
      omega
    · obtain ⟨i, hi1, rfl⟩ := List.mem_map.1 hxm
      exact (hf' i (List.mem_range.1 hi1)).2.2.1
    · obtain ⟨i, hi1, rfl⟩ := List.mem_map.1 hxm
      obtain ⟨_, _, _, h4, h5, h6⟩ := hf' i (List.mem_range.1 hi1)
      have hb := hD i (List.mem_range.1 hi1)
      exact ⟨Nat.le_trans h4 hb, fun y hy => ⟨Nat.le_trans (h5 y hy).1 hb, Nat.le_trans (h5 y hy).2 hb⟩, Nat.le_trans h6 hb⟩
set_option maxRecDepth 100000 in
theorem open_pts {H : Type} {enc : TypeId × Value → H} {W : World} {base : Nat} {v : Value} {d : DataW H} {p : List MemPlace}
    (hv : Value.okWide Tryz.prog W .any base 25 v) (h : DataW.Trod enc Tryz.prog W 0 (fun _ => true) true 25 v d p) :
    ∃ A cap l, v = .slice A l.length cap ∧ Ps W W.heap.size A cap l ∧ l.length ≤ Rows.uptoBulk d ∧ (∀ x ∈ l, Pok x.1) ∧ ∀ x ∈ l, x.1.set.length ≤ Rows.uptoBulk d ∧ (∀ y ∈ x.1.set, y.1.size ≤ Rows.uptoBulk d ∧ y.2.size ≤ Rows.uptoBulk d) ∧ x.1.x.size ≤ Rows.uptoBulk d := by
  obtain ⟨a1, len, cap1, rfl⟩ := okWide_slice Tryz.underlying25 hv
  obtain ⟨fuel, hf⟩ := h
  obtain ⟨A, cap, l, e, h1⟩ := open_pts1 (cs := [.slice a1 len cap1]) (by simpa [Value.cells] using hf)
  simp at e
  obtain ⟨rfl, rfl, rfl⟩ := e
  exact ⟨_, _, l, rfl, h1⟩
end Go.Proofs.YtcfbcidakddhfaaGreatDoor
namespace Go.Proofs.YtcfbcidakddhfaaGreatDoor
open Go.RowKit

/-- Nothing but draws. -/
def Dn (w w' : World) : Prop := ∃ m, w' = w.drewN m
theorem Dn.drewN {w w' : World} (h : Dn w w') (n : Nat) : Dn w (w'.drewN n) := by
  obtain ⟨m, rfl⟩ := h
  exact ⟨m + n, World.drewN_drewN _ _ _⟩
theorem Dn.lr {w w' : World} {K cap : Nat} {A : Option Addr} {l : List Pp} (h : Dn w w') (hl : Lr w K A cap l) : Lr w' K A cap l := by
  obtain ⟨m, rfl⟩ := h
  exact hl.drewN m
set_option maxRecDepth 100000 in
set_option maxHeartbeats 3200000 in
theorem rCompareQ_any (K : Nat) (A B : Option Addr) (n m cap cbp : Nat) (a b : List Pp) (w : World) (hn : a.length = n) (hm : b.length = m) (ha : Lr w K A cap a) (hb : Lr w K B cbp b) :
    Calls Tryz.prog 14 #[.slice A n cap, .slice B m cbp] w fun e w' => e = .returned (.int .i64 (cmpL a b)) ∧ Dn w w' := by
  subst hn hm
  have hle := ha.le
  have hmax := ha.max
  have hle2 := hb.le
  have hmax2 := hb.max
  unfold maxLen at hmax hmax2
  go_enter Tryz.func14, Tryz.ntmps14
  go_wp2
  go_loopw [5] (fun i wr => ∃ k : Nat, k ≤ a.length ∧ k ≤ b.length ∧ i = .int .i64 k ∧ Hid (cmpL a b = cmpL (a.drop k) (b.drop k)) ∧ Dn w wr) (fun i _ => a.length - (intOf i).toNat)
  case atStart => exact ⟨0, Nat.zero_le _, Nat.zero_le _, rfl, Lib.hid rfl, ⟨0, rfl⟩⟩
  case round =>
    obtain ⟨k, hk, hk2, rfl, HT, hdn⟩ := hrel
    have ha := hdn.lr ha
    have hb := hdn.lr hb
    have HDN := Lib.hid hdn
    clear hdn
    by_cases hlt : k < a.length
    · by_cases hlt2 : k < b.length
      · obtain ⟨ad, rfl, hadK, h1, h2⟩ := lr_at ha hlt
        obtain ⟨bd, rfl, hbdK, h3, h4⟩ := lr_at hb hlt2
        have hstep := cmpL_step hlt hlt2
        generalize (a.getD k nilP).1 = xn at *
        generalize (a.getD k nilP).2 = xv at *
        generalize (b.getD k nilP).1 = yn at *
        generalize (b.getD k nilP).2 = yv at *
        unfold ltB at hstep
        have i1 : (k : Int) < a.length := by omega
        have i2 : (k : Int) < b.length := by omega
        by_cases q1 : (xn.toList == yn.toList) = true
        · by_cases q2 : (xv.toList == yv.toList) = true
          · have HN : Hid (cmpL a b = cmpL (a.drop (k + 1)) (b.drop (k + 1))) := Lib.hid (by rw [HT.out, hstep, q1, q2]; rfl)
            clear hstep
            go_wp2_with fail
            go_quiet (fail)
            go_wp2_with fail
            go_quiet (fail)
            go_wp2_with fail
            go_roundw
            case rel => exact ⟨k + 1, by omega, by omega, by go_num, HN, (by (repeat (first | exact HDN.out | apply Dn.drewN)))⟩
            case measure => simp [intOf]; omega
          · have q2 : (xv.toList == yv.toList) = false := by simpa using q2
            by_cases q3 : Op.bytesLess xv.toList yv.toList = true
            · have HF : Hid (cmpL a b = -1) := Lib.hid (by rw [HT.out, hstep, q1, q2, q3]; rfl)
              clear hstep
              go_wp2_with fail
              go_quiet (fail)
              go_wp2_with fail
              go_quiet (fail)
              go_wp2_with fail
              go_quiet (fail)
              go_wp2_with fail
              go_ret
              exact ⟨ret_int HF.out.symm, (by (repeat (first | exact HDN.out | apply Dn.drewN)))⟩
            · have q3 : Op.bytesLess xv.toList yv.toList = false := by simpa using q3
              have HF : Hid (cmpL a b = 1) := Lib.hid (by rw [HT.out, hstep, q1, q2, q3]; rfl)
              clear hstep
              go_wp2_with fail
              go_quiet (fail)
              go_wp2_with fail
              go_quiet (fail)
              go_wp2_with fail
              go_quiet (fail)
              go_wp2_with fail
              go_ret
              exact ⟨ret_int HF.out.symm, (by (repeat (first | exact HDN.out | apply Dn.drewN)))⟩
        · have q1 : (xn.toList == yn.toList) = false := by simpa using q1
          by_cases q3 : Op.bytesLess xn.toList yn.toList = true
          · have HF : Hid (cmpL a b = -1) := Lib.hid (by rw [HT.out, hstep, q1, q3]; rfl)
            clear hstep
            go_wp2_with fail
            go_quiet (fail)
            go_wp2_with fail
            go_quiet (fail)
            go_wp2_with fail
            go_ret
            exact ⟨ret_int HF.out.symm, (by (repeat (first | exact HDN.out | apply Dn.drewN)))⟩
          · have q3 : Op.bytesLess xn.toList yn.toList = false := by simpa using q3
            have HF : Hid (cmpL a b = 1) := Lib.hid (by rw [HT.out, hstep, q1, q3]; rfl)
            clear hstep
            go_wp2_with fail
            go_quiet (fail)
            go_wp2_with fail
            go_quiet (fail)
            go_wp2_with fail
            go_ret
            exact ⟨ret_int HF.out.symm, (by (repeat (first | exact HDN.out | apply Dn.drewN)))⟩
      · have HF : Hid (cmpL a b = 1) := Lib.hid (by rw [HT.out]; exact cmpL_right hlt (by omega))
        have hg : b.length < a.length := by omega
        go_wp2_with fail
        go_ret
        exact ⟨ret_int HF.out.symm, HDN.out⟩
    · have hke : k = a.length := by omega
      by_cases hlt2 : k < b.length
      · have HF : Hid (cmpL a b = -1) := Lib.hid (by rw [HT.out]; exact cmpL_left (by omega) hlt2)
        have hg : a.length < b.length := by omega
        have HE := Lib.hid hke
        clear hke
        go_wp2_with fail
        go_ret
        exact ⟨ret_int HF.out.symm, HDN.out⟩
      · have HF : Hid (cmpL a b = 0) := Lib.hid (by rw [HT.out]; exact cmpL_both (by omega) (by omega))
        have hg : ¬ a.length < b.length := by omega
        have hg2 : ¬ b.length < a.length := by omega
        have HE := Lib.hid hke
        clear hke
        go_wp2_with fail
        go_ret
        exact ⟨ret_int HF.out.symm, HDN.out⟩
theorem rSameQ_any (K : Nat) (A B : Option Addr) (n m cap cbp : Nat) (a b : List Pp) (w : World) (hn : a.length = n) (hm : b.length = m) (ha : Lr w K A cap a) (hb : Lr w K B cbp b) :
    Calls Tryz.prog 23 #[.slice A n cap, .slice B m cbp] w fun e w' => e = .returned (.bool (cmpL a b == 0)) ∧ Dn w w' := by
  have HC := Lib.hid (rCompareQ_any K A B n m cap cbp a b w hn hm ha hb)
  clear hn hm ha hb
  generalize cmpL a b = r at *
  go_enter Tryz.func23, Tryz.ntmps23
  go_wp2_with (go_at_call 14; refine HC.out.mono ?_; rintro e w1 ⟨rfl, hd⟩)
  go_ret
  exact ⟨rfl, hd⟩
end Go.Proofs.YtcfbcidakddhfaaGreatDoor
namespace Go.Proofs.YtcfbcidakddhfaaGreatDoor
open Go.RowKit

/-- A rule's three cells. -/
def encR (x : Rp) : List Value := [.string x.1, .int .i64 x.2.1, .string x.2.2]
theorem encR_len (x : Rp) : (encR x).length = 3 := rfl
theorem encR_one (x : Rp) : ∀ u ∈ encR x, u.oneCell' = true := by intro u hu; simp [encR] at hu; rcases hu with rfl | rfl | rfl <;> rfl
theorem info_ar : (Tryz.prog.info? 108).map (fun i => (i.zero, i.size, i.bytes)) = some (some (.agg #[.string ⟨#[]⟩, .int .i64 0, .string ⟨#[]⟩]), 3, 40) := by kernel_rfl
theorem info_dr : (Tryz.prog.info? 107).map (fun i => (i.zero, i.size, i.bytes)) = some (some (.agg #[.string ⟨#[]⟩, .int .i64 0, .string ⟨#[]⟩]), 3, 40) := by kernel_rfl

abbrev Rr (w : World) (K : Nat) (A : Option Addr) (cap : Nat) (l : List Rp) : Prop := Sr encR 3 w K A cap l
abbrev Ra (w : World) (K : Nat) (v : Value) (l : List Rp) : Prop := So encR 3 w K 108 v l
abbrev Rd (w : World) (K : Nat) (v : Value) (l : List Rp) : Prop := So encR 3 w K 107 v l
theorem rr_cells {w : World} {K cap : Nat} {A : Option Addr} {l : List Rp} (h : Rr w K A cap l) {i : Nat} (hi : i < l.length) : ∃ ad : Addr, A = some ad ∧ ad.block < K ∧ w.cell? (ad.add (i * 3)) = some (.string l[i].1) ∧ w.cell? ⟨(ad.add (i * 3)).block, (ad.add (i * 3)).off + 1, none⟩ = some (.int .i64 l[i].2.1) ∧ w.cell? ⟨(ad.add (i * 3)).block, (ad.add (i * 3)).off + 2, none⟩ = some (.string l[i].2.2) := by
  obtain ⟨ad, e, hb, h0, h1⟩ := h.get2 hi
  exact ⟨ad, e, hb, h0 _ rfl, h1 1 _ (by decide) rfl, h1 2 _ (by decide) rfl⟩
theorem rr_at {w : World} {K cap : Nat} {A : Option Addr} {l : List Rp} (h : Rr w K A cap l) {i : Nat} (hi : i < l.length) : ∃ ad : Addr, A = some ad ∧ ad.block < K ∧ w.cell? (ad.add (i * 3)) = some (.string (l.getD i nilR).1) ∧ w.cell? ⟨(ad.add (i * 3)).block, (ad.add (i * 3)).off + 1, none⟩ = some (.int .i64 (l.getD i nilR).2.1) ∧ w.cell? ⟨(ad.add (i * 3)).block, (ad.add (i * 3)).off + 2, none⟩ = some (.string (l.getD i nilR).2.2) := by
  rw [getR_eq hi]
  exact rr_cells h hi

/-- A new slice of the rules l; nothing else has turned. -/
def NewR (w : World) (l : List Rp) (e : Ending) (w' : World) : Prop :=
  ∃ A' cap', e = .returned (.slice A' l.length cap') ∧ Ra w' w.heap.size (.slice A' l.length cap') l ∧ Below w.heap.size w w'
def NewRd (w : World) (l : List Rp) (e : Ending) (w' : World) : Prop :=
  ∃ A' cap', e = .returned (.slice A' l.length cap') ∧ Rd w' w.heap.size (.slice A' l.length cap') l ∧ Below w.heap.size w w'

set_option maxHeartbeats 1600000 in
theorem toR_any (K : Nat) (A : Option Addr) (n cap : Nat) (l : List Rp) (w : World) (hln : l.length = n) (hp : Rr w K A cap l) (hK : K ≤ w.heap.size) (hl : l.length * 40 ≤ 140737488355328) :
    Calls Tryz.prog 18 #[.slice A n cap] w (NewR w l) := by
  subst hln
  have hle := hp.le
  have hmax := hp.max
  unfold maxLen at hmax
  go_enter Tryz.func18, Tryz.ntmps18
  go_wp2
  go_loopw [3, 8] (fun v i wr => ∃ (k c : Nat) (B : Option Addr), k ≤ l.length ∧ i = .int .i64 k ∧ v = .slice B k c ∧ Ra wr w.heap.size (.slice B k c) (l.take k) ∧ Below w.heap.size w wr) (fun _ i _ => l.length - (intOf i).toNat)
  case atStart => exact ⟨0, 0, none, Nat.zero_le _, rfl, rfl, by simpa using So.empty _ _ _ _ _, Below.refl _ _⟩
  case round =>
    obtain ⟨k, c, B, hk, rfl, rfl, hps, hbl⟩ := hrel
    have z := hbl.size
    by_cases hlt : k < l.length
    · obtain ⟨ad, rfl, hadK, h1, h2, h3⟩ := rr_cells (hp.below (hbl.mono hK)) hlt
      have htk : l.take (k + 1) = l.take k ++ [l[k]] := List.take_succ_eq_append_getElem hlt
      have hln : (l.take k).length = k := by simp; omega
      generalize l[k] = x at *
      obtain ⟨xn, xo, xv⟩ := x
      simp only at h1 h2 h3
      have HT := Lib.hid htk
      have HL := Lib.hid hln
      have hps1 := hps.alloc (.cells #[.string xn, .int .i64 xo, .string xv] 107)
      clear htk hln
      go_wp2_with (at_builtin; refine wpList_pushE Tryz.underlying34 info_ar rfl (by decide) (wr.alloc (.cells #[.string xn, .int .i64 xo, .string xv] 107)) rfl (.tmp 12) (.tmp 20) rfl w.heap.size (.slice B k c) (l.take k) rfl hps1 (xn, xo, xv) _ rfl rfl (encR_one _) _ (wr.heap.size + 1) (by simp) rfl (k + 1) (by rw [HL.out]) (by unfold maxLen; omega) (by omega) (by omega) ?_; intro A2 cap2 w2 hps2 hgrow2 hat2; have B2 : Below w.heap.size w w2 := grown_belowE (hbl.alloc z _) hgrow2 (by simp; omega) (fun _ h => (hps1.lt _ h).1))
      go_roundw
      case rel => exact ⟨k + 1, cap2, A2, by omega, by go_num, rfl, by rw [HT.out]; exact hps2, B2⟩
      case measure => simp [intOf]; omega
    · have hkl : k = l.length := by omega
      subst hkl
      rw [List.take_length] at hps
      go_wp2
      go_ret
      exact ⟨B, c, rfl, hps, hbl⟩
end Go.Proofs.YtcfbcidakddhfaaGreatDoor
namespace Go.Proofs.YtcfbcidakddhfaaGreatDoor
open Go.RowKit

def cmpN (a b : Int) : Int := if a < b then -1 else if b < a then 1 else 0
set_option maxHeartbeats 800000 in
theorem isnan_any (a : Int) (w : World) : Calls Tryz.prog 138 #[.int .i64 a] w fun e w' => e = .returned (.bool false) ∧ w' = w := by
  go_enter Tryz.func138, Tryz.ntmps138
  go_wp2
  go_ret
  exact ⟨rfl, rfl⟩
set_option maxHeartbeats 800000 in
theorem compareN_any (a b : Int) (w : World) : Calls Tryz.prog 126 #[.int .i64 a, .int .i64 b] w fun e w' => e = .returned (.int .i64 (cmpN a b)) ∧ w' = w := by
  go_enter Tryz.func126, Tryz.ntmps126
  go_wp2_with (go_at_call 138; refine (isnan_any _ _).mono ?_; rintro e w1 ⟨rfl, rfl⟩)
  all_goals go_ret
  all_goals exact ⟨ret_int (by simp only [cmpN]; (repeat' split) <;> first | rfl | omega | simp_all), rfl⟩
set_option maxHeartbeats 800000 in
theorem byNum_any (x y : Smp) (w : World) : Calls Tryz.prog 109 #[agS x, agS y] w fun e w' => e = .returned (.int .i64 (cmpN x.2 y.2)) ∧ Below w.heap.size w w' := by
  go_enter Tryz.func109, Tryz.ntmps109
  go_wp2_with (go_at_call 126; refine (compareN_any _ _ _).mono ?_; rintro e w1 ⟨rfl, rfl⟩)
  go_ret
  exact ⟨rfl, by go_grown⟩
theorem wrapI (x : Int) (h0 : -9223372036854775808 ≤ x) (h1 : x ≤ 9223372036854775807) : IntKind.i64.wrap x = x := by rw [IntKind.wrap_i64]; omega
set_option maxHeartbeats 800000 in
theorem growth_any (a b : Int) (ha0 : -9223372036854775808 ≤ a) (ha1 : a ≤ 9223372036854775807) (hb0 : -9223372036854775808 ≤ b) (hb1 : b ≤ 9223372036854775807) (w : World) :
    Calls Tryz.prog 111 #[.int .i64 a, .int .i64 b] w fun e w' => e = .returned (.tuple #[.int .i64 (rangeB (b - a)).1, .int .i64 (rangeB (b - a)).2]) ∧ w' = w := by
  rcases Int.lt_trichotomy 0 a with h | h | h
  · have h2 : ¬ a < 0 := by omega
    have hw := wrapI (-9223372036854775808 + a) (by omega) (by omega)
    by_cases h3 : b < -9223372036854775808 + a
    · have hr : rangeB (b - a) = (0, 20) := if_neg (by omega)
      rw [hr]
      go_enter Tryz.func111, Tryz.ntmps111
      go_wp2
      go_ret2
      exact ⟨rfl, rfl⟩
    · have hr : rangeB (b - a) = (b - a, 0) := if_pos (by omega)
      have hv := wrapI (b - a) (by omega) (by omega)
      rw [hr]
      go_enter Tryz.func111, Tryz.ntmps111
      go_wp2
      go_ret2
      exact ⟨rfl, rfl⟩
  · subst h
    have hr : rangeB (b - 0) = (b, 0) := by rw [Int.sub_zero]; exact if_pos (by omega)
    have hv := wrapI b (by omega) (by omega)
    rw [hr]
    go_enter Tryz.func111, Tryz.ntmps111
    go_wp2
    go_ret2
    exact ⟨rfl, rfl⟩
  · have h2 : ¬ 0 < a := by omega
    have hw := wrapI (9223372036854775807 + a) (by omega) (by omega)
    by_cases h3 : 9223372036854775807 + a < b
    · have hr : rangeB (b - a) = (0, 20) := if_neg (by omega)
      rw [hr]
      go_enter Tryz.func111, Tryz.ntmps111
      go_wp2
      go_ret2
      exact ⟨rfl, rfl⟩
    · have hr : rangeB (b - a) = (b - a, 0) := if_pos (by omega)
      have hv := wrapI (b - a) (by omega) (by omega)
      rw [hr]
      go_enter Tryz.func111, Tryz.ntmps111
      go_wp2
      go_ret2
      exact ⟨rfl, rfl⟩
end Go.Proofs.YtcfbcidakddhfaaGreatDoor
namespace Go.Proofs.YtcfbcidakddhfaaGreatDoor
open Go.RowKit

end Go.Proofs.YtcfbcidakddhfaaGreatDoor
namespace Go.Proofs.YtcfbcidakddhfaaGreatDoor
open Go.RowKit

theorem compare_tri : ∀ a b : List UInt8, Lib.compareBytes a b = if a = b then 0 else if a < b then -1 else 1
  | [], [] => by simp [Lib.compareBytes]
  | [], _ :: _ => by simp [Lib.compareBytes]
  | _ :: _, [] => by simp [Lib.compareBytes]
  | a :: l, b :: m => by
    have ih := compare_tri l m
    rw [Lib.compareBytes]
    by_cases h1 : a < b
    · have hne : a ≠ b := by rintro rfl; exact absurd h1 (by simp)
      simp [List.cons_lt_cons_iff, h1, hne]
    · by_cases h2 : b < a
      · have hne : a ≠ b := by rintro rfl; exact absurd h2 h1
        simp [List.cons_lt_cons_iff, h1, h2, hne]
      · have he : a = b := by
          rw [UInt8.lt_iff_toNat_lt] at h1 h2
          exact UInt8.toNat_inj.1 (by omega)
        subst he
        simp [ih]
/-- The first of two that isn't 0. -/
def orI (a b : Int) : Int := if a = 0 then b else a
def cfA (x y : Pp) : Int := orI (Lib.compareBytes (key x) (key y)) (Lib.compareBytes x.2.data.toList y.2.data.toList)
theorem cfA_eq (x y : Pp) : cfA x y = if (!(x.1.toList == y.1.toList)) = true then (if ltB x.1 y.1 = true then -1 else 1)
    else if (!(x.2.toList == y.2.toList)) = true then (if ltB x.2 y.2 = true then -1 else 1) else 0 := by
  unfold cfA orI
  rw [compare_tri, compare_tri, ltB_eq, ltB_eq, Lib.toList_data, Lib.toList_data, Lib.toList_data, Lib.toList_data]
  have e1 : key x = x.1.data.toList := rfl
  have e2 : key y = y.1.data.toList := rfl
  rw [e1, e2]
  clear e1 e2
  generalize x.1.data.toList = a
  generalize y.1.data.toList = b
  generalize x.2.data.toList = c
  generalize y.2.data.toList = d
  by_cases h1 : a = b
  · by_cases h2 : c = d
    · simp [h1, h2]
    · by_cases h3 : c < d <;> simp [h1, h2, h3]
  · by_cases h3 : a < b <;> simp [h1, h3]
theorem cmpL_stepC {a b : List Pp} {k : Nat} (ha : k < a.length) (hb : k < b.length) : cmpL (a.drop k) (b.drop k) = if cfA (a.getD k nilP) (b.getD k nilP) = 0 then cmpL (a.drop (k + 1)) (b.drop (k + 1)) else cfA (a.getD k nilP) (b.getD k nilP) := by
  rw [cmpL_step ha hb, cfA_eq]
  split
  · split <;> simp
  · split
    · split <;> simp
    · simp
end Go.Proofs.YtcfbcidakddhfaaGreatDoor
