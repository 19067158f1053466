/- The program's Quote. -/
import Derived.Test.YtcfbcidakddhfaaGreatDoorPr3
import Derived.Test.YtcfbcidakddhfaaGreatDoorProg
import Derived.Maps.AppendAt
import Derived.OwnWalk
import Derived.Laws.OwnMore
import Derived.Laws.Rows
import Derived.Deep.AppendLies
import Derived.Test.YtcfbcidakddhfaaGreatDoorRows
import Derived.ProofKit
import Derived.OpenShut
import Derived.Carry
import Derived.ChangeSlices
import Derived.SizedLaws
import Derived.JoinedCond
import Derived.Deep.CondSized
import Derived.Test.YtcfbcidakddhfaaGreatDoorPr2
import Derived.LoopTactic
namespace Go.Proofs.YtcfbcidakddhfaaGreatDoor
open Go.RowKit

abbrev bv (c : UInt8) : Value := .int .u8 (c.toNat : Int)
/-- v is a slice of the call's own (blocks from K on) that holds the bytes l. -/
def Ob (w : World) (K : Nat) (v : Value) (l : List UInt8) : Prop := w.ownsRow K 5 1 v l.length (l.map bv)

theorem info_u8 : (Tryz.prog.info? 5).map (fun i => (i.zero, i.size, i.bytes)) = some (some (.int .u8 0), 1, 1) := by kernel_rfl

section
variable {w w' : World} {K : Nat} {l : List UInt8} {v : Value}
theorem Ob.empty (w : World) (K : Nat) : Ob w K (.slice none 0 0) [] := World.ownsRow_nil w K _ _
theorem Ob.bs {A : Option Addr} {n cap : Nat} (h : Ob w K (.slice A n cap) l) : Bs w w.heap.size A cap l ∧ n = l.length := by
  rcases h.2 with ⟨he, h0⟩ | ⟨g, cap', cur, he, hb, hg, hn, hc, hs, ht⟩
  · injection he with h1 h2 h3
    subst h1 h2 h3
    have : l = [] := List.eq_nil_of_length_eq_zero h0
    subst this
    exact ⟨⟨Nat.le_refl _, by unfold maxLen; omega, fun _ => rfl, fun h => absurd h (by simp)⟩, rfl⟩
  · injection he with h1 h2 h3
    subst h1 h2 h3
    refine ⟨⟨hn, hc, (fun h => by cases h), fun hl => ⟨_, rfl, ?_, fun k c hk => ?_⟩⟩, rfl⟩
    · rcases Nat.lt_or_ge g w.heap.size with hlt | hge
      · exact hlt
      · rw [Array.getElem?_eq_none hge] at hg; cases hg
    · exact h.cells (g := g) rfl k _ (by simp [hk])
theorem Ob.keep (h : Ob w K v l) {row : Option Nat} (hg : w.grownBy w' row) (hne : v.ownBlock = none ∨ v.ownBlock ≠ row) : Ob w' K v l := World.ownsRow.kept h hg hne
theorem Ob.below (h : Ob w K v l) (hb : Below w.heap.size w w') : Ob w' K v l :=
  World.ownsRow.kept (row := none) h ⟨hb.os, hb.tape, hb.output, hb.size, fun k hk _ => hb.block k hk⟩ (by cases h' : v.ownBlock <;> simp)
theorem Ob.alloc (h : Ob w K v l) (o : Obj) : Ob (w.alloc o) K v l := World.ownsRow.alloc h o
theorem Ob.drew (h : Ob w K v l) : Ob w.drew K v l := h
theorem Ob.lt (h : Ob w K v l) : ∀ k, v.ownBlock = some k → K ≤ k ∧ k < w.heap.size := World.ownsRow.lt h
theorem Ob.more {K' : Nat} (h : Ob w K v l) (hK : K' ≤ K) : Ob w K' v l := by
  rcases h.2 with ⟨he, h0⟩ | ⟨g, cap', cur, he, hb, hg⟩
  · exact ⟨h.1, .inl ⟨he, h0⟩⟩
  · exact ⟨h.1, .inr ⟨g, cap', cur, he, by omega, hg⟩⟩
theorem Ob.made {w1 : World} {n : Nat} (h : w1.ownsRow K 5 1 v n []) : Ob w1 K v [] := by
  have : n = 0 := by have := h.1; simp at this; omega
  subst this; exact h

theorem lit_bs (w : World) (T : TypeId) (cs : Array Value) (l : List UInt8) (h : cs.toList = l.map bv) (hl : l.length ≤ maxLen) : Bs (w.alloc (.cells cs T)) (w.heap.size + 1) (some ⟨w.heap.size, 0, none⟩) l.length l :=
  ⟨Nat.le_refl _, hl, (fun h => by cases h), fun _ => ⟨_, rfl, Nat.lt_succ_self _, fun k c hk => by
    have hadd : (⟨w.heap.size, 0, none⟩ : Addr).add k = ⟨w.heap.size, k, none⟩ := by unfold Addr.add; split <;> simp_all
    rw [hadd, cell_of_row (w.alloc (.cells cs T)) w.heap.size k cs T (0, 0) (heap_alloc_new w _), ← Array.getElem?_toList, h]
    simp [hk]⟩⟩

theorem lit_ob (w : World) (K H : Nat) (hH : w.heap.size = H) (hK : K ≤ H) (cs : Array Value) (n : Nat) (l : List UInt8) (h : cs.toList = l.map bv) (hn : l.length = n) (hm : n ≤ maxLen) : Ob (w.alloc (.cells cs 5)) K (.slice (some ⟨H, 0, none⟩) n n) l := by
  subst hH hn
  have := World.ownsRow_lit (e := 5) (size := 1) w cs l.length hK hm (by rw [← Array.length_toList, h]; simp)
  rw [h] at this
  exact this
theorem lit_bsH (w : World) (T : TypeId) (H : Nat) (hH : w.heap.size = H) (cs : Array Value) (n : Nat) (l : List UInt8) (h : cs.toList = l.map bv) (hn : l.length = n) (hm : n ≤ maxLen) : Bs (w.alloc (.cells cs T)) (H + 1) (some ⟨H, 0, none⟩) n l := by
  subst hH hn
  exact lit_bs w T cs l h hm

theorem lit_bsF (w : World) (T : TypeId) (fr : Nat × Nat) (H : Nat) (hH : w.heap.size = H) (cs : Array Value) (n : Nat) (l : List UInt8) (h : cs.toList = l.map bv) (hn : l.length = n) (hm : n ≤ maxLen) : Bs (w.alloc (.cells cs T fr)) (H + 1) (some ⟨H, 0, none⟩) n l := by
  subst hH hn
  refine ⟨Nat.le_refl _, hm, (fun h => by cases h), fun _ => ⟨_, rfl, Nat.lt_succ_self _, fun k c hk => ?_⟩⟩
  have hadd : (⟨w.heap.size, 0, none⟩ : Addr).add k = ⟨w.heap.size, k, none⟩ := by unfold Addr.add; split <;> simp_all
  rw [hadd, cell_of_row (w.alloc (.cells cs T fr)) w.heap.size k cs T fr (heap_alloc_new w _), ← Array.getElem?_toList, h]
  simp [hk]

theorem run_app (w : World) (ty : TypeId) {K K' : Nat} {v : Value} {l m : List UInt8} (hown : Ob w K v l) {A : Option Addr} {cap : Nat} (hsrc : Bs w K' A cap m)
    (hsz : l.length + m.length ≤ 140737488355328) (hbase : K ≤ w.heap.size) :
    ∃ A' cap' w', (Builtin.append_ #[179, 179] ty #[v, .slice A m.length cap]).run Tryz.prog w = .ok (.slice A' (l.length + m.length) cap') w' ∧ Ob w' K (.slice A' (l.length + m.length) cap') (l ++ m) ∧ w.grownBy w' v.ownBlock ∧
      ((Value.slice A' (l.length + m.length) cap').ownBlock = v.ownBlock ∨ (Value.slice A' (l.length + m.length) cap').ownBlock = some w.heap.size) := by
  have form : ∀ {w' : World} {v' : Value} {k : List UInt8}, Ob w' K v' k → ∃ A' cap', v' = .slice A' k.length cap' := fun h => by
    rcases h.2 with ⟨he, h0⟩ | ⟨g, cap', cur, he, _⟩
    · exact ⟨none, 0, by rw [he, h0]⟩
    · exact ⟨_, _, he⟩
  have hml : m.length ≤ maxLen := Nat.le_trans hsrc.le hsrc.max
  rcases A with _ | ad
  · have hc := hsrc.nil rfl
    have hm0 : m = [] := List.eq_nil_of_length_eq_zero (by have := hsrc.le; omega)
    subst hm0
    subst hc
    obtain ⟨A', cap', hv⟩ := form hown
    obtain ⟨i0, hi, _, _, _⟩ := info_parts info_u8
    have hrun := run_append_owned_none (P := Tryz.prog) w K 179 ty 5 i0 1 Tryz.underlying179 hi v _ _ hown
    exact ⟨A', cap', w, by rw [hv] at hrun ⊢; exact hrun, by rw [List.append_nil]; exact hv ▸ hown, ⟨rfl, rfl, rfl, Nat.le_refl _, fun _ _ _ => rfl⟩, .inl (by rw [hv]; rfl)⟩
  · obtain ⟨i0, hi, hz0, hz1, hz2⟩ := info_parts info_u8
    obtain ⟨v', w', hr, h2, h3, _, h5⟩ := run_append_own_at (P := Tryz.prog) w K 179 ty 5 i0 (.int .u8 0) 1 1 Tryz.underlying179 hi hz0 hz1 hz2 rfl (by decide) v _ _ hown ad m.length cap (m.map bv) (by simp)
      (fun j u hj => by
        simp only [List.getElem?_map, Option.map_eq_some_iff] at hj
        obtain ⟨c, hc, rfl⟩ := hj
        have hpos : 0 < m.length := by have := (List.getElem?_eq_some_iff.1 hc).1; omega
        obtain ⟨ad', he, _, hcell⟩ := hsrc.at_ hpos
        cases he
        exact hcell j c hc)
      (fun u hu => by
        simp only [List.mem_map] at hu
        obtain ⟨c, _, rfl⟩ := hu; rfl) (by unfold maxLen; omega) (by omega) hbase
    have h2' : Ob w' K v' (l ++ m) := by unfold Ob; rw [List.length_append, List.map_append]; exact h2
    obtain ⟨A', cap', hv⟩ := form h2'
    rw [List.length_append] at hv
    subst hv
    exact ⟨A', cap', w', hr, h2', h3, h5⟩

theorem wpList_app {ops : Array Oper} {rest : List Oper} {o : Oper} {a : Act} {Q : Exit → Act → World → Prop} (w : World) (hgd : o.guard = none) (s x : Operand)
    (ho : o.op = .call { callee := .builtin .append, args := #[s, x], argTypes := #[179, 179] })
    (K : Nat) (v : Value) (l : List UInt8) (hs : a.eval s = v) (hown : Ob w K v l) (A : Option Addr) (M cap : Nat) (m : List UInt8) (hx : a.eval x = .slice A M cap) (hM : m.length = M) (K' : Nat) (hsrc : Bs w K' A cap m)
    (N : Nat) (hN : l.length + m.length = N) (hsz : l.length + m.length ≤ 140737488355328) (hbase : K ≤ w.heap.size)
    (h : ∀ A' cap' w', Ob w' K (.slice A' N cap') (l ++ m) → w.grownBy w' v.ownBlock → ((Value.slice A' N cap').ownBlock = v.ownBlock ∨ (Value.slice A' N cap').ownBlock = some w.heap.size) → wpList Tryz.prog ops Q rest (a.put o.dst (.slice A' N cap')) w') : wpList Tryz.prog ops Q (o :: rest) a w := by
  subst hN hM
  refine wpList_plain hgd fun _ hK => ?_
  obtain ⟨A', cap', w', hr, h2, h3, h4⟩ := run_app w o.type hown hsrc hsz hbase
  unfold Oper.wp execOp
  simp only [ho, resolve, invoke, builtin, Sem.run_bind, Sem.run_pure, Result.andThen_ok, List.map_toArray, List.map_cons, List.map_nil, hs, hx, hr]
  exact hK _ _ (h A' cap' w' h2 h3 h4)
end

theorem Ob.stored {w : World} {K g n cap : Nat} {l : List UInt8} (h : Ob w K (.slice (some ⟨g, 0, none⟩) n cap) l) (j : Nat) (c : UInt8) : Ob (w.setCell ⟨g, j, none⟩ (bv c)) K (.slice (some ⟨g, 0, none⟩) n cap) (l.set j c) := by
  have hn := h.bs.2
  subst hn
  have := World.ownsRow.stored h j (bv c)
  unfold Ob
  rw [List.length_set, List.map_set]
  exact this.1
theorem add0 (g j : Nat) : (⟨g, 0, none⟩ : Addr).add j = ⟨g, j, none⟩ := by unfold Addr.add; split <;> simp_all
theorem Ob.addr {w : World} {K n cap : Nat} {A : Option Addr} {l : List UInt8} (h : Ob w K (.slice A n cap) l) (hn : 0 < n) : ∃ g, A = some ⟨g, 0, none⟩ ∧ K ≤ g ∧ g < w.heap.size := by
  have e := h.bs.2
  obtain ⟨g, cap', he, hg, hl⟩ := World.ownsRow.form (h := h) (by omega)
  injection he with h1 h2 h3
  exact ⟨g, h1, hg, hl⟩


theorem Ob.slot {w : World} {K g n cap k : Nat} {l : List UInt8} (h : Ob w K (.slice (some ⟨g, 0, none⟩) n cap) l) (hk : k < l.length) : w.cell? ⟨g, k, none⟩ = some (bv l[k]) ∧ w.frozen? ⟨g, k, none⟩ = false ∧ n = l.length ∧ n ≤ cap ∧ cap ≤ maxLen := by
  have h1 : w.ownsRow K 5 1 (.slice (some ⟨g, 0, none⟩) n cap) n (l.map bv) := by
    have h2 := h
    unfold Ob at h2
    rwa [← h.bs.2] at h2
  have hb := h.bs
  refine ⟨?_, h1.frozenAt k, hb.2, by have := hb.1.le; omega, hb.1.max⟩
  rw [h1.cellAt k (by omega)]
  simp [hk]

end Go.Proofs.YtcfbcidakddhfaaGreatDoor
namespace Go.Proofs.YtcfbcidakddhfaaGreatDoor
open Go.ChangeShapes Go.WideShapes Go.ChangeAt Go.RowKit

theorem own : ownKnob Tryz.prog.godebug = none := by kernel_rfl
theorem laid_out : laidOutB Tryz.prog = true := by kernel_rfl

noncomputable def readOk (t : TypeId) : Bool := Tryz.prog.readableRec t && decide (t < Tryz.prog.types.size)
theorem trodAll_stays {H : Type} {enc : TypeId × Value → H} {W W' : World} (hb : Below W.heap.size W W') (ts : List TypeId) (hts : ts.all readOk = true)
    {vs : List Value} {ds : List (DataW H)} {ps : List MemPlace} (h : DataW.TrodAll enc Tryz.prog W 0 (fun _ => true) true ts vs ds ps) (hlt : ∀ x ∈ ps, x.block < W.heap.size) : DataW.TrodAll enc Tryz.prog W' 0 (fun b => decide (b < W.heap.size)) true ts vs ds ps := by
  induction ts generalizing vs ds ps with
  | nil =>
    obtain ⟨rfl, rfl, rfl⟩ := trodAll_nil h
    exact trodAll_mk0
  | cons t ts ih =>
    obtain ⟨v, vs', d, ds', p, q, rfl, rfl, rfl, h1, h2⟩ := trodAll_cons h
    rw [List.all_cons, Bool.and_eq_true] at hts
    have hr := hts.1
    unfold readOk at hr
    rw [Bool.and_eq_true, decide_eq_true_eq] at hr
    exact trodAll_cons_mk (Below.trod laid_out hr.1 hr.2 h1 hb fun x hx => hlt x (List.mem_append_left _ hx)) (ih hts.2 h2 fun x hx => hlt x (List.mem_append_right _ hx))

theorem law_post {H : Type} {enc : TypeId × Value → H} {f : Func} {s : ChangeSpec} {apart : Bool} {W W' : World} {args : Array Value} {ds gs : List (DataW H)} {before : List MemPlace}
    (hW : DataW.Whole enc Tryz.prog f.params.toList s.vars apart W args.toList ds gs before) (hs : s.vars = []) (hres : f.resultTypes = #[4])
    (hts : f.params.toList.all readOk = true) (hfn : (s.fn H (ds ++ gs)).results = [.lit (.bool true)] ∧ (s.fn H (ds ++ gs)).args = ds ∧ (s.fn H (ds ++ gs)).vars = [])
    (hb : Below W.heap.size W W') : s.post enc Tryz.prog f apart true false false W args (.bool true) W' := by
  have hlt := hW.lt
  have hW' := hW
  obtain ⟨p, q, hA, hV, rfl, hfz, hnd⟩ := hW
  rw [hs] at hV
  obtain ⟨rfl, rfl⟩ := trodVars_none hV
  refine ⟨ds, [], p ++ [], [], p, [], hW', ?_, ?_, ?_, hb.frame _, fun h => by cases h⟩
  · rw [hfn.1, hres]
    exact trodAll_mk1 (shut_bool Tryz.underlying4 _)
  · rw [hfn.2.1]
    exact trodAll_stays hb _ hts hA fun x hx => hlt x (List.mem_append_left _ hx)
  · rw [hfn.2.2, hs]; rfl

theorem cells_u8 : Tryz.prog.cellsOf 5 = 1 := by kernel_rfl
theorem len_le_bulk {H : Type} : ∀ (l : List (DataW H)), l.length ≤ Rows.uptoBulkAll l
  | [] => by simp [Rows.uptoBulkAll]
  | x :: r => by
    have h1 : 1 ≤ Rows.uptoBulk x := by
      cases x with
      | lit l => cases l <;> simp [Rows.uptoBulk]
      | nil => simp [Rows.uptoBulk]
      | ptr d => simp [Rows.uptoBulk]
      | slice elems spare => simp [Rows.uptoBulk]
      | agg parts => simp [Rows.uptoBulk]
      | iface t d => simp [Rows.uptoBulk]
      | map entries => simp [Rows.uptoBulk]
      | held h => simp [Rows.uptoBulk]
    have := len_le_bulk r
    simp only [Rows.uptoBulkAll, List.length_cons]; omega

theorem open_bs0 {H : Type} {enc : TypeId × Value → H} {W : World} {base fuel : Nat} {sp : Nat → Bool} {held : Bool} {cs : List Value} {x : DataW H × List MemPlace} (hf : DataW.trod enc Tryz.prog W base sp held fuel 179 cs = some x) :
    ∃ A cap l, cs = [.slice A l.length cap] ∧ Bs W W.heap.size A cap l ∧ l.length ≤ Rows.uptoBulk x.1 ∧ (l = [] ∨ ∃ es ss, x.1 = .slice es ss ∧ es.length = l.length) := by
  rcases open_ints Tryz.underlying179 Tryz.underlying5 cells_u8 hf with ⟨hcs, hx⟩ | ⟨a, len, cap, zs, hcs, _, hl, hm, hz, hx, hcell, hwz⟩
  · subst hcs hx
    exact ⟨none, 0, [], rfl, ⟨Nat.le_refl _, Nat.zero_le _, fun _ => rfl, fun h => absurd h (by simp)⟩, by simp, .inl rfl⟩
  · subst hcs hx
    have hzl : len ≤ zs.length := by rw [hz]; split <;> omega
    have hll : ((zs.take len).map fun n => UInt8.ofNat n.toNat).length = len := by simp; omega
    refine ⟨some a, cap, (zs.take len).map fun n => UInt8.ofNat n.toNat, by rw [hll], ⟨by rw [hll]; exact hl, hm, (fun h => by cases h), fun hn => ⟨a, rfl, ?_, fun k c hk => ?_⟩⟩, ?_, .inr ⟨_, _, rfl, by simp [lits]⟩⟩
    · rw [hll] at hn
      have := World.block_lt_of_cell? W _ (hcell 0 (by omega))
      rwa [block_of_add] at this
    · simp only [List.getElem?_map, List.getElem?_take, Option.map_eq_some_iff] at hk
      obtain ⟨n, hn, rfl⟩ := hk
      split at hn
      · have hkz := (List.getElem?_eq_some_iff.1 hn).1
        have hnz : n ∈ zs := List.mem_of_getElem? hn
        have hb : 0 ≤ n ∧ n ≤ 255 := by simpa [Lit.wf, IntKind.min, IntKind.max, IntKind.signed, IntKind.bits] using hwz n hnz
        rw [hcell k hkz]
        have : zs.getD k 0 = n := by simp [List.getD, hn]
        rw [this]
        have : ((UInt8.ofNat n.toNat).toNat : Int) = n := by simp; omega
        rw [this]
      · cases hn
    · rw [hll]
      have := len_le_bulk (lits (H := H) .u8 (zs.take len))
      simp only [Rows.uptoBulk]
      have e : (lits (H := H) .u8 (zs.take len)).length = len := by simp [lits]; omega
      omega
set_option maxRecDepth 100000 in
theorem open_bs {H : Type} {enc : TypeId × Value → H} {W : World} {base : Nat} {v : Value} {d : DataW H} {p : List MemPlace}
    (hv : Value.okWide Tryz.prog W .any base 179 v) (h : DataW.Trod enc Tryz.prog W 0 (fun _ => true) true 179 v d p) :
    ∃ A cap l, v = .slice A l.length cap ∧ Bs W W.heap.size A cap l ∧ l.length ≤ Rows.uptoBulk d ∧ (l = [] ∨ ∃ es sp, d = .slice es sp ∧ es.length = l.length) := by
  obtain ⟨a1, len, cap, rfl⟩ := okWide_slice Tryz.underlying179 hv
  obtain ⟨fuel, hf⟩ := h
  obtain ⟨A, cap', l, hcs, hb, hk, hd⟩ := open_bs0 hf
  simp [Value.cells] at hcs
  obtain ⟨rfl, rfl, rfl⟩ := hcs
  exact ⟨_, _, l, rfl, hb, hk, hd⟩
end Go.Proofs.YtcfbcidakddhfaaGreatDoor
namespace Go.Proofs.YtcfbcidakddhfaaGreatDoor

/-- What stands behind the opening quote: behind a guard or not, what was taken, how many bytes. -/
def unqGo : List UInt8 → Bool → List UInt8 → Nat → List UInt8 × Nat
  | [], _, _, _ => ([], 0)
  | c :: r, true, acc, n => if gN (c.toNat : Int) = true then unqGo r false (acc ++ [c]) (n + 1) else ([], 0)
  | c :: r, false, acc, n => if (c.toNat : Int) = 34 then (acc, n + 1) else if (c.toNat : Int) = 92 then unqGo r true acc (n + 1) else unqGo r false (acc ++ [c]) (n + 1)
def unqL : List UInt8 → List UInt8 × Nat
  | [] => ([], 0)
  | c :: r => if (c.toNat : Int) = 34 then unqGo r false [] 1 else ([], 0)
def unqB (t : ByteArray) : List UInt8 × Nat := unqL t.data.toList

theorem drop_byte (s : ByteArray) (k : Nat) (h : k < s.size) : s.data.toList.drop k = s[k] :: s.data.toList.drop (k + 1) := by
  rw [List.drop_eq_getElem_cons (by simpa using h)]; rfl
theorem unqB_nil {t : ByteArray} (h : t.size = 0) : unqB t = ([], 0) := by
  have : t.data.toList = [] := List.eq_nil_of_length_eq_zero (by simpa using h)
  unfold unqB; rw [this]; rfl
theorem unqB_no {t : ByteArray} (h : 0 < t.size) (hc : ¬ ((t[0]).toNat : Int) = 34) : unqB t = ([], 0) := by
  unfold unqB
  have := drop_byte t 0 h
  rw [List.drop_zero] at this
  rw [this, unqL, if_neg hc]
theorem unqB_yes {t : ByteArray} (h : 0 < t.size) (hc : ((t[0]).toNat : Int) = 34) : unqB t = unqGo (t.data.toList.drop 1) false [] 1 := by
  unfold unqB
  have := drop_byte t 0 h
  rw [List.drop_zero] at this
  rw [this, unqL, if_pos hc]
  simp
theorem go_end {t : ByteArray} {k : Nat} (h : t.size ≤ k) (g : Bool) (acc : List UInt8) (n : Nat) : unqGo (t.data.toList.drop k) g acc n = ([], 0) := by
  rw [List.drop_of_length_le (by simpa using h)]; cases g <;> rfl
theorem go_guard_yes {t : ByteArray} {k : Nat} (h : k < t.size) (acc : List UInt8) (n : Nat) (hc : gN ((t[k]).toNat : Int) = true) : unqGo (t.data.toList.drop k) true acc n = unqGo (t.data.toList.drop (k + 1)) false (acc ++ [t[k]]) (n + 1) := by
  rw [drop_byte t k h, unqGo, if_pos hc]
theorem go_guard_no {t : ByteArray} {k : Nat} (h : k < t.size) (acc : List UInt8) (n : Nat) (hc : gN ((t[k]).toNat : Int) = false) : unqGo (t.data.toList.drop k) true acc n = ([], 0) := by
  rw [drop_byte t k h, unqGo, if_neg (by simp [hc])]
theorem go_quote {t : ByteArray} {k : Nat} (h : k < t.size) (acc : List UInt8) (n : Nat) (hc : ((t[k]).toNat : Int) = 34) : unqGo (t.data.toList.drop k) false acc n = (acc, n + 1) := by
  rw [drop_byte t k h, unqGo, if_pos hc]
theorem go_slash {t : ByteArray} {k : Nat} (h : k < t.size) (acc : List UInt8) (n : Nat) (hc : ((t[k]).toNat : Int) = 92) : unqGo (t.data.toList.drop k) false acc n = unqGo (t.data.toList.drop (k + 1)) true acc (n + 1) := by
  rw [drop_byte t k h, unqGo, if_neg (by omega), if_pos hc]
theorem go_plain {t : ByteArray} {k : Nat} (h : k < t.size) (acc : List UInt8) (n : Nat) (h1 : ¬ ((t[k]).toNat : Int) = 34) (h2 : ¬ ((t[k]).toNat : Int) = 92) : unqGo (t.data.toList.drop k) false acc n = unqGo (t.data.toList.drop (k + 1)) false (acc ++ [t[k]]) (n + 1) := by
  rw [drop_byte t k h, unqGo, if_neg h1, if_neg h2]

theorem go_back (t : List UInt8) : ∀ (l acc : List UInt8) (n : Nat), unqGo (l.flatMap escB ++ 34 :: t) false acc n = (acc ++ l, n + (l.flatMap escB).length + 1)
  | [], acc, n => by simp [unqGo]
  | c :: l, acc, n => by
    rw [List.flatMap_cons]
    by_cases hg : gN (c.toNat : Int) = true
    · have e : escB c = [92, c] := by rw [escB, if_pos hg]
      have h92 : ((92 : UInt8).toNat : Int) = 92 := rfl
      rw [e]
      simp only [List.cons_append, List.nil_append, List.length_cons]
      rw [unqGo, if_neg (by rw [h92]; decide), if_pos h92, unqGo, if_pos hg, go_back t l]
      simp; omega
    · have e : escB c = [c] := by rw [escB, if_neg hg]
      have h1 : ¬ ((c.toNat : Int) = 34) := fun h => hg (by simp [gN, h])
      have h2 : ¬ ((c.toNat : Int) = 92) := fun h => hg (by simp [gN, h])
      rw [e]
      simp only [List.cons_append, List.nil_append, List.length_cons]
      rw [unqGo, if_neg h1, if_neg h2, go_back t l]
      simp; omega
theorem unq_back (s t : ByteArray) : unqB (⟨(quoteB s).toArray⟩ ++ t) = (s.data.toList, (quoteB s).length) := by
  have e : (⟨(quoteB s).toArray⟩ ++ t : ByteArray).data.toList = 34 :: (s.data.toList.flatMap escB ++ 34 :: t.data.toList) := by
    have : s.data.toList.take s.size = s.data.toList := List.take_of_length_le (by simp)
    simp [quoteB, quoteTo, this]
  have h34 : ((34 : UInt8).toNat : Int) = 34 := rfl
  unfold unqB
  rw [e, unqL, if_pos h34, go_back]
  have : s.data.toList.take s.size = s.data.toList := List.take_of_length_le (by simp)
  simp [quoteB, quoteTo, this]
  omega
theorem unqGo_len : ∀ (l : List UInt8) (g : Bool) (acc : List UInt8) (n : Nat), (unqGo l g acc n).1.length ≤ acc.length + l.length ∧ (unqGo l g acc n).2 ≤ n + l.length
  | [], g, acc, n => by cases g <;> simp [unqGo]
  | c :: r, true, acc, n => by
    rw [unqGo]
    have := unqGo_len r false (acc ++ [c]) (n + 1)
    split
    · simp at this ⊢; omega
    · simp
  | c :: r, false, acc, n => by
    rw [unqGo]
    have h1 := unqGo_len r false (acc ++ [c]) (n + 1)
    have h2 := unqGo_len r true acc (n + 1)
    split
    · simp
    · split
      · simp at h2 ⊢; omega
      · simp at h1 ⊢; omega
theorem unqB_len (t : ByteArray) : (unqB t).1.length ≤ t.size ∧ (unqB t).2 ≤ t.size := by
  unfold unqB
  have hl : t.data.toList.length = t.size := by simp
  cases h : t.data.toList with
  | nil => simp [unqL]
  | cons c r =>
    rw [h, List.length_cons] at hl
    rw [unqL]
    split
    · have := unqGo_len r false [] 1
      simp at this
      omega
    · simp
end Go.Proofs.YtcfbcidakddhfaaGreatDoor
namespace Go.Proofs.YtcfbcidakddhfaaGreatDoor
open Go.RowKit
section
variable {P : Program} {ST : TypeId} {k : Nat} (hu : P.underlying ST = some (.slice (P.elem ST))) (hs : ∀ w, (sizeOf (P.elem ST)).run P w = .ok k w)
include hu hs
theorem slice_fromK (A : Option Addr) (n cap j : Nat) (hj : j ≤ n) (w : World) :
    (Instr.slice ST (.slice A n cap) (some (.int .i64 (j : Int))) none none).run P w = .ok (.slice (if cap = j then A else A.map (·.add (j * k))) (n - j) (cap - j)) w := by
  have h := run_slice_l (P := P) (w := w) (t := ST) (a := A) (len := n) (cap := cap) hu .i64 (j : Int) (by omega) (by omega)
  rw [h, hs]
  simp [Result.andThen, sliced]
theorem slice_toK (A : Option Addr) (n cap j : Nat) (hj : j ≤ cap) (w : World) :
    (Instr.slice ST (.slice A n cap) none (some (.int .i64 (j : Int))) none).run P w = .ok (.slice A j cap) w := by
  have h := run_slice_h (P := P) (w := w) (t := ST) (a := A) (len := n) (cap := cap) hu .i64 (j : Int) (by omega) (by omega)
  rw [h, hs]
  have : ∀ a : Addr, a.add 0 = a := fun a => by unfold Addr.add; rw [if_pos rfl]
  cases A <;> simp [Result.andThen, sliced, this]
end
section
variable {α : Type} {enc : α → List Value} {k : Nat} {w : World} {K cap : Nat} {A : Option Addr} {l : List α}
theorem Sr.from (h : Sr enc k w K A cap l) {j : Nat} (hj : j ≤ l.length) : Sr enc k w K (if cap = j then A else A.map (·.add (j * k))) (cap - j) (l.drop j) := by
  have hle := h.le
  have hm := h.max
  have hl : (l.drop j).length = l.length - j := List.length_drop
  refine ⟨by omega, by omega, fun e => ?_, fun hn => ?_⟩
  · by_cases hc : cap = j
    · omega
    · rw [if_neg hc] at e
      cases A with
      | none => have := h.nil rfl; omega
      | some a => cases e
  · obtain ⟨ad, e, hb, hc⟩ := h.at_ (by omega)
    subst e
    rw [if_neg (by omega)]
    refine ⟨ad.add (j * k), rfl, by rw [el_block_of_add]; exact hb, fun i x hi q u hu => ?_⟩
    rw [List.getElem?_drop] at hi
    have := hc (j + i) x hi q u hu
    rwa [el_add_of_add, show j * k + (i * k + q) = (j + i) * k + q by rw [Nat.add_mul]; omega]
end
end Go.Proofs.YtcfbcidakddhfaaGreatDoor
namespace Go.Proofs.YtcfbcidakddhfaaGreatDoor
open Go.RowKit

set_option maxHeartbeats 800000 in
theorem isValue_any (s : ByteArray) (w : World) (hs : s.size ≤ maxLen) : Calls Tryz.prog 68 #[.string s] w fun e w' => e = .returned (.bool (valB s)) ∧ w = w' := by
  unfold maxLen at hs
  by_cases h1 : s.size < 1
  · rw [valB_no (.inl h1)]
    go_enter Tryz.func68, Tryz.ntmps68
    go_wp2
    go_ret
    exact ⟨rfl, rfl⟩
  by_cases h2 : 64 < s.size
  · rw [valB_no (.inr h2)]
    go_enter Tryz.func68, Tryz.ntmps68
    go_wp2
    go_ret
    exact ⟨rfl, rfl⟩
  · rw [valB_of (by omega) (by omega)]
    go_enter Tryz.func68, Tryz.ntmps68
    go_wp2
    go_loop [14] (fun i => ∃ k : Nat, k ≤ s.size ∧ i = .int .i64 k ∧ Hid (valTo s k = true)) (fun i => s.size - (intOf i).toNat)
    case atStart => exact ⟨0, Nat.zero_le _, rfl, Lib.hid (valTo_zero s)⟩
    case round =>
      obtain ⟨k, hk, rfl, HT⟩ := hrel
      by_cases hlt : k < s.size
      · have hb := byteAt_get s k hlt
        have HB := Lib.hid hb
        clear hb
        by_cases hc : valC ((s[k]).toNat : Int) = true
        · have HN : Hid (valTo s (k + 1) = true) := Lib.hid (by rw [valTo_succ, HT.out, ← HB.out, hc]; rfl)
          have HC := Lib.hid hc
          clear hc
          go_wp2
          all_goals first
            | (go_round
               case rel => exact ⟨k + 1, by omega, by go_num, HN⟩
               case measure => simp [intOf]; omega)
            | (exfalso; have hc := HC.out; simp [valC] at *; omega)
        · have hc : valC ((s[k]).toNat : Int) = false := by simpa using hc
          have HF : Hid (valTo s s.size = false) := Lib.hid (valTo_false (k := k) (by rw [← HB.out]; exact hc) hlt)
          have HC := Lib.hid hc
          clear hc
          go_wp2
          all_goals first
            | (exfalso; have hc := HC.out; simp [valC] at *; omega)
            | (go_ret; exact ⟨ret_bool HF.out.symm, rfl⟩)
      · have hks : k = s.size := by omega
        have HF : Hid (valTo s s.size = true) := Lib.hid (hks ▸ HT.out)
        clear hks
        go_wp2_with fail
        go_ret
        exact ⟨ret_bool HF.out.symm, rfl⟩
end Go.Proofs.YtcfbcidakddhfaaGreatDoor
namespace Go.Proofs.YtcfbcidakddhfaaGreatDoor
open Go.RowKit

def AllD (p : Nat → Prop) : List Nat → Prop
  | [] => True
  | j :: js => p j ∧ AllD p js
theorem AllD.of {p : Nat → Prop} {l : Nat → Bool} (h : ∀ j, l j = true → p j) : ∀ {js : List Nat}, AllL l js → AllD p js
  | [], _ => trivial
  | _ :: _, ⟨h1, h2⟩ => ⟨h _ h1, AllD.of h h2⟩
theorem AllD.get {p : Nat → Prop} : ∀ {js : List Nat}, AllD p js → ∀ {j : Nat}, j ∈ js → p j
  | _ :: _, ⟨h1, h2⟩, _, hj => (List.mem_cons.1 hj).elim (fun e => e ▸ h1) (fun e => h2.get e)
theorem AllOps.imp {p q : Nat → Oper → Prop} (h : ∀ i o, p i o → q i o) : ∀ {k : Nat} {os : List Oper}, AllOps p k os → AllOps q k os
  | _, [], _ => trivial
  | _, _ :: _, h2 => ⟨h _ _ h2.1, AllOps.imp h h2.2⟩
theorem region_V {P : Program} {Q : Exit → Act → World → Prop} {ops : Array Oper} {id : Nat} {a0 : Act} {w0 : World} {ι : Type} (holds : ι → Value → World → Prop) (G : World → Prop) (xs : List ι) (d : ι)
    (mono : ∀ p v w w', holds p v w → Below w.heap.size w w' → holds p v w')
    (F : (Nat → Value) → Act) (hF : ∀ vs, F vs = putAll vs 0 ops.toList a0) (hm : P.follows .mixedOrders = true) (hf : fitsR ops = true)
    (hQ : ∀ c (x y : Act) w, x.defers = y.defers → Q (.panic c) x w → Q (.panic c) y w)
    (h0 : G w0.drew)
    (hstep : AllOps (fun i o => ∀ vs w, G w → AllD (fun j => holds (xs.getD j d) (vs j) w) (depsOf o) →
      ∀ K : Act → World → Prop, (∀ v w', Below w.heap.size w w' → G w' → holds (xs.getD i d) v w' → K ((F vs).put o.dst v) w') →
        if Region.wanted o (yielded ops (F vs).tmps) = true then Oper.wp P o (F vs) w K Q else K ((F vs).put o.dst undef) w) 0 ops.toList)
    (hend : ∀ vs w, G w → (∀ i, i < ops.size → holds (xs.getD i d) (vs i) w) → Q .normal (F vs) w) :
    (Code.region id ops true).wp P Q a0 w0 := by
  refine region_invA (fun l vs w => G w ∧ ∀ i, l i = true → holds (xs.getD i d) (vs i) w) F hF hm hf hQ ⟨h0, fun i h => by cases h⟩ ?_ (fun l vs w hl hJ => hend vs w hJ.1 fun i hi => hJ.2 i (hl i hi))
  refine hstep.imp fun i o go l vs w hJ _ hd K hK => ?_
  refine go vs w hJ.1 (AllD.of (fun j hj => hJ.2 j hj) hd) K fun v w' hb hG hv => hK v w' ⟨hG, fun j hj => ?_⟩
  by_cases e : j = i
  · subst e; rw [updR_same]; exact hv
  · rw [updR_ne _ _ e] at hj ⊢
    exact mono _ _ _ _ (hJ.2 j hj) hb
end Go.Proofs.YtcfbcidakddhfaaGreatDoor
namespace Go.Proofs.YtcfbcidakddhfaaGreatDoor
open Go.RowKit

theorem isGuarded_any (n : Int) (w : World) : Calls Tryz.prog 100 #[.int .u8 n] w fun e w' => e = .returned (.bool (gN n)) ∧ w = w' := by
  go_enter Tryz.func100, Tryz.ntmps100
  go_wp2
  all_goals go_ret
  all_goals exact ⟨ret_bool (by rw [Bool.eq_iff_iff]; first | (simp [gN] at *; done) | (simp [gN] at *; omega)), rfl⟩

/-- A string, and new memory alone. -/
def NewStr (w : World) (s : ByteArray) (e : Ending) (w' : World) : Prop := e = .returned (.string s) ∧ Below w.heap.size w w'

end Go.Proofs.YtcfbcidakddhfaaGreatDoor
