/- The document's Get. -/
import Derived.Test.YtpnhdocimjkakaaPn4
import Derived.Test.YtpnhdocimjkakaaPn5
import Derived.Test.YtpnhdocimjkakaaPn3
import Derived.Laws.BytesArg
import Derived.Test.YtpnhdocimjkakaaPn2
import Derived.Test.YtpnhdocimjkakaaPn1
import Derived.LoopTactic
namespace Go.Proofs.Ytpnhdocimjkakaa
open Go.RowKit

structure Tn (P : Nat → Prop) (w w' : World) : Prop where
  os : w'.os = w.os
  tape : w'.tape = w.tape
  output : w'.output = w.output
  size : w.heap.size ≤ w'.heap.size
  block : ∀ k, k < w.heap.size → ¬ P k → w'.heap[k]? = w.heap[k]?

section
variable {P Q R : Nat → Prop} {w w1 w2 w' : World}
theorem Tn.refl (P : Nat → Prop) (w : World) : Tn P w w := ⟨rfl, rfl, rfl, Nat.le_refl _, fun _ _ _ => rfl⟩
theorem Tn.thenQ (h : Tn P w w1) (h2 : Tn Q w1 w2) (hQ : ∀ k, k < w.heap.size → Q k → P k) : Tn P w w2 :=
  ⟨h2.os.trans h.os, h2.tape.trans h.tape, h2.output.trans h.output, Nat.le_trans h.size h2.size, fun k hk hn =>
    (h2.block k (Nat.lt_of_lt_of_le hk h.size) (fun q => hn (hQ k hk q))).trans (h.block k hk hn)⟩
theorem Tn.then (h : Tn P w w1) (h2 : Tn P w1 w2) : Tn P w w2 := h.thenQ h2 fun _ _ h => h
theorem Tn.mono (h : Tn P w w') (hP : ∀ k, k < w.heap.size → P k → Q k) : Tn Q w w' :=
  ⟨h.os, h.tape, h.output, h.size, fun k hk hn => h.block k hk fun p => hn (hP k hk p)⟩
theorem Tn.ofBelow {B : Nat} (h : Below B w w') : Tn (B ≤ ·) w w' := ⟨h.os, h.tape, h.output, h.size, fun k _ hn => h.block k (by omega)⟩
theorem Tn.ofNew (h : Below w.heap.size w w') : Tn P w w' := ⟨h.os, h.tape, h.output, h.size, fun k hk _ => h.block k hk⟩
theorem Tn.below {B : Nat} (h : Tn P w w') (hB : B ≤ w.heap.size) (hP : ∀ k, k < w.heap.size → P k → B ≤ k) : Below B w w' :=
  ⟨h.os, h.tape, h.output, h.size, fun k hk => h.block k (by omega) fun p => by have := hP k (by omega) p; omega⟩
theorem Tn.ofGrown {row : Option Nat} (h : w.grownBy w' row) : Tn (fun k => some k = row) w w' := ⟨h.os, h.tape, h.output, h.size, fun k hk hn => h.block k hk hn⟩
theorem Tn.setCell (w : World) (b o : Nat) (v : Value) : Tn (· = b) w (w.setCell ⟨b, o, none⟩ v) :=
  ⟨rfl, rfl, rfl, by simp [World.setCell], fun k _ hn => by
    simp only [World.setCell]; rw [Array.getElem?_modify, if_neg (fun e => hn e.symm)]⟩
theorem Tn.alloc (w : World) (o : Obj) : Tn P w (w.alloc o) := ⟨rfl, rfl, rfl, by simp, fun k hk _ => Below.heap_alloc w o k hk⟩
theorem Tn.drew (w : World) : Tn P w w.drew := ⟨rfl, rfl, rfl, Nat.le_refl _, fun _ _ _ => rfl⟩
theorem Tn.cell (h : Tn P w w') {p : Addr} {v : Value} (hc : w.cell? p = some v) (hn : ¬ P p.block) : w'.cell? p = some v :=
  (World.cell?_of_block (h.block _ (World.block_lt_of_cell? w _ hc) hn)).trans hc
theorem Tn.frozen (h : Tn P w w') {p : Addr} (hp : p.block < w.heap.size) (hn : ¬ P p.block) : w'.frozen? p = w.frozen? p :=
  World.frozen?_of_block (h.block _ hp hn)
theorem Tn.ob (h : Tn P w w') {K : Nat} {v : Value} {l : List UInt8} (ho : Ob w K v l) (hn : ∀ k, v.ownBlock = some k → ¬ P k) : Ob w' K v l := by
  have hlt := ho.lt
  rcases ho.2 with ⟨he, h0⟩ | ⟨g, cap', cur, he, hb, hg, hrest⟩
  · exact ⟨ho.1, .inl ⟨he, h0⟩⟩
  · subst he
    exact ⟨ho.1, .inr ⟨g, cap', cur, rfl, hb, (h.block g (hlt g rfl).2 (hn g rfl)).trans hg, hrest⟩⟩
theorem Tn.bs (h : Tn P w w') {K : Nat} {A : Option Addr} {cap : Nat} {l : List UInt8} (hb : Bs w K A cap l) (hn : 0 < l.length → ∀ ad : Addr, A = some ad → ¬ P ad.block) : Bs w' K A cap l :=
  ⟨hb.le, hb.max, hb.nil, fun hl => by
    obtain ⟨ad, e, hk, hc⟩ := hb.at_ hl
    refine ⟨ad, e, hk, fun k c hkc => ?_⟩
    have := hc k c hkc
    have hbl : (ad.add k).block = ad.block := block_of_add ad k
    have hlt := World.block_lt_of_cell? w _ this
    generalize ad.add k = q at *
    obtain ⟨qb, qo, qx⟩ := q
    exact h.cell this (by rw [hbl]; exact hn hl ad e)⟩
end
end Go.Proofs.Ytpnhdocimjkakaa
namespace Go.Proofs.Ytpnhdocimjkakaa
open Go.RowKit

def stepOr (b : Bool) (p q : Prop) : Prop := match b with | true => p | false => q
/-- What the kernel reckons: the operation n waits for all others. -/
def lastAll (ops : Array Oper) (n : Nat) : Bool := (ops.size == n + 1) && (List.range n).all fun i => reach ops ops.size i n
theorem region_VS {P : Program} {Q : Exit → Act → World → Prop} {ops : Array Oper} {id : Nat} {a0 : Act} {w0 : World} {ι : Type} (holds : ι → Value → World → Prop) (G E : World → Prop) (n : Nat) (xs : List ι) (d : ι)
    (mono : ∀ p v w w', holds p v w → Below w.heap.size w w' → holds p v w')
    (F : (Nat → Value) → Act) (hF : ∀ vs, F vs = putAll vs 0 ops.toList a0) (hm : P.follows .mixedOrders = true) (hf : fitsR ops = true) (hl : lastAll ops n = true)
    (hQ : ∀ c (x y : Act) w, x.defers = y.defers → Q (.panic c) x w → Q (.panic c) y w)
    (h0 : G w0.drew)
    (hstep : AllOps (fun i o => ∀ vs w, G w → AllD (fun j => holds (xs.getD j d) (vs j) w) (depsOf o) →
      ∀ K : Act → World → Prop, stepOr (Nat.beq i n) (∀ v w', E w' → K ((F vs).put o.dst v) w') (∀ v w', Below w.heap.size w w' → G w' → holds (xs.getD i d) v w' → K ((F vs).put o.dst v) w') →
        if Region.wanted o (yielded ops (F vs).tmps) = true then Oper.wp P o (F vs) w K Q else K ((F vs).put o.dst undef) w) 0 ops.toList)
    (hend : ∀ vs w, E w → Q .normal (F vs) w) :
    (Code.region id ops true).wp P Q a0 w0 := by
  simp only [lastAll, Bool.and_eq_true, beq_iff_eq, List.all_eq_true, List.mem_range] at hl
  obtain ⟨hsz, hlast⟩ := hl
  refine region_inv hm hf F hF hQ (fun l vs w => (∀ j, l j = true → ∀ e ∈ depsAt ops j, l e = true) ∧ (l n = true → E w) ∧ (l n = false → G w ∧ ∀ i, l i = true → holds (xs.getD i d) (vs i) w))
    ⟨(fun _ h => by cases h), (fun h => by cases h), fun _ => ⟨h0, (fun _ h => by cases h)⟩⟩ ?_ (fun l vs w hl hJ => hend vs w (hJ.2.1 (hl n (by omega))))
  intro i o ho l vs w ⟨hC, hE, hG⟩ hli hall K hK
  have hi : i < ops.size := (Array.getElem?_eq_some_iff.1 ho).1
  have hd := mem_deps ho hall
  have hC' : ∀ j, updR l i true j = true → ∀ e ∈ depsAt ops j, updR l i true e = true := fun j hj e he => by
    by_cases hei : e = i
    · subst hei; rw [updR_same]
    · rw [updR_ne _ _ hei]
      by_cases hji : j = i
      · subst hji; exact hd e he
      · rw [updR_ne _ _ hji] at hj; exact hC j hj e he
  have hn : l n = false := by
    cases hln : l n with
    | false => rfl
    | true =>
      by_cases e : i = n
      · subst e; rw [hli] at hln; cases hln
      · have := reach_up hC ops.size i n (hC n hln) (hlast i (by omega))
        rw [hli] at this
        cases this
  obtain ⟨hg, hh⟩ := hG hn
  have ho' : ops.toList[i]? = some o := by rw [Array.getElem?_toList]; exact ho
  have go := hstep.get ho'
  rw [Nat.zero_add] at go
  have hdep : AllD (fun j => holds (xs.getD j d) (vs j) w) (depsOf o) := by
    have hdo : depsAt ops i = depsOf o := by simp [depsAt, ho]
    rw [hdo] at hd
    exact AllD.of (fun j hj => hh j hj) (AllL.mk hd)
  refine go vs w hg hdep K ?_
  by_cases e : i = n
  · subst e
    have hb : Nat.beq i i = true := Nat.beq_refl i
    rw [hb]
    exact fun v w' hw => hK v w' ⟨hC', fun _ => hw, fun h => by rw [updR_same] at h; cases h⟩
  · have hb : Nat.beq i n = false := by
      cases h : Nat.beq i n with
      | false => rfl
      | true => exact absurd (Nat.eq_of_beq_eq_true h) e
    rw [hb]
    refine fun v w' hbl hG' hv => hK v w' ⟨hC', fun h => ?_, fun _ => ⟨hG', fun j hj => ?_⟩⟩
    · rw [updR_ne _ _ (Ne.symm e), hn] at h; cases h
    · by_cases ej : j = i
      · subst ej; rw [updR_same]; exact hv
      · rw [updR_ne _ _ ej] at hj ⊢
        exact mono _ _ _ _ (hh j hj) hbl
end Go.Proofs.Ytpnhdocimjkakaa
namespace Go.Proofs.Ytpnhdocimjkakaa
open Go.RowKit

def encI (n : Int) : List Value := [.int .i64 n]
theorem encI_len (n : Int) : (encI n).length = 1 := rfl
theorem encI_one (n : Int) : ∀ u ∈ encI n, u.oneCell' = true := fun u hu => by
  unfold encI at hu
  rw [List.mem_singleton] at hu
  rw [hu]; rfl
theorem Sr.int {K cap i : Nat} {A : Option Addr} {l : List Int} {w : World} (h : Sr encI 1 w K A cap l) (hi : i < l.length) : ∃ ad : Addr, A = some ad ∧ ad.block < K ∧ w.cell? (ad.add i) = some (.int .i64 l[i]) := by
  obtain ⟨ad, e, hb, hc⟩ := h.get hi
  have := hc 0 (.int .i64 l[i]) rfl
  rw [Nat.mul_one, Nat.add_zero] at this
  exact ⟨ad, e, hb, this⟩
end Go.Proofs.Ytpnhdocimjkakaa
namespace Go.Proofs.Ytpnhdocimjkakaa
open Go.RowKit

def strB (l : List UInt8) : ByteArray := ⟨l.toArray⟩
theorem strB_toList (l : List UInt8) : (strB l).data.toList = l := rfl
theorem strB_size (l : List UInt8) : (strB l).size = l.length := by simp [strB, ByteArray.size]

theorem bs_str {w : World} {K cap n : Nat} {A : Option Addr} {l : List UInt8} (h : Bs w K A cap l) (hn : l.length = n) : (convert 23 9 (.slice A n cap)).run Try.prog w = .ok (.string (strB l)) w := by
  subst hn
  by_cases hl : l = []
  · subst hl
    rcases A with _ | ad
    · exact run_convert_bytes_nil (P := Try.prog) w 23 5 Try.underlying23 Try.underlying5 0 cap 9 Try.underlying9
    · show (convert 23 9 (.slice (some ad) 0 cap)).run Try.prog w = _
      rw [run_convert_bytes_string w 23 9 5 _ _ _ Try.underlying23 Try.underlying5 Try.underlying9, run_bytesToString w ad 0 cap [] (by simpa using run_loadCells_list (P := Try.prog) w ad [] (fun j v hj => by simp at hj))]
      rfl
  · obtain ⟨ad, rfl, _, hc⟩ := h.at_ (List.length_pos_iff.2 hl)
    have hld : (loadCells ad l.length).run Try.prog w = .ok ((l.map fun c => (c.toNat : Int)).map (Value.int .u8)).toArray w := by
      have := run_loadCells_list (P := Try.prog) w ad (l.map bv) (fun j v hj => by
        simp only [List.getElem?_map, Option.map_eq_some_iff] at hj
        obtain ⟨c, hc', rfl⟩ := hj
        exact hc j c hc')
      rw [List.length_map] at this
      rw [List.map_map]
      exact this
    rw [run_convert_bytes_string w 23 9 5 _ _ _ Try.underlying23 Try.underlying5 Try.underlying9, run_bytesToString w ad l.length cap _ hld, foldl_push_bytes, List.map_map]
    have e : (l.map ((fun n : Int => UInt8.ofNat n.toNat) ∘ fun c : UInt8 => (c.toNat : Int))) = l := by
      rw [show ((fun n : Int => UInt8.ofNat n.toNat) ∘ fun c : UInt8 => (c.toNat : Int)) = id by funext c; simp, List.map_id]
    rw [e]
    simp [strB, ByteArray.empty, ByteArray.emptyWithCapacity]
    rfl
end Go.Proofs.Ytpnhdocimjkakaa
namespace Go.Proofs.Ytpnhdocimjkakaa
open Go.RowKit

def GetPost (w : World) (l : List UInt8) (e : Ending) (w' : World) : Prop :=
  e = .returned (.tuple #[stv (getB l).1 (getB l).2.1 (getB l).2.2.1, .int .i64 (getB l).2.2.2]) ∧ Below w.heap.size w w'

theorem u64_step {x b : Nat} (hx : x < 72057594037927936) (hb : b < 256) : IntKind.u64.wrap (IntKind.u64.wrap ((x : Int) * 256) + (b : Int)) = ((x * 256 + b : Nat) : Int) := by
  have e : ∀ n : Int, IntKind.u64.wrap n = n % 18446744073709551616 := fun n => by simp [IntKind.wrap, IntKind.bits, IntKind.signed]
  rw [e, e]; omega
theorem u32_step {x b : Nat} (hx : x < 16777216) (hb : b < 256) : IntKind.u32.wrap (IntKind.u32.wrap ((x : Int) * 256) + (b : Int)) = ((x * 256 + b : Nat) : Int) := by
  have e : ∀ n : Int, IntKind.u32.wrap n = n % 4294967296 := fun n => by simp [IntKind.wrap, IntKind.bits, IntKind.signed]
  rw [e, e]; omega

end Go.Proofs.Ytpnhdocimjkakaa
