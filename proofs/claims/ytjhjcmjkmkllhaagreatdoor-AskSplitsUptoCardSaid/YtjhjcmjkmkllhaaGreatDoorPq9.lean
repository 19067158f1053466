/- The document's Quote and Unquote. -/
import Derived.Test.YtjhjcmjkmkllhaaGreatDoorPq6
import Derived.Test.YtjhjcmjkmkllhaaGreatDoorPq4
import Derived.Test.YtjhjcmjkmkllhaaGreatDoorPq5
import Derived.ChangeMaps5
import Derived.Deep.Slices
import Derived.Deep.Fields
import Derived.Test.YtjhjcmjkmkllhaaGreatDoorPq2
import Derived.Lib.Join
import Derived.Test.YtjhjcmjkmkllhaaGreatDoorPq7
namespace Go.Proofs.YtjhjcmjkmkllhaaGreatDoor
open Go.RowKit

theorem region_LL {P : Program} {Q : Exit → Act → World → Prop} {ops : Array Oper} {id : Nat} {a0 : Act} {w0 : World} {ι : Type} (holds : (Nat → Bool) → ι → Value → World → Prop) (G : World → Prop) (Z : Nat → World → Prop) (Bx : Value → Nat → World → Prop) (a s c : Nat) (xs : List ι) (d : ι)
    (F : (Nat → Value) → Act) (hF : ∀ vs, F vs = putAll vs 0 ops.toList a0) (hm : P.follows .mixedOrders = true) (hf : fitsR ops = true)
    (hk : (Nat.blt a ops.size && Nat.blt s ops.size && (depsAt ops s).contains a && (depsAt ops s).contains c && !Nat.beq a s && !Nat.beq a c && !Nat.beq c s) = true)
    (hQ : ∀ c (x y : Act) w, x.defers = y.defers → Q (.panic c) x w → Q (.panic c) y w)
    (hsu : ∀ l w, holds l (xs.getD s d) undef w) (h0 : G w0.drew)
    (hstep : AllOps (fun i o => ∀ l vs w, l i = false → (reach ops ops.size i s = true → l s = false) → G w → AllD (fun j => Nat.beq j a = false → holds l (xs.getD j d) (vs j) w) (depsOf o) → (∀ g, Nat.beq i s = true → vs a = .pointer (some ⟨g, 0, none⟩) → Z g w →
        ∀ K : Act → World → Prop, (∀ w', G w' → Bx (vs c) g w' → (∀ j u, Nat.beq j i = false → Nat.beq j a = false → holds l (xs.getD j d) u w → holds (updR l i true) (xs.getD j d) u w') → K ((F vs).put o.dst undef) w') → if Region.wanted o (yielded ops (F vs).tmps) = true then Oper.wp P o (F vs) w K Q else K ((F vs).put o.dst undef) w) ∧
      (Nat.beq i s = false → ∀ K : Act → World → Prop, (∀ v w', G w' → (∀ j u, Nat.beq j i = false → Nat.beq j a = false → holds l (xs.getD j d) u w → holds (updR l i true) (xs.getD j d) u w') → (∀ g, Z g w → Z g w') → (l s = true → ∀ u g, Bx u g w → Bx u g w') → (Nat.beq i a = true → ∃ g, v = .pointer (some ⟨g, 0, none⟩) ∧ Z g w') → (Nat.beq i a = false → holds (updR l i true) (xs.getD i d) v w') → K ((F vs).put o.dst v) w') →
        if Region.wanted o (yielded ops (F vs).tmps) = true then Oper.wp P o (F vs) w K Q else K ((F vs).put o.dst undef) w)) 0 ops.toList)
    (hend : ∀ vs w g, G w → vs a = .pointer (some ⟨g, 0, none⟩) → Bx (vs c) g w → (∃ l : Nat → Bool, (∀ i, i < ops.size → l i = true) ∧ ∀ i, i < ops.size → Nat.beq i a = false → Nat.beq i s = false → holds l (xs.getD i d) (vs i) w) → vs s = undef → Q .normal (F vs) w) :
    (Code.region id ops true).wp P Q a0 w0 := by
  simp only [Bool.and_eq_true, Nat.blt_eq, List.contains_iff_mem, Bool.not_eq_true'] at hk
  obtain ⟨⟨⟨⟨⟨⟨ha, hs⟩, hda⟩, hdc⟩, has⟩, hac⟩, hcs⟩ := hk
  have nb : ∀ {x y : Nat}, Nat.beq x y = false → x ≠ y := fun h e => by subst e; rw [Nat.beq_refl] at h; cases h
  have bn : ∀ {x y : Nat}, x ≠ y → Nat.beq x y = false := fun {x y} h => by
    cases h9 : Nat.beq x y with
    | false => rfl
    | true => exact absurd (Nat.eq_of_beq_eq_true h9) h
  refine region_inv hm hf F hF hQ (fun l vs w => (∀ j, l j = true → ∀ e ∈ depsAt ops j, l e = true) ∧ G w ∧ (∀ i, l i = true → i ≠ a → i ≠ s → holds l (xs.getD i d) (vs i) w) ∧ (l s = true → l a = true ∧ l c = true ∧ vs s = undef) ∧ (l a = true → ∃ g, vs a = .pointer (some ⟨g, 0, none⟩) ∧ (l s = false → Z g w) ∧ (l s = true → Bx (vs c) g w)))
    ⟨(fun _ h => by cases h), h0, (fun i h => by cases h), (fun h => by cases h), (fun h => by cases h)⟩ ?_ (fun l vs w hl hJ => ?_)
  · intro i o ho l vs w ⟨hC, hG, hH, hS, hA⟩ hli hall K hK
    have hd := mem_deps ho hall
    have hC' : ∀ j, updR l i true j = true → ∀ e ∈ depsAt ops j, updR l i true e = true := fun j hj e he => by
      by_cases hei : e = i
      · subst hei; rw [updR_same]
      · rw [updR_ne _ _ hei]
        by_cases hji : j = i
        · subst hji; exact hd e he
        · rw [updR_ne _ _ hji] at hj; exact hC j hj e he
    have hrs : reach ops ops.size i s = true → l s = false := fun hr => by
      cases hls : l s with
      | false => rfl
      | true =>
        by_cases e : i = s
        · subst e; rw [hli] at hls; cases hls
        · have := reach_up hC ops.size i s (hC s hls) hr
          rw [hli] at this
          cases this
    have hdo : depsAt ops i = depsOf o := by simp [depsAt, ho]
    have ho' : ops.toList[i]? = some o := by rw [Array.getElem?_toList]; exact ho
    have go := hstep.get ho'
    rw [Nat.zero_add] at go
    have hdep : AllD (fun j => Nat.beq j a = false → holds l (xs.getD j d) (vs j) w) (depsOf o) := by
      rw [← hdo]
      refine AllD.of (l := fun j => l j) (fun j hj h9 => ?_) (AllL.mk hd)
      by_cases e : j = s
      · subst e
        rw [(hS hj).2.2]
        exact hsu l w
      · exact hH j hj (nb h9) e
    obtain ⟨g1, g2⟩ := go l vs w hli hrs hG hdep
    by_cases e : i = s
    · subst e
      obtain ⟨g, eg, hz, _⟩ := hA (hd a hda)
      refine g1 g (Nat.beq_refl _) eg (hz hli) K fun w' hG' hb hk => hK _ w' ⟨hC', hG', fun j hj hja hjs => ?_, fun _ => ?_, fun _ => ⟨g, ?_, fun h => ?_, fun _ => ?_⟩⟩
      · rw [updR_ne _ _ hjs] at hj
        rw [updR_ne vs _ hjs]
        exact hk j _ (bn hjs) (bn hja) (hH j hj hja hjs)
      · rw [updR_ne _ _ (nb has), updR_ne _ _ (nb hcs), updR_same]
        exact ⟨hd a hda, hd c hdc, rfl⟩
      · rw [updR_ne _ _ (nb has)]; exact eg
      · rw [updR_same] at h; cases h
      · rw [updR_ne _ _ (nb hcs)]; exact hb
    · refine g2 (bn e) K fun v w' hG' hkp hzk hbk h1 h2 => hK _ w' ⟨hC', hG', fun j hj hja hjs => ?_, fun h => ?_, fun h => ?_⟩
      · by_cases ej : j = i
        · subst ej; rw [updR_same]; exact h2 (bn hja)
        · rw [updR_ne _ _ ej] at hj
          rw [updR_ne vs _ ej]
          exact hkp j _ (bn ej) (bn hja) (hH j hj hja hjs)
      · rw [updR_ne _ _ (Ne.symm e)] at h ⊢
        obtain ⟨q1, q2, q3⟩ := hS h
        have e1 : a ≠ i := fun e9 => by subst e9; rw [hli] at q1; cases q1
        have e2 : c ≠ i := fun e9 => by subst e9; rw [hli] at q2; cases q2
        rw [updR_ne _ _ e1, updR_ne _ _ e2]
        exact ⟨q1, q2, q3⟩
      · by_cases ea : a = i
        · subst ea
          obtain ⟨g, eg, hz⟩ := h1 (Nat.beq_refl _)
          have hls : l s = false := by
            cases hls : l s with
            | false => rfl
            | true => have := (hS hls).1; rw [hli] at this; cases this
          refine ⟨g, by rw [updR_same]; exact eg, fun _ => hz, fun h9 => ?_⟩
          rw [updR_ne _ _ (Ne.symm e), hls] at h9
          cases h9
        · rw [updR_ne _ _ ea] at h ⊢
          obtain ⟨g, eg, hz, hx⟩ := hA h
          refine ⟨g, eg, fun h9 => ?_, fun h9 => ?_⟩
          · rw [updR_ne _ _ (Ne.symm e)] at h9
            exact hzk _ (hz h9)
          · rw [updR_ne _ _ (Ne.symm e)] at h9
            have e2 : c ≠ i := fun e9 => by subst e9; have := (hS h9).2.1; rw [hli] at this; cases this
            rw [updR_ne _ _ e2]
            exact hbk h9 _ _ (hx h9)
  · obtain ⟨_, hG, hH, hS, hA⟩ := hJ
    obtain ⟨g, eg, _, hx⟩ := hA (hl a ha)
    exact hend vs w g hG eg (hx (hl s hs)) ⟨l, hl, fun i hi h1 h2 => hH i (hl i hi) (nb h1) (nb h2)⟩ (hS (hl s hs)).2.2
end Go.Proofs.YtjhjcmjkmkllhaaGreatDoor
namespace Go.Proofs.YtjhjcmjkmkllhaaGreatDoor
open Go.ChangeShapes Go.WideShapes Go.ChangeAt Go.RowKit Go.Deep

theorem cells_rp : Tryz.prog.cellsOf 93 = 2 := by kernel_rfl
theorem one_rp : ∀ {fs : Array Field}, Tryz.prog.underlying 93 = some (.struct fs) → oneCellFields Tryz.prog fs = true := by
  intro fs h
  rw [Tryz.underlying93] at h
  injection h with h
  injection h with h
  subst h
  kernel_rfl

theorem bulk_mem {H : Type} : ∀ (l : List (DataW H)) (x : DataW H), x ∈ l → Rows.uptoBulk x ≤ Rows.uptoBulkAll l
  | [], _, h => by simp at h
  | y :: r, x, h => by
    rcases List.mem_cons.1 h with rfl | h
    · simp only [Rows.uptoBulkAll]; omega
    · have := bulk_mem r x h
      simp only [Rows.uptoBulkAll]; omega

set_option maxRecDepth 100000 in
theorem open_prs {H : Type} {enc : TypeId × Value → H} {W : World} {base : Nat} {v : Value} {d : DataW H} {p : List MemPlace}
    (hv : Value.okWide Tryz.prog W .any base 62 v) (h : DataW.Trod enc Tryz.prog W 0 (fun _ => true) true 62 v d p) :
    ∃ A cap l, v = .slice A l.length cap ∧ Lr W W.heap.size A cap l ∧ l.length ≤ Rows.uptoBulk d ∧ ∀ x ∈ l, x.1.size ≤ Rows.uptoBulk d ∧ x.2.size ≤ Rows.uptoBulk d := by
  obtain ⟨a1, len, cap, rfl⟩ := okWide_slice Tryz.underlying62 hv
  obtain ⟨fuel, hf⟩ := h
  rcases open_slice Tryz.underlying62 hf with ⟨hcs, hx⟩ | ⟨a, len', cap', m, n, D, Pl, hcs, _, hl, hmx, hmm, hx, hi⟩
  · simp [Value.cells] at hcs
    obtain ⟨rfl, rfl, rfl⟩ := hcs
    exact ⟨none, 0, [], rfl, Sr.none_ _ _, by simp, fun x hx => by simp at hx⟩
  · simp [Value.cells] at hcs
    obtain ⟨rfl, rfl, rfl⟩ := hcs
    have hlm : len ≤ m := by rw [hmm]; split <;> omega
    have each : ∀ i, i < len → ∃ x : Pp, W.cell? (a.add (i * 2)) = some (.string x.1) ∧ W.cell? (a.add (i * 2 + 1)) = some (.string x.2) ∧ D i = .agg [.lit (.string x.1.data.toList), .lit (.string x.2.data.toList)] := fun i hil => by
      obtain ⟨cs', hc, ht⟩ := hi i (by omega)
      rw [cells_rp] at hc
      obtain ⟨_, hcl, hat⟩ := World.cells?_some hc
      obtain ⟨ys, n', _, hy, _, hlen, hg⟩ := DataW.trod_struct Tryz.underlying93 ht
      match cs', hcl with
      | [u0, u1], _ =>
        have hone := one_rp Tryz.underlying93
        have g0 := hg 0 _ rfl
        have g1 := hg 1 _ rfl
        obtain ⟨o0, k0⟩ := hone_of hone 0 _ rfl
        obtain ⟨o1, k1⟩ := hone_of hone 1 _ rfl
        rw [o0, k0] at g0
        rw [o1, k1] at g1
        simp only [List.drop_zero, List.take_succ_cons, List.take_zero, List.drop_succ_cons] at g0 g1
        match ys, hlen with
        | [y0, y1], _ =>
          obtain ⟨s0, e0, d0, _⟩ := DataW.trod_string Tryz.underlying9 g0
          obtain ⟨s1, e1, d1, _⟩ := DataW.trod_string Tryz.underlying9 g1
          simp at e0 e1
          subst e0 e1 d0 d1
          have h0 := hat 0 (by omega)
          have h1 := hat 1 (by omega)
          rw [Go.Deep.add_add] at h0 h1
          rw [Nat.add_zero] at h0
          simp only [Prod.mk.injEq] at hy
          exact ⟨(s0, s1), h0, h1, by rw [hy.1]; rfl⟩
    obtain ⟨f, hf'⟩ := choose_lt each
    have hll : ((List.range len).map f).length = len := by simp
    simp only [Prod.mk.injEq] at hx
    have hbulk := len_le_bulk ((List.range len).map D)
    simp only [List.length_map, List.length_range] at hbulk
    refine ⟨some a, cap, (List.range len).map f, by rw [hll], ⟨by rw [hll]; exact hl, hmx, (fun h => by cases h), fun hn => ⟨a, rfl, ?_, fun i x hk => ?_⟩⟩, ?_, ?_⟩
    · rw [hll] at hn
      have := World.block_lt_of_cell? W _ (hf' 0 hn).1
      rwa [el_block_of_add] at this
    · simp only [List.getElem?_map, Option.map_eq_some_iff] at hk
      obtain ⟨j, hj, he⟩ := hk
      obtain ⟨hj1, hj2⟩ := List.getElem?_eq_some_iff.1 hj
      simp at hj1 hj2
      subst hj2
      have h2 := hf' i hj1
      rw [he] at h2
      intro q u hu
      match q, hu with
      | 0, hu =>
        simp [encP] at hu
        subst hu
        exact h2.1
      | 1, hu =>
        simp [encP] at hu
        subst hu
        exact h2.2.1
    · rw [hll, hx.1]
      simp only [Rows.uptoBulk]
      omega
    · intro x hxm
      obtain ⟨i, hi1, rfl⟩ := List.mem_map.1 hxm
      rw [List.mem_range] at hi1
      have hD := (hf' i hi1).2.2
      have hmem : D i ∈ (List.range len).map D := List.mem_map.2 ⟨i, List.mem_range.2 hi1, rfl⟩
      have hb := bulk_mem _ _ hmem
      rw [hD] at hb
      simp only [Rows.uptoBulk, Rows.uptoBulkAll] at hb
      have l1 : (f i).1.data.toList.length = (f i).1.size := by simp
      have l2 : (f i).2.data.toList.length = (f i).2.size := by simp
      rw [hx.1]
      simp only [Rows.uptoBulk]
      omega
end Go.Proofs.YtjhjcmjkmkllhaaGreatDoor
namespace Go.Proofs.YtjhjcmjkmkllhaaGreatDoor
open Go.RowKit

def encS (s : ByteArray) : List Value := [.string s]
theorem encS_len (s : ByteArray) : (encS s).length = 1 := rfl
theorem encS_one (s : ByteArray) : ∀ u ∈ encS s, u.oneCell' = true := by intro u hu; simp [encS] at hu; subst hu; rfl
/-- A label's part of the text. -/
def partL (x : Pp) : List UInt8 := x.1.data.toList ++ [61] ++ quoteB x.2
def partS (x : Pp) : ByteArray := x.1 ++ ⟨#[61]⟩ ++ ⟨(quoteB x.2).toArray⟩
theorem app_list (a b : ByteArray) : (a ++ b).data.toList = a.data.toList ++ b.data.toList := by simp
theorem partS_list (x : Pp) : (partS x).data.toList = partL x := by simp [partS, partL]
theorem partL_len {x : Pp} (h : x.1.size ≤ 1048576 ∧ x.2.size ≤ 1048576) : (partL x).length ≤ 4000000 := by
  have h2 := quoteB_len x.2
  have h3 : x.1.data.toList.length = x.1.size := by simp
  simp only [partL, List.length_append, List.length_singleton, h3]
  omega
theorem joinTail_len (sep : List UInt8) (M : Nat) : ∀ l : List (List UInt8), (∀ x ∈ l, x.length ≤ M) → (Lib.joinTail sep l).length ≤ l.length * (M + sep.length)
  | [], _ => by simp [Lib.joinTail]
  | x :: l, h => by
    have h1 := h x (by simp)
    have h2 := joinTail_len sep M l (fun z hz => h z (by simp [hz]))
    have e : Lib.joinTail sep (x :: l) = sep ++ x ++ Lib.joinTail sep l := by simp [Lib.joinTail]
    rw [e, List.length_append, List.length_append, List.length_cons, Nat.add_mul, Nat.one_mul]
    omega
theorem join_len_le (sep : List UInt8) (M : Nat) (l : List (List UInt8)) (h : ∀ x ∈ l, x.length ≤ M) : (Lib.join l sep).length ≤ l.length * (M + sep.length) := by
  cases l with
  | nil => simp [Lib.join_nil]
  | cons x l =>
    have h1 := h x (by simp)
    have h2 := joinTail_len sep M l (fun z hz => h z (by simp [hz]))
    rw [Lib.join_cons, List.length_append, List.length_cons, Nat.add_mul, Nat.one_mul]
    omega
theorem joinTail_snoc (sep y : List UInt8) (l : List (List UInt8)) : Lib.joinTail sep (l ++ [y]) = Lib.joinTail sep l ++ (sep ++ y) := by simp [Lib.joinTail]
theorem join_snoc (sep y : List UInt8) {l : List (List UInt8)} (h : l ≠ []) : Lib.join (l ++ [y]) sep = Lib.join l sep ++ (sep ++ y) := by
  cases l with
  | nil => exact absurd rfl h
  | cons x l => rw [List.cons_append, Lib.join_cons, Lib.join_cons, joinTail_snoc, List.append_assoc]
def textB (l : List Pp) : List UInt8 := 123 :: (Lib.join (l.map partL) [44] ++ [125])
theorem parts_len {l : List Pp} (h : Sm l) : (Lib.join (l.map partL) [44]).length ≤ l.length * 4000001 := by
  have := join_len_le [44] 4000000 (l.map partL) (fun x hx => by
    obtain ⟨p, hp, rfl⟩ := List.mem_map.1 hx
    exact partL_len (h p hp))
  simpa using this
theorem parts_list (l : List Pp) : (l.map partS).map (·.data.toList) = l.map partL := by
  rw [List.map_map]
  apply List.map_congr_left
  intro x _
  exact partS_list x
end Go.Proofs.YtjhjcmjkmkllhaaGreatDoor
namespace Go.Proofs.YtjhjcmjkmkllhaaGreatDoor
open Go.RowKit

theorem cell1 (n : Int) (c : UInt8) (h : n = (c.toNat : Int)) : [Value.int .u8 n] = [c].map bv := by subst h; rfl

end Go.Proofs.YtjhjcmjkmkllhaaGreatDoor
