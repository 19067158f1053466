/- A law for a statement whose order is open and whose operations only make new memory: of each operation's value a predicate is known, that later new memory leaves. -/
import Derived.Test.YtpnhdocimjkakaaRows
import Derived.Test.YtpnhdocimjkakaaPn2
import Derived.ProofKit
import Derived.OpenShut
import Derived.Carry
import Derived.ChangeSlices
import Derived.SizedLaws
import Derived.JoinedCond
import Derived.Deep.CondSized
import Derived.Test.YtpnhdocimjkakaaPn1
namespace Go.Proofs.Ytpnhdocimjkakaa
open Go.ChangeShapes Go.WideShapes Go.ChangeAt Go.RowKit

theorem own : ownKnob Try.prog.godebug = none := by kernel_rfl
theorem laid_out : laidOutB Try.prog = true := by kernel_rfl

noncomputable def readOk (t : TypeId) : Bool := Try.prog.readableRec t && decide (t < Try.prog.types.size)
theorem trodAll_stays {H : Type} {enc : TypeId × Value → H} {W W' : World} (hb : Below W.heap.size W W') (ts : List TypeId) (hts : ts.all readOk = true)
    {vs : List Value} {ds : List (DataW H)} {ps : List MemPlace} (h : DataW.TrodAll enc Try.prog W 0 (fun _ => true) true ts vs ds ps) (hlt : ∀ x ∈ ps, x.block < W.heap.size) : DataW.TrodAll enc Try.prog W' 0 (fun b => decide (b < W.heap.size)) true ts vs ds ps := by
  induction ts generalizing vs ds ps with
  | nil =>
    obtain ⟨rfl, rfl, rfl⟩ := trodAll_nil h
    exact trodAll_mk0
  | cons t ts ih =>
    obtain ⟨v, vs', d, ds', p, q, rfl, rfl, rfl, h1, h2⟩ := trodAll_cons h
    rw [List.all_cons, Bool.and_eq_true] at hts
    have hr := hts.1
    unfold readOk at hr
    rw [Bool.and_eq_true, decide_eq_true_eq] at hr
    exact trodAll_cons_mk (Below.trod laid_out hr.1 hr.2 h1 hb fun x hx => hlt x (List.mem_append_left _ hx)) (ih hts.2 h2 fun x hx => hlt x (List.mem_append_right _ hx))

theorem law_post {H : Type} {enc : TypeId × Value → H} {f : Func} {s : ChangeSpec} {apart : Bool} {W W' : World} {args : Array Value} {ds gs : List (DataW H)} {before : List MemPlace}
    (hW : DataW.Whole enc Try.prog f.params.toList s.vars apart W args.toList ds gs before) (hs : s.vars = []) (hres : f.resultTypes = #[4])
    (hts : f.params.toList.all readOk = true) (hfn : (s.fn H (ds ++ gs)).results = [.lit (.bool true)] ∧ (s.fn H (ds ++ gs)).args = ds ∧ (s.fn H (ds ++ gs)).vars = [])
    (hb : Below W.heap.size W W') : s.post enc Try.prog f apart true false false W args (.bool true) W' := by
  have hlt := hW.lt
  have hW' := hW
  obtain ⟨p, q, hA, hV, rfl, hfz, hnd⟩ := hW
  rw [hs] at hV
  obtain ⟨rfl, rfl⟩ := trodVars_none hV
  refine ⟨ds, [], p ++ [], [], p, [], hW', ?_, ?_, ?_, hb.frame _, fun h => by cases h⟩
  · rw [hfn.1, hres]
    exact trodAll_mk1 (shut_bool Try.underlying4 _)
  · rw [hfn.2.1]
    exact trodAll_stays hb _ hts hA fun x hx => hlt x (List.mem_append_left _ hx)
  · rw [hfn.2.2, hs]; rfl

theorem cells_u8 : Try.prog.cellsOf 5 = 1 := by kernel_rfl
theorem len_le_bulk {H : Type} : ∀ (l : List (DataW H)), l.length ≤ Rows.uptoBulkAll l
  | [] => by simp [Rows.uptoBulkAll]
  | x :: r => by
    have h1 : 1 ≤ Rows.uptoBulk x := by
      cases x with
      | lit l => cases l <;> simp [Rows.uptoBulk]
      | nil => simp [Rows.uptoBulk]
      | ptr d => simp [Rows.uptoBulk]
      | slice elems spare => simp [Rows.uptoBulk]
      | agg parts => simp [Rows.uptoBulk]
      | iface t d => simp [Rows.uptoBulk]
      | map entries => simp [Rows.uptoBulk]
      | held h => simp [Rows.uptoBulk]
    have := len_le_bulk r
    simp only [Rows.uptoBulkAll, List.length_cons]; omega

theorem open_bs0 {H : Type} {enc : TypeId × Value → H} {W : World} {base fuel : Nat} {sp : Nat → Bool} {held : Bool} {cs : List Value} {x : DataW H × List MemPlace} (hf : DataW.trod enc Try.prog W base sp held fuel 23 cs = some x) :
    ∃ A cap l, cs = [.slice A l.length cap] ∧ Bs W W.heap.size A cap l ∧ l.length ≤ Rows.uptoBulk x.1 ∧ (l = [] ∨ ∃ es ss, x.1 = .slice es ss ∧ es.length = l.length) := by
  rcases open_ints Try.underlying23 Try.underlying5 cells_u8 hf with ⟨hcs, hx⟩ | ⟨a, len, cap, zs, hcs, _, hl, hm, hz, hx, hcell, hwz⟩
  · subst hcs hx
    exact ⟨none, 0, [], rfl, ⟨Nat.le_refl _, Nat.zero_le _, fun _ => rfl, fun h => absurd h (by simp)⟩, by simp, .inl rfl⟩
  · subst hcs hx
    have hzl : len ≤ zs.length := by rw [hz]; split <;> omega
    have hll : ((zs.take len).map fun n => UInt8.ofNat n.toNat).length = len := by simp; omega
    refine ⟨some a, cap, (zs.take len).map fun n => UInt8.ofNat n.toNat, by rw [hll], ⟨by rw [hll]; exact hl, hm, (fun h => by cases h), fun hn => ⟨a, rfl, ?_, fun k c hk => ?_⟩⟩, ?_, .inr ⟨_, _, rfl, by simp [lits]⟩⟩
    · rw [hll] at hn
      have := World.block_lt_of_cell? W _ (hcell 0 (by omega))
      rwa [block_of_add] at this
    · simp only [List.getElem?_map, List.getElem?_take, Option.map_eq_some_iff] at hk
      obtain ⟨n, hn, rfl⟩ := hk
      split at hn
      · have hkz := (List.getElem?_eq_some_iff.1 hn).1
        have hnz : n ∈ zs := List.mem_of_getElem? hn
        have hb : 0 ≤ n ∧ n ≤ 255 := by simpa [Lit.wf, IntKind.min, IntKind.max, IntKind.signed, IntKind.bits] using hwz n hnz
        rw [hcell k hkz]
        have : zs.getD k 0 = n := by simp [List.getD, hn]
        rw [this]
        have : ((UInt8.ofNat n.toNat).toNat : Int) = n := by simp; omega
        rw [this]
      · cases hn
    · rw [hll]
      have := len_le_bulk (lits (H := H) .u8 (zs.take len))
      simp only [Rows.uptoBulk]
      have e : (lits (H := H) .u8 (zs.take len)).length = len := by simp [lits]; omega
      omega
set_option maxRecDepth 100000 in
theorem open_bs {H : Type} {enc : TypeId × Value → H} {W : World} {base : Nat} {v : Value} {d : DataW H} {p : List MemPlace}
    (hv : Value.okWide Try.prog W .any base 23 v) (h : DataW.Trod enc Try.prog W 0 (fun _ => true) true 23 v d p) :
    ∃ A cap l, v = .slice A l.length cap ∧ Bs W W.heap.size A cap l ∧ l.length ≤ Rows.uptoBulk d ∧ (l = [] ∨ ∃ es sp, d = .slice es sp ∧ es.length = l.length) := by
  obtain ⟨a1, len, cap, rfl⟩ := okWide_slice Try.underlying23 hv
  obtain ⟨fuel, hf⟩ := h
  obtain ⟨A, cap', l, hcs, hb, hk, hd⟩ := open_bs0 hf
  simp [Value.cells] at hcs
  obtain ⟨rfl, rfl, rfl⟩ := hcs
  exact ⟨_, _, l, rfl, hb, hk, hd⟩
end Go.Proofs.Ytpnhdocimjkakaa
namespace Go.Proofs.Ytpnhdocimjkakaa

theorem foldl_be (l : List UInt8) : ∀ n : Nat, l.foldl (fun n b => n * 256 + b.toNat) n = n * 256 ^ l.length + ofBE l := by
  induction l with
  | nil => intro n; simp [ofBE]
  | cons b l ih =>
    intro n
    unfold ofBE
    simp only [List.foldl_cons, List.length_cons]
    rw [ih, ih (0 * 256 + b.toNat), Nat.pow_succ, Nat.add_mul, Nat.mul_assoc, Nat.mul_comm 256, Nat.zero_mul, Nat.zero_add]
    omega
theorem ofBE_cons (b : UInt8) (l : List UInt8) : ofBE (b :: l) = b.toNat * 256 ^ l.length + ofBE l := by
  have := foldl_be l (0 * 256 + b.toNat)
  unfold ofBE at *
  rw [List.foldl_cons, this, Nat.zero_mul, Nat.zero_add]
theorem ofBE_append (l m : List UInt8) : ofBE (l ++ m) = ofBE l * 256 ^ m.length + ofBE m := by
  unfold ofBE
  rw [List.foldl_append, foldl_be]
  rfl
theorem less_be : ∀ (l m : List UInt8), l.length = m.length → Op.bytesLess l m = decide (ofBE l < ofBE m)
  | [], [], _ => by simp [Op.bytesLess, ofBE]
  | [], _ :: _, h => by simp at h
  | _ :: _, [], h => by simp at h
  | a :: l, b :: m, h => by
    have hl : l.length = m.length := by simpa using h
    have hlt := ofBE_lt l
    have hmt := ofBE_lt m
    rw [hl] at hlt
    rw [Op.bytesLess, less_be l m hl, ofBE_cons, ofBE_cons, hl]
    generalize ofBE l = x at *
    generalize ofBE m = y at *
    generalize 256 ^ m.length = P at *
    rw [Bool.eq_iff_iff]
    simp only [Bool.or_eq_true, Bool.and_eq_true, decide_eq_true_eq, beq_iff_eq, UInt8.lt_iff_toNat_lt]
    rw [← UInt8.toNat_inj]
    generalize a.toNat = p
    generalize b.toNat = q
    constructor
    · rintro (h | ⟨rfl, h⟩)
      · have : (p + 1) * P ≤ q * P := Nat.mul_le_mul_right _ h
        rw [Nat.add_mul, Nat.one_mul] at this
        omega
      · omega
    · intro h
      rcases Nat.lt_trichotomy p q with h1 | h1 | h1
      · exact .inl h1
      · subst h1; exact .inr ⟨rfl, by omega⟩
      · have : (q + 1) * P ≤ p * P := Nat.mul_le_mul_right _ h1
        rw [Nat.add_mul, Nat.one_mul] at this
        omega
theorem inj_be : ∀ (l m : List UInt8), l.length = m.length → ofBE l = ofBE m → l = m
  | [], [], _, _ => rfl
  | [], _ :: _, h, _ => by simp at h
  | _ :: _, [], h, _ => by simp at h
  | a :: l, b :: m, h, e => by
    have hl : l.length = m.length := by simpa using h
    have hlt := ofBE_lt l
    have hmt := ofBE_lt m
    rw [hl] at hlt
    rw [ofBE_cons, ofBE_cons, hl] at e
    have key : a.toNat = b.toNat ∧ ofBE l = ofBE m := by
      generalize ofBE l = x at *
      generalize ofBE m = y at *
      generalize 256 ^ m.length = P at *
      generalize a.toNat = p at *
      generalize b.toNat = q at *
      rcases Nat.lt_trichotomy p q with h1 | h1 | h1
      · have : (p + 1) * P ≤ q * P := Nat.mul_le_mul_right _ h1
        rw [Nat.add_mul, Nat.one_mul] at this
        omega
      · subst h1; exact ⟨rfl, by omega⟩
      · have : (q + 1) * P ≤ p * P := Nat.mul_le_mul_right _ h1
        rw [Nat.add_mul, Nat.one_mul] at this
        omega
    rw [UInt8.toNat_inj.1 key.1, inj_be l m hl key.2]

theorem ofBE_to (u k : Nat) : ∀ j, j ≤ k → ofBE (beTo u k j) = u / 256 ^ (k - j) % 256 ^ j
  | 0, _ => by simp [beTo_zero, ofBE, Nat.mod_one]
  | j + 1, h => by
    rw [beTo_succ, ofBE_snoc, ofBE_to u k j (by omega)]
    have e : k - j = (k - 1 - j) + 1 := by omega
    have e2 : k - (j + 1) = k - 1 - j := by omega
    rw [e, e2, Nat.pow_succ, ← Nat.div_div_eq_div_mul]
    generalize u / 256 ^ (k - 1 - j) = z
    have hb : (UInt8.ofNat z).toNat = z % 256 := by simp
    rw [hb, Nat.pow_succ, Nat.mul_comm (256 ^ j) 256, Nat.mod_mul]
    omega
theorem ofBE_beN (u k : Nat) : ofBE (beN u k) = u % 256 ^ k := by
  rw [← beTo_all, ofBE_to u k k (Nat.le_refl _), Nat.sub_self, Nat.pow_zero, Nat.div_one]

theorem u64N_of {a : Int} (h0 : 0 ≤ a) (h1 : a ≤ 4611686018427387904) : u64N a = a.toNat := by unfold u64N; omega
theorem ofBE_putB {a b c : Int} (ha : 0 ≤ a ∧ a ≤ 4611686018427387904) (hb : 0 ≤ b ∧ b ≤ 4294967295) (hc : 0 ≤ c ∧ c ≤ 4294967295) :
    ofBE (putB a b c) = (a.toNat * 4294967296 + b.toNat) * 4294967296 + c.toNat := by
  unfold putB
  rw [ofBE_append, ofBE_append, ofBE_beN, ofBE_beN, ofBE_beN, beN_length, beN_length, u64N_of ha.1 ha.2, u64N_of hb.1 (by omega), u64N_of hc.1 (by omega)]
  have e1 : a.toNat % 256 ^ 8 = a.toNat := Nat.mod_eq_of_lt (by simp only [Nat.reducePow]; omega)
  have e2 : b.toNat % 256 ^ 4 = b.toNat := Nat.mod_eq_of_lt (by simp only [Nat.reducePow]; omega)
  have e3 : c.toNat % 256 ^ 4 = c.toNat := Nat.mod_eq_of_lt (by simp only [Nat.reducePow]; omega)
  rw [e1, e2, e3]

section
variable {a b c x y z : Int} (ha : 0 ≤ a ∧ a ≤ 4611686018427387904) (hb : 0 ≤ b ∧ b ≤ 4294967295) (hc : 0 ≤ c ∧ c ≤ 4294967295)
  (hx : 0 ≤ x ∧ x ≤ 4611686018427387904) (hy : 0 ≤ y ∧ y ≤ 4294967295) (hz : 0 ≤ z ∧ z ≤ 4294967295)
include ha hb hc hx hy hz
theorem put_less : Op.bytesLess (putB a b c) (putB x y z) = decide (cmpS a b c x y z < 0) := by
  rw [less_be _ _ (by rw [putB_length, putB_length]), ofBE_putB ha hb hc, ofBE_putB hx hy hz]
  rw [Bool.eq_iff_iff, decide_eq_true_eq, decide_eq_true_eq]
  unfold cmpS
  (repeat' split) <;> omega
theorem put_inj : putB a b c = putB x y z ↔ (a = x ∧ b = y ∧ c = z) := by
  constructor
  · intro h
    have := congrArg ofBE h
    rw [ofBE_putB ha hb hc, ofBE_putB hx hy hz] at this
    omega
  · rintro ⟨rfl, rfl, rfl⟩; rfl
end
theorem get_put {a b c : Int} (ha : 0 ≤ a ∧ a ≤ 4611686018427387904) (hb : 0 ≤ b ∧ b ≤ 4294967295) (hc : 0 ≤ c ∧ c ≤ 4294967295) : getB (putB a b c) = (a, b, c, 0) := by
  have h8 : (beN (u64N a) 8).length = 8 := beN_length _ _
  have h4 : (beN (u64N b) 4).length = 4 := beN_length _ _
  have h4' : (beN (u64N c) 4).length = 4 := beN_length _ _
  have eA : getA (putB a b c) = a.toNat := by
    unfold getA cutN putB
    rw [List.drop_zero, List.append_assoc, List.take_append_of_le_length (by omega), List.take_of_length_le (by omega), ofBE_beN, u64N_of ha.1 ha.2]
    exact Nat.mod_eq_of_lt (by simp only [Nat.reducePow]; omega)
  have eT : getT (putB a b c) = b.toNat := by
    unfold getT cutN putB
    rw [List.append_assoc, List.drop_append_of_le_length (by omega), List.drop_of_length_le (by omega), List.nil_append, List.take_append_of_le_length (by omega), List.take_of_length_le (by omega), ofBE_beN, u64N_of hb.1 (by omega)]
    exact Nat.mod_eq_of_lt (by simp only [Nat.reducePow]; omega)
  have eM : getM (putB a b c) = c.toNat := by
    unfold getM cutN putB
    rw [List.drop_append, List.length_append, h8, h4, List.drop_of_length_le (by rw [List.length_append, h8, h4]; omega), List.nil_append, List.drop_zero, List.take_of_length_le (by omega), ofBE_beN, u64N_of hc.1 (by omega)]
    exact Nat.mod_eq_of_lt (by simp only [Nat.reducePow]; omega)
  rw [getB_ok (putB_length _ _ _) (by rw [eA]; omega), eA, eT, eM]
  have h1 : ((a.toNat : Nat) : Int) = a := by omega
  have h2 : ((b.toNat : Nat) : Int) = b := by omega
  have h3 : ((c.toNat : Nat) : Int) = c := by omega
  rw [h1, h2, h3]
end Go.Proofs.Ytpnhdocimjkakaa
namespace Go.Proofs.Ytpnhdocimjkakaa
open Go.RowKit

def AllD (p : Nat → Prop) : List Nat → Prop
  | [] => True
  | j :: js => p j ∧ AllD p js
theorem AllD.of {p : Nat → Prop} {l : Nat → Bool} (h : ∀ j, l j = true → p j) : ∀ {js : List Nat}, AllL l js → AllD p js
  | [], _ => trivial
  | _ :: _, ⟨h1, h2⟩ => ⟨h _ h1, AllD.of h h2⟩
theorem AllD.get {p : Nat → Prop} : ∀ {js : List Nat}, AllD p js → ∀ {j : Nat}, j ∈ js → p j
  | _ :: _, ⟨h1, h2⟩, _, hj => (List.mem_cons.1 hj).elim (fun e => e ▸ h1) (fun e => h2.get e)
theorem AllOps.imp {p q : Nat → Oper → Prop} (h : ∀ i o, p i o → q i o) : ∀ {k : Nat} {os : List Oper}, AllOps p k os → AllOps q k os
  | _, [], _ => trivial
  | _, _ :: _, h2 => ⟨h _ _ h2.1, AllOps.imp h h2.2⟩
theorem region_V {P : Program} {Q : Exit → Act → World → Prop} {ops : Array Oper} {id : Nat} {a0 : Act} {w0 : World} {ι : Type} (holds : ι → Value → World → Prop) (G : World → Prop) (xs : List ι) (d : ι)
    (mono : ∀ p v w w', holds p v w → Below w.heap.size w w' → holds p v w')
    (F : (Nat → Value) → Act) (hF : ∀ vs, F vs = putAll vs 0 ops.toList a0) (hm : P.follows .mixedOrders = true) (hf : fitsR ops = true)
    (hQ : ∀ c (x y : Act) w, x.defers = y.defers → Q (.panic c) x w → Q (.panic c) y w)
    (h0 : G w0.drew)
    (hstep : AllOps (fun i o => ∀ vs w, G w → AllD (fun j => holds (xs.getD j d) (vs j) w) (depsOf o) →
      ∀ K : Act → World → Prop, (∀ v w', Below w.heap.size w w' → G w' → holds (xs.getD i d) v w' → K ((F vs).put o.dst v) w') →
        if Region.wanted o (yielded ops (F vs).tmps) = true then Oper.wp P o (F vs) w K Q else K ((F vs).put o.dst undef) w) 0 ops.toList)
    (hend : ∀ vs w, G w → (∀ i, i < ops.size → holds (xs.getD i d) (vs i) w) → Q .normal (F vs) w) :
    (Code.region id ops true).wp P Q a0 w0 := by
  refine region_invA (fun l vs w => G w ∧ ∀ i, l i = true → holds (xs.getD i d) (vs i) w) F hF hm hf hQ ⟨h0, fun i h => by cases h⟩ ?_ (fun l vs w hl hJ => hend vs w hJ.1 fun i hi => hJ.2 i (hl i hi))
  refine hstep.imp fun i o go l vs w hJ _ hd K hK => ?_
  refine go vs w hJ.1 (AllD.of (fun j hj => hJ.2 j hj) hd) K fun v w' hb hG hv => hK v w' ⟨hG, fun j hj => ?_⟩
  by_cases e : j = i
  · subst e; rw [updR_same]; exact hv
  · rw [updR_ne _ _ e] at hj ⊢
    exact mono _ _ _ _ (hJ.2 j hj) hb
end Go.Proofs.Ytpnhdocimjkakaa
