/- b[i:] and b[:i] of a slice of bytes, in one equation each. -/
import Derived.Test.YtpnhdocimjkakaaPn1
import Derived.Test.YtpnhdocimjkakaaPn5
import Derived.Test.YtpnhdocimjkakaaPn3
import Derived.Test.YtpnhdocimjkakaaPn4
import Derived.WalkSpells
namespace Go.Proofs.Ytpnhdocimjkakaa

theorem bl_hi : ∀ f x : Nat, x < 2 ^ f → x < 2 ^ (Lib.bitLenAux f x)
  | 0, x, h => by simpa [Lib.bitLenAux] using h
  | f + 1, x, h => by
    unfold Lib.bitLenAux
    split
    · next e => subst e; simp
    · have h2 : x / 2 < 2 ^ f := by rw [Nat.pow_succ] at h; omega
      have := bl_hi f (x / 2) h2
      rw [Nat.add_comm, Nat.pow_succ]
      omega
theorem bitLen_hi {x : Nat} (h : x ≤ 18446744073709551615) : x < 2 ^ Lib.bitLen x := bl_hi 64 x (by simp only [Nat.reducePow]; omega)
theorem bitLen_mono {a b : Nat} (h : a ≤ b) (hb : b ≤ 18446744073709551615) : Lib.bitLen a ≤ Lib.bitLen b :=
  Lib.bitLen_le a _ (bitLen_le b) (Nat.lt_of_le_of_lt h (bitLen_hi hb))
theorem kN_mono {a b : Nat} (ha : 247 < a) (h : a ≤ b) (hb : b ≤ 18446744073709551615) : kN a ≤ kN b := by
  have := bitLen_mono h hb
  rw [kN_high ha, kN_high (by omega)]
  omega
theorem kN_hi {a : Nat} (ha : 247 < a) (hb : a ≤ 18446744073709551615) : a < 256 ^ kN a := by
  have h := bitLen_hi hb
  rw [kN_high ha]
  generalize Lib.bitLen a = b at *
  have e : (256 : Nat) ^ ((b + 7) / 8) = 2 ^ (8 * ((b + 7) / 8)) := by rw [Nat.pow_mul]
  rw [e]
  exact Nat.lt_of_lt_of_le h (Nat.pow_le_pow_right (by decide) (by omega))

theorem cons_lt {x y : UInt8} {l m : List UInt8} (h : x.toNat < y.toNat) : Op.bytesLess (x :: l) (y :: m) = true := by
  simp [Op.bytesLess, UInt8.lt_iff_toNat_lt, h]
theorem cons_gt {x y : UInt8} {l m : List UInt8} (h : y.toNat < x.toNat) : Op.bytesLess (x :: l) (y :: m) = false := by
  have h1 : ¬ x.toNat < y.toNat := by omega
  have h2 : x ≠ y := by rintro rfl; omega
  simp [Op.bytesLess, UInt8.lt_iff_toNat_lt, h1, h2]
theorem cons_eq {x : UInt8} {l m : List UInt8} : Op.bytesLess (x :: l) (x :: m) = Op.bytesLess l m := by
  simp [Op.bytesLess]
theorem ofNat_toNat {n : Nat} (h : n ≤ 255) : (UInt8.ofNat n).toNat = n := by
  simp; omega

theorem numB_less {a b : Nat} (ha : a ≤ 18446744073709551615) (hb : b ≤ 18446744073709551615) : Op.bytesLess (numB a) (numB b) = decide (a < b) := by
  have ka := kN_le a
  have kb := kN_le b
  rcases Nat.lt_or_ge 247 a with h1 | h1 <;> rcases Nat.lt_or_ge 247 b with h2 | h2
  · rw [numB_high h1, numB_high h2, List.singleton_append, List.singleton_append]
    rcases Nat.lt_trichotomy (kN a) (kN b) with h | h | h
    · have hlt : a < b := by
        rcases Nat.lt_or_ge a b with h3 | h3
        · exact h3
        · have := kN_mono h2 h3 ha; omega
      rw [cons_lt (by rw [ofNat_toNat (by omega), ofNat_toNat (by omega)]; omega)]
      simp [hlt]
    · have ha' := kN_hi h1 ha
      have hb' := kN_hi h2 hb
      rw [h] at ha' ⊢
      rw [cons_eq, less_be _ _ (by rw [beN_length, beN_length]), ofBE_beN, ofBE_beN, Nat.mod_eq_of_lt ha', Nat.mod_eq_of_lt hb']
    · have hlt : ¬ a < b := by
        intro h3
        have := kN_mono h1 (Nat.le_of_lt h3) hb; omega
      rw [cons_gt (by rw [ofNat_toNat (by omega), ofNat_toNat (by omega)]; omega)]
      simp [hlt]
  · have hlt : ¬ a < b := by omega
    rw [numB_high h1, numB_low h2, List.singleton_append, cons_gt (by rw [ofNat_toNat (by omega), ofNat_toNat (by omega)]; have := kN_pos h1 (by omega); omega)]
    simp [hlt]
  · have hlt : a < b := by omega
    rw [numB_low h1, numB_high h2, List.singleton_append, cons_lt (by rw [ofNat_toNat (by omega), ofNat_toNat (by omega)]; have := kN_pos h2 (by omega); omega)]
    simp [hlt]
  · rw [numB_low h1, numB_low h2]
    rcases Nat.lt_trichotomy a b with h | h | h
    · rw [cons_lt (by rw [ofNat_toNat (by omega), ofNat_toNat (by omega)]; omega)]; simp [h]
    · subst h; rw [cons_eq]; simp [Op.bytesLess]
    · rw [cons_gt (by rw [ofNat_toNat (by omega), ofNat_toNat (by omega)]; omega)]; simp; omega
theorem numB_inj {a b : Nat} (ha : a ≤ 18446744073709551615) (hb : b ≤ 18446744073709551615) : numB a = numB b ↔ a = b := by
  constructor
  · intro h
    have h1 := numB_less ha hb
    have h2 := numB_less hb ha
    have h3 := numB_less ha ha
    rw [← h] at h1 h2
    rw [h3] at h1 h2
    simp at h1 h2
    omega
  · rintro rfl; rfl
end Go.Proofs.Ytpnhdocimjkakaa
namespace Go.Proofs.Ytpnhdocimjkakaa
open Go.RowKit

/-- One more of the two has come up. -/
def upG (i p : Nat) (b : Bool) : Bool := match Nat.beq i p with | true => true | false => b
theorem upG_eq (l : Nat → Bool) (i p : Nat) : updR l i true p = upG i p (l p) := by
  by_cases e : p = i
  · subst e
    rw [updR_same]
    unfold upG
    rw [Nat.beq_refl]
  · rw [updR_ne _ _ e]
    unfold upG
    have hb : Nat.beq i p = false := by
      cases h : Nat.beq i p with
      | false => rfl
      | true => exact absurd (Nat.eq_of_beq_eq_true h).symm e
    rw [hb]
theorem region_G {P : Program} {Q : Exit → Act → World → Prop} {ops : Array Oper} {id : Nat} {a0 : Act} {w0 : World} (G : Bool → Bool → World → Prop) (p q : Nat) (xs : List Value)
    (F : (Nat → Value) → Act) (hF : ∀ vs, F vs = putAll vs 0 ops.toList a0) (hm : P.follows .mixedOrders = true) (hf : fitsR ops = true) (hp : (Nat.blt p ops.size && Nat.blt q ops.size) = true)
    (hQ : ∀ c (x y : Act) w, x.defers = y.defers → Q (.panic c) x w → Q (.panic c) y w)
    (h0 : G false false w0.drew)
    (hstep : AllOps (fun i o => ∀ vs b c w, G b c w → AllD (fun j => vs j = xs.getD j undef) (depsOf o) → (Nat.beq i p = true → b = false) → (Nat.beq i q = true → c = false) →
      ∀ K : Act → World → Prop, (∀ w', G (upG i p b) (upG i q c) w' → K ((F vs).put o.dst (xs.getD i undef)) w') →
        if Region.wanted o (yielded ops (F vs).tmps) = true then Oper.wp P o (F vs) w K Q else K ((F vs).put o.dst undef) w) 0 ops.toList)
    (hend : ∀ vs w, G true true w → (∀ i, i < ops.size → vs i = xs.getD i undef) → Q .normal (F vs) w) :
    (Code.region id ops true).wp P Q a0 w0 := by
  simp only [Bool.and_eq_true, Nat.blt_eq] at hp
  refine region_inv hm hf F hF hQ (fun l vs w => G (l p) (l q) w ∧ ∀ i, l i = true → vs i = xs.getD i undef) ⟨h0, fun _ h => by cases h⟩ ?_ (fun l vs w hl hJ => ?_)
  · intro i o ho l vs w ⟨hG, hV⟩ hli hall K hK
    have hd := mem_deps ho hall
    have ho' : ops.toList[i]? = some o := by rw [Array.getElem?_toList]; exact ho
    have go := hstep.get ho'
    rw [Nat.zero_add] at go
    have hdep : AllD (fun j => vs j = xs.getD j undef) (depsOf o) := by
      have hdo : depsAt ops i = depsOf o := by simp [depsAt, ho]
      rw [hdo] at hd
      exact AllD.of (fun j hj => hV j hj) (AllL.mk hd)
    refine go vs (l p) (l q) w hG hdep (fun h => by have := Nat.eq_of_beq_eq_true h; subst this; exact hli) (fun h => by have := Nat.eq_of_beq_eq_true h; subst this; exact hli) K fun w' hG' => hK _ w' ⟨?_, fun j hj => ?_⟩
    · rw [upG_eq, upG_eq]; exact hG'
    · by_cases ej : j = i
      · subst ej; rw [updR_same]
      · rw [updR_ne _ _ ej] at hj ⊢
        exact hV j hj
  · have h1 := hJ.1
    rw [hl p hp.1, hl q hp.2] at h1
    exact hend vs w h1 fun i hi => hJ.2 i (hl i hi)
end Go.Proofs.Ytpnhdocimjkakaa
namespace Go.Proofs.Ytpnhdocimjkakaa
open Go.RowKit

theorem grown_below {W w w1 : World} {v : Value} {B : Nat} (h : Below B W w) (hg : w.grownBy w1 v.ownBlock) (hB : B ≤ w.heap.size) (ho : ∀ k, v.ownBlock = some k → B ≤ k) : Below B W w1 := h.grown hg hB ho
/-- A new slice with the bytes l; nothing else has turned. -/
def NewBytes (w : World) (l : List UInt8) (e : Ending) (w' : World) : Prop :=
  ∃ A' cap', e = .returned (.slice A' l.length cap') ∧ Ob w' w.heap.size (.slice A' l.length cap') l ∧ Below w.heap.size w w'

theorem clone_any (K : Nat) (A : Option Addr) (n cap : Nat) (l : List UInt8) (w : World) (hn : l.length = n) (hb : Bs w K A cap l) (hK : K ≤ w.heap.size) (hsz : l.length ≤ 140737488355328) :
    Calls Try.prog 106 #[.slice A n cap] w (NewBytes w l) := by
  subst hn
  have hle := hb.le
  have hmax := hb.max
  unfold maxLen at hmax
  cases A with
  | none =>
    have hc := hb.nil rfl
    have hl : l = [] := List.eq_nil_of_length_eq_zero (by omega)
    subst hl hc
    have hq := Lib.run_eql_slice_nil (P := Try.prog) w 23 5 none 0 0 0 0 Try.underlying23
    go_enter Try.func106, Try.ntmps106
    go_wp2
    go_ret
    exact ⟨none, 0, rfl, Ob.empty _ _, Below.refl _ _⟩
  | some ad =>
    have hq := Lib.run_eql_slice_nil (P := Try.prog) w 23 5 (some ad) l.length cap 0 0 Try.underlying23
    go_enter Try.func106, Try.ntmps106
    go_wp2_with (at_builtin; refine wpList_app _ rfl (.tmp 5) (.tmp 6) rfl w.heap.size (.slice (some ⟨w.heap.size, 0, none⟩) 0 0) [] rfl (lit_ob _ w.heap.size w.heap.size rfl (Nat.le_refl _) _ 0 [] rfl rfl (by decide)) (some ad) l.length cap l rfl rfl K (hb.alloc hK _) l.length (by simp) (by simpa using hsz) (by simp) ?_; intro A2 cap2 w2 hown2 hgrow2 hat2; have B2 : Below w.heap.size w w2 := grown_below ((Below.refl _ _).alloc (Nat.le_refl _) _) hgrow2 (by simp) (by simp [Value.ownBlock]))
    go_ret
    exact ⟨A2, cap2, rfl, hown2, B2⟩
end Go.Proofs.Ytpnhdocimjkakaa
namespace Go.Proofs.Ytpnhdocimjkakaa
open Go.RowKit

theorem elemBs : Try.prog.elem 23 = 5 := by unfold Program.elem; rw [Try.underlying23]
theorem underBs : Try.prog.underlying 23 = some (.slice (Try.prog.elem 23)) := by rw [elemBs]; exact Try.underlying23
theorem size_u8 (w : World) : (sizeOf 5).run Try.prog w = .ok 1 w := by
  obtain ⟨i0, hi, hz0, hz1, hz2⟩ := info_parts info_u8
  simp [sizeOf, typeInfo, hi, hz1]
theorem slice_from (A : Option Addr) (n cap j : Nat) (hj : j ≤ n) (w : World) :
    (Instr.slice 23 (.slice A n cap) (some (.int .i64 (j : Int))) none none).run Try.prog w = .ok (.slice (if cap = j then A else A.map (·.add j)) (n - j) (cap - j)) w := by
  have h := run_slice_l (P := Try.prog) (w := w) (t := 23) (a := A) (len := n) (cap := cap) underBs .i64 (j : Int) (by omega) (by omega)
  rw [h, elemBs, size_u8]
  simp [Result.andThen, sliced]
theorem slice_to (A : Option Addr) (n cap j : Nat) (hj : j ≤ cap) (w : World) :
    (Instr.slice 23 (.slice A n cap) none (some (.int .i64 (j : Int))) none).run Try.prog w = .ok (.slice A j cap) w := by
  have h := run_slice_h (P := Try.prog) (w := w) (t := 23) (a := A) (len := n) (cap := cap) underBs .i64 (j : Int) (by omega) (by omega)
  rw [h, elemBs, size_u8]
  have : ∀ a : Addr, a.add 0 = a := fun a => by unfold Addr.add; rw [if_pos rfl]
  cases A <;> simp [Result.andThen, sliced, this]
end Go.Proofs.Ytpnhdocimjkakaa
