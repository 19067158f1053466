/- stamp.Put. -/
import Derived.Test.YtpnhdocimjkakaaPn1
import Derived.Test.YtpnhdocimjkakaaPn6
import Derived.LoopTactic
import Derived.Lib.SliceRun
import Derived.BigQuiet
import Derived.Deep.QuietTactic
import Derived.Test.YtpnhdocimjkakaaPn4
import Derived.Test.YtpnhdocimjkakaaPn0
import Derived.Test.YtpnhdocimjkakaaPn7
namespace Go.Proofs.Ytpnhdocimjkakaa
open Go.RowKit Go.BigFrame

theorem info_i64 : (Try.prog.info? 3).map (fun i => (i.zero, i.size, i.bytes)) = some (some (.int .i64 0), 1, 8) := by kernel_rfl
theorem take_snocI (l : List Int) (k : Nat) (h : k < l.length) : l.take (k + 1) = l.take k ++ [l[k]] := by
  rw [List.take_succ_eq_append_getElem h]
set_option maxHeartbeats 800000 in
theorem mems_any (K : Nat) (A : Option Addr) (n cap : Nat) (l : List Int) (w : World) (hn : l.length = n) (hp : Sr encI 1 w K A cap l) :
    Calls Try.prog 116 #[.slice A n cap] w fun e w' => e = .returned (.bool (memsB l)) ∧ w = w' := by
  subst hn
  have hle := hp.le
  have hmax := hp.max
  unfold maxLen at hmax
  have HP := Lib.hid hp
  clear hp
  go_enter Try.func116, Try.ntmps116
  go_wp2
  go_loop [3, 8] (fun lv iv => ∃ (k : Nat) (q : Int), k ≤ l.length ∧ iv = .int .i64 k ∧ lv = .int .i64 q ∧ Hid (q = (l.take k).getLastD (-1)) ∧ Hid (riseB (-1) (l.take k) = true)) (fun _ i => l.length - (intOf i).toNat)
  case atStart => exact ⟨0, -1, Nat.zero_le _, rfl, rfl, Lib.hid rfl, Lib.hid rfl⟩
  case round =>
    obtain ⟨k, q, hk, rfl, rfl, HQ, HR⟩ := hrel
    by_cases hlt : k < l.length
    · obtain ⟨ad, rfl, hadK, hc⟩ := HP.out.int hlt
      have HS := Lib.hid (take_snocI l k hlt)
      generalize l[k] = x at *
      have HX : Hid (riseB (-1) (l.take (k + 1)) = (decide (q < x) && decide (x < 8))) := Lib.hid (by rw [HS.out, riseB_snoc, HR.out, HQ.out]; simp)
      have HY : Hid (x = (l.take (k + 1)).getLastD (-1)) := Lib.hid (by rw [HS.out]; simp)
      by_cases c1 : x ≤ q
      · have HZ : Hid (false = memsB l) := Lib.hid (by
          unfold memsB
          cases hr : riseB (-1) l with
          | false => rfl
          | true => have := riseB_take hr (k + 1); rw [HX.out] at this; simp at this; omega)
        have d1 : decide (x ≤ q) = true := by simpa using c1
        clear c1
        go_wp2
        go_ret
        exact ⟨ret_bool HZ.out, rfl⟩
      · have d1 : decide (x ≤ q) = false := by simpa using c1
        have d1' := c1
        clear c1
        by_cases c2 : 8 ≤ x
        · have HZ : Hid (false = memsB l) := Lib.hid (by
            unfold memsB
            cases hr : riseB (-1) l with
            | false => rfl
            | true => have := riseB_take hr (k + 1); rw [HX.out] at this; simp at this; omega)
          have d2 : decide (8 ≤ x) = true := by simpa using c2
          clear c2
          go_wp2
          go_ret
          exact ⟨ret_bool HZ.out, rfl⟩
        · have d2 : decide (8 ≤ x) = false := by simpa using c2
          have HZ : Hid (riseB (-1) (l.take (k + 1)) = true) := Lib.hid (by rw [HX.out]; simp; omega)
          clear c2 d1'
          go_wp2
          go_round
          case rel => exact ⟨k + 1, x, by omega, by go_num, rfl, Lib.hid HY.out, Lib.hid HZ.out⟩
          case measure => simp [intOf]; omega
    · have hkl : k = l.length := by omega
      subst hkl
      have HZ : Hid (decide (0 < (l.length : Int)) = memsB l) := Lib.hid (by
        have := HR.out
        rw [List.take_length] at this
        unfold memsB; rw [this]; simp)
      go_wp2
      go_ret
      exact ⟨ret_bool (by rw [← HZ.out]; simp), rfl⟩

/-- slices.Index tells a place, or -1. -/
def IdxP (l : List Int) (v : Int) (w : World) (e : Ending) (w' : World) : Prop := ∃ r : Int, e = .returned (.int .i64 r) ∧ hasB l v = decide (0 ≤ r) ∧ w = w'
set_option maxHeartbeats 800000 in
theorem idx_any (K : Nat) (A : Option Addr) (n cap : Nat) (l : List Int) (v : Int) (w : World) (hn : l.length = n) (hp : Sr encI 1 w K A cap l) :
    Calls Try.prog 129 #[.slice A n cap, .int .i64 v] w (IdxP l v w) := by
  subst hn
  have hle := hp.le
  have hmax := hp.max
  unfold maxLen at hmax
  have HP := Lib.hid hp
  clear hp
  go_enter Try.func129, Try.ntmps129
  go_wp2
  go_loop [8] (fun iv => ∃ (k : Nat), k ≤ l.length ∧ iv = .int .i64 k ∧ Hid (v ∉ l.take k)) (fun i => l.length - (intOf i).toNat)
  case atStart => exact ⟨0, Nat.zero_le _, rfl, Lib.hid (by simp)⟩
  case round =>
    obtain ⟨k, hk, rfl, HR⟩ := hrel
    by_cases hlt : k < l.length
    · obtain ⟨ad, rfl, hadK, hc⟩ := HP.out.int hlt
      have HS := Lib.hid (take_snocI l k hlt)
      have HM : Hid (l[k] ∈ l) := Lib.hid (List.getElem_mem hlt)
      generalize l[k] = x at *
      by_cases c1 : v = x
      · subst c1
        have HZ : Hid (hasB l v = decide ((0 : Int) ≤ (k : Int))) := Lib.hid (by unfold hasB; simp [HM.out])
        go_wp2
        go_ret
        exact ⟨_, rfl, HZ.out, rfl⟩
      · have d1 : (v == x) = false := by simpa using c1
        have HZ : Hid (v ∉ l.take (k + 1)) := Lib.hid (by rw [HS.out]; simp only [List.mem_append, List.mem_singleton, not_or]; exact ⟨HR.out, c1⟩)
        clear c1
        go_wp2
        go_round
        case rel => exact ⟨k + 1, by omega, by go_num, Lib.hid HZ.out⟩
        case measure => simp [intOf]; omega
    · have hkl : k = l.length := by omega
      subst hkl
      have HZ : Hid (hasB l v = decide ((0 : Int) ≤ -1)) := Lib.hid (by
        have := HR.out
        rw [List.take_length] at this
        unfold hasB; simp [this])
      go_wp2
      go_ret
      exact ⟨_, rfl, HZ.out, rfl⟩
set_option maxHeartbeats 400000 in
theorem has_any (K : Nat) (A : Option Addr) (n cap : Nat) (l : List Int) (v : Int) (w : World) (hn : l.length = n) (hp : Sr encI 1 w K A cap l) :
    Calls Try.prog 117 #[.slice A n cap, .int .i64 v] w fun e w' => e = .returned (.bool (hasB l v)) ∧ w = w' := by
  have HP := Lib.hid (idx_any K A n cap l v w hn hp)
  clear hp
  go_enter Try.func117, Try.ntmps117
  go_wp2_with fail
  refine HP.out.mono ?_
  rintro e w' ⟨r, rfl, hr, rfl⟩
  have HR := Lib.hid hr
  clear hr
  go_wp2_with fail
  go_ret
  exact ⟨ret_bool (by rw [HR.out]), rfl⟩
/-- A new slice of ints. -/
def NewI (w : World) (l : List Int) (e : Ending) (w' : World) : Prop := ∃ A' cap', e = .returned (.slice A' l.length cap') ∧ So encI 1 w' w.heap.size 3 (.slice A' l.length cap') l ∧ Below w.heap.size w w'
theorem grown_belowI {W w w1 : World} {v : Value} {B : Nat} (h : Below B W w) (hg : w.grownBy w1 v.ownBlock) (hB : B ≤ w.heap.size) (ho : ∀ k, v.ownBlock = some k → B ≤ k) : Below B W w1 := h.grown hg hB ho
theorem clone_ints (K : Nat) (A : Option Addr) (n cap : Nat) (l : List Int) (w : World) (hn : l.length = n) (hb : Sr encI 1 w K A cap l) (hK : K ≤ w.heap.size) (hsz : l.length * 8 ≤ 140737488355328) :
    Calls Try.prog 77 #[.slice A n cap] w (NewI w l) := by
  subst hn
  have hle := hb.le
  have hmax := hb.max
  unfold maxLen at hmax
  cases A with
  | none =>
    have hc := hb.nil rfl
    have hl : l = [] := List.eq_nil_of_length_eq_zero (by omega)
    subst hl hc
    have hq := Lib.run_eql_slice_nil (P := Try.prog) w 29 3 none 0 0 0 0 Try.underlying29
    go_enter Try.func77, Try.ntmps77
    go_wp2
    go_ret
    exact ⟨none, 0, rfl, So.empty _ _ _ _ _, Below.refl _ _⟩
  | some ad =>
    have hq := Lib.run_eql_slice_nil (P := Try.prog) w 29 3 (some ad) l.length cap 0 0 Try.underlying29
    go_enter Try.func77, Try.ntmps77
    go_wp2_with (at_builtin; refine wpList_appE Try.underlying29 info_i64 (by kernel_rfl) (by decide) encI_len encI_one _ rfl (.tmp 5) (.tmp 6) rfl w.heap.size (.slice (some ⟨w.heap.size, 0, none⟩) 0 0) [] rfl (lit_so (α := Int) (enc := encI) (k := 1) w w.heap.size 3 w.heap.size rfl (Nat.le_refl _) _ 0 [] encI_len rfl rfl (by decide)) (some ad) l.length cap l rfl rfl K (hb.alloc hK _) l.length (by simp) (by unfold maxLen; omega) (by omega) (by simp) ?_; intro A2 cap2 w2 hown2 hgrow2 hat2; have B2 : Below w.heap.size w w2 := grown_belowI ((Below.refl _ _).alloc (Nat.le_refl _) _) hgrow2 (by simp) (by simp [Value.ownBlock]))
    go_ret
    exact ⟨A2, cap2, rfl, hown2, B2⟩
set_option maxHeartbeats 800000 in
/-- view.Right of a view by value. -/
theorem vright_any (e p : Int) (K : Nat) (A : Option Addr) (n cap : Nat) (l : List Int) (w : World) (hn : l.length = n) (hp : Sr encI 1 w K A cap l) (hK : K ≤ w.heap.size) :
    Calls Try.prog 78 #[.agg #[.int .i64 e, .int .i64 p, .slice A n cap]] w fun r w' => r = .returned (.bool (rightV e p l)) ∧ Below w.heap.size w w' := by
  subst hn
  have HM := Lib.hid (mems_any K A l.length cap l (w.alloc (.cells #[.int .i64 e, .int .i64 p, .slice A l.length cap] 43)) rfl (hp.alloc hK _))
  have HC := Lib.hid (has_any K A l.length cap l p (w.alloc (.cells #[.int .i64 e, .int .i64 p, .slice A l.length cap] 43)) rfl (hp.alloc hK _))
  have HB : Hid (Below w.heap.size w (w.alloc (.cells #[.int .i64 e, .int .i64 p, .slice A l.length cap] 43))) := Lib.hid ((Below.refl _ _).alloc (Nat.le_refl _) _)
  clear hp hK
  have HR : ∀ (b1 b2 b3 b4 : Bool), decide (1 ≤ e) = b1 → decide (e ≤ 4611686018427387904) = b2 → memsB l = b3 → hasB l p = b4 → Hid (rightV e p l = (b1 && b2 && b3 && b4)) := by
    rintro b1 b2 b3 b4 rfl rfl rfl rfl
    exact Lib.hid rfl
  cases h1 : decide (1 ≤ e) with
  | false =>
    have HQ := Lib.hid ((HR _ _ _ _ h1 rfl rfl rfl).out)
    clear HR
    go_enter Try.func78, Try.ntmps78
    go_wp2_with fail
    go_ret
    exact ⟨ret_bool (by rw [HQ.out]; rfl), HB.out⟩
  | true =>
    cases h2 : decide (e ≤ 4611686018427387904) with
    | false =>
      have HQ := Lib.hid ((HR _ _ _ _ h1 h2 rfl rfl).out)
      clear HR
      go_enter Try.func78, Try.ntmps78
      go_wp2_with fail
      go_ret
      exact ⟨ret_bool (by rw [HQ.out]; rfl), HB.out⟩
    | true =>
      cases h3 : memsB l with
      | false =>
        rw [h3] at HM
        have HQ := Lib.hid ((HR _ _ _ _ h1 h2 h3 rfl).out)
        clear HR h3
        go_enter Try.func78, Try.ntmps78
        go_wp2_with (go_at_call 116; refine HM.out.mono ?_; rintro r w1 ⟨rfl, rfl⟩)
        go_ret
        exact ⟨ret_bool (by rw [HQ.out]; rfl), HB.out⟩
      | true =>
        rw [h3] at HM
        have HQ := Lib.hid ((HR _ _ _ _ h1 h2 h3 rfl).out)
        clear HR h3
        go_enter Try.func78, Try.ntmps78
        go_wp2_with (first
          | (go_at_call 116; refine HM.out.mono ?_; rintro r w1 ⟨rfl, rfl⟩)
          | (go_at_call 117; refine HC.out.mono ?_; rintro r w1 ⟨rfl, rfl⟩))
        go_ret
        exact ⟨ret_bool (by rw [HQ.out]; rfl), HB.out⟩
end Go.Proofs.Ytpnhdocimjkakaa
namespace Go.Proofs.Ytpnhdocimjkakaa
open Go.RowKit

def lastBut (ops : Array Oper) (n : Nat) : Bool := (ops.size == n + 2) && ((List.range n).all fun i => reach ops ops.size i n) && (depsAt ops (n + 1)).contains n
theorem region_VT {P : Program} {Q : Exit → Act → World → Prop} {ops : Array Oper} {id : Nat} {a0 : Act} {w0 : World} {ι : Type} (holds : ι → Value → World → Prop) (G : World → Prop) (E : Value → World → Prop) (n : Nat) (xs : List ι) (d : ι)
    (mono : ∀ p v w w', holds p v w → Below w.heap.size w w' → holds p v w')
    (F : (Nat → Value) → Act) (hF : ∀ vs, F vs = putAll vs 0 ops.toList a0) (hm : P.follows .mixedOrders = true) (hf : fitsR ops = true) (hl : lastBut ops n = true)
    (hQ : ∀ c (x y : Act) w, x.defers = y.defers → Q (.panic c) x w → Q (.panic c) y w)
    (h0 : G w0.drew)
    (hstep : AllOps (fun i o => stepOr (Nat.beq i (n + 1))
      (∀ vs w, E (vs n) w → ∀ K : Act → World → Prop, K ((F vs).put o.dst (vs n)) w → if Region.wanted o (yielded ops (F vs).tmps) = true then Oper.wp P o (F vs) w K Q else K ((F vs).put o.dst undef) w)
      (∀ vs w, G w → AllD (fun j => holds (xs.getD j d) (vs j) w) (depsOf o) →
      ∀ K : Act → World → Prop, stepOr (Nat.beq i n) (∀ v w', E v w' → K ((F vs).put o.dst v) w') (∀ v w', Below w.heap.size w w' → G w' → holds (xs.getD i d) v w' → K ((F vs).put o.dst v) w') →
        if Region.wanted o (yielded ops (F vs).tmps) = true then Oper.wp P o (F vs) w K Q else K ((F vs).put o.dst undef) w)) 0 ops.toList)
    (hend : ∀ vs w, E (vs n) w → vs (n + 1) = vs n → Q .normal (F vs) w) :
    (Code.region id ops true).wp P Q a0 w0 := by
  simp only [lastBut, Bool.and_eq_true, beq_iff_eq, List.all_eq_true, List.mem_range, List.contains_iff_mem] at hl
  obtain ⟨⟨hsz, hlast⟩, hdn⟩ := hl
  refine region_inv hm hf F hF hQ (fun l vs w => (∀ j, l j = true → ∀ e ∈ depsAt ops j, l e = true) ∧ (l n = true → E (vs n) w ∧ (l (n + 1) = true → vs (n + 1) = vs n)) ∧ (l n = false → G w ∧ ∀ i, l i = true → holds (xs.getD i d) (vs i) w))
    ⟨(fun _ h => by cases h), (fun h => by cases h), fun _ => ⟨h0, (fun _ h => by cases h)⟩⟩ ?_ (fun l vs w hl hJ => by
      have h1 := hJ.2.1 (hl n (by omega))
      exact hend vs w h1.1 (h1.2 (hl (n + 1) (by omega))))
  intro i o ho l vs w ⟨hC, hE, hG⟩ hli hall K hK
  have hi : i < ops.size := (Array.getElem?_eq_some_iff.1 ho).1
  have hd := mem_deps ho hall
  have hC' : ∀ j, updR l i true j = true → ∀ e ∈ depsAt ops j, updR l i true e = true := fun j hj e he => by
    by_cases hei : e = i
    · subst hei; rw [updR_same]
    · rw [updR_ne _ _ hei]
      by_cases hji : j = i
      · subst hji; exact hd e he
      · rw [updR_ne _ _ hji] at hj; exact hC j hj e he
  have ho' : ops.toList[i]? = some o := by rw [Array.getElem?_toList]; exact ho
  have go := hstep.get ho'
  rw [Nat.zero_add] at go
  by_cases e1 : i = n + 1
  · subst e1
    have hb : Nat.beq (n + 1) (n + 1) = true := Nat.beq_refl _
    rw [hb] at go
    have hln := hd n hdn
    obtain ⟨hEn, _⟩ := hE hln
    refine go vs w hEn K (hK _ _ ⟨hC', fun _ => ?_, fun h => ?_⟩)
    · rw [updR_ne _ _ (by omega : n ≠ n + 1), updR_same]
      exact ⟨hEn, fun _ => updR_same _ _ _⟩
    · rw [updR_ne _ _ (by omega : n ≠ n + 1), hln] at h
      cases h
  · have hb1 : Nat.beq i (n + 1) = false := by
      cases h : Nat.beq i (n + 1) with
      | false => rfl
      | true => exact absurd (Nat.eq_of_beq_eq_true h) e1
    rw [hb1] at go
    have hn : l n = false := by
      cases hln : l n with
      | false => rfl
      | true =>
        by_cases e : i = n
        · subst e; rw [hli] at hln; cases hln
        · have := reach_up hC ops.size i n (hC n hln) (hlast i (by omega))
          rw [hli] at this
          cases this
    have hn1 : l (n + 1) = false := by
      cases h : l (n + 1) with
      | false => rfl
      | true => have := hC (n + 1) h n hdn; rw [hn] at this; cases this
    obtain ⟨hg, hh⟩ := hG hn
    have hdep : AllD (fun j => holds (xs.getD j d) (vs j) w) (depsOf o) := by
      have hdo : depsAt ops i = depsOf o := by simp [depsAt, ho]
      rw [hdo] at hd
      exact AllD.of (fun j hj => hh j hj) (AllL.mk hd)
    refine go vs w hg hdep K ?_
    by_cases e : i = n
    · subst e
      have hb : Nat.beq i i = true := Nat.beq_refl i
      rw [hb]
      exact fun v w' hw => hK v w' ⟨hC', fun _ => ⟨by rw [updR_same]; exact hw, fun h => by rw [updR_ne _ _ (by omega : i + 1 ≠ i), hn1] at h; cases h⟩, fun h => by rw [updR_same] at h; cases h⟩
    · have hb : Nat.beq i n = false := by
        cases h : Nat.beq i n with
        | false => rfl
        | true => exact absurd (Nat.eq_of_beq_eq_true h) e
      rw [hb]
      refine fun v w' hbl hG' hv => hK v w' ⟨hC', fun h => ?_, fun _ => ⟨hG', fun j hj => ?_⟩⟩
      · rw [updR_ne _ _ (Ne.symm e), hn] at h; cases h
      · by_cases ej : j = i
        · subst ej; rw [updR_same]; exact hv
        · rw [updR_ne _ _ ej] at hj ⊢
          exact mono _ _ _ _ (hh j hj) hbl
end Go.Proofs.Ytpnhdocimjkakaa
namespace Go.Proofs.Ytpnhdocimjkakaa
open Go.RowKit

theorem Sr.tn {α : Type} {enc : α → List Value} {k K cap : Nat} {A : Option Addr} {l : List α} {P : Nat → Prop} {w w' : World} (hb : Sr enc k w K A cap l) (h : Tn P w w') (hn : 0 < l.length → ∀ ad : Addr, A = some ad → ¬ P ad.block) : Sr enc k w' K A cap l :=
  ⟨hb.le, hb.max, hb.nil, fun hl => by
    obtain ⟨ad, e, hk, hc⟩ := hb.at_ hl
    refine ⟨ad, e, hk, fun i x hi j u hu => ?_⟩
    have := hc i x hi j u hu
    have hbl : (ad.add (i * k + j)).block = ad.block := el_block_of_add ad _
    generalize ad.add (i * k + j) = q at *
    exact h.cell this (by rw [hbl]; exact hn hl ad e)⟩
theorem So.tn {α : Type} {enc : α → List Value} {k : Nat} {P : Nat → Prop} {w w' : World} {K : Nat} {T : TypeId} {v : Value} {l : List α} (h : So enc k w K T v l) (t : Tn P w w') (hn : ∀ g, v.ownBlock = some g → ¬ P g) : So enc k w' K T v l := by
  have hlt := h.lt
  rcases h.2 with ⟨he, h0⟩ | ⟨g, cap', cur, he, hb, hg, hrest⟩
  · exact ⟨h.1, .inl ⟨he, h0⟩⟩
  · subst he
    exact ⟨h.1, .inr ⟨g, cap', cur, rfl, hb, (t.block g (hlt g rfl).2 (hn g rfl)).trans hg, hrest⟩⟩
theorem flat_set1 {α : Type} {enc : α → List Value} {k : Nat} (henc : ∀ x, (enc x).length = k) {j : Nat} (hj : j < k) {u : Value} : ∀ (l : List α) (i : Nat) (x y : α), l[i]? = some x → enc y = (enc x).set j u → (l.flatMap enc).set (i * k + j) u = (l.set i y).flatMap enc
  | [], i, x, y, h, _ => by simp at h
  | z :: l, 0, x, y, h, he => by
    simp at h
    subst h
    rw [List.flatMap_cons, Nat.zero_mul, Nat.zero_add, List.set_append_left _ _ (by rw [henc]; exact hj), List.set_cons_zero, List.flatMap_cons, he]
  | z :: l, i + 1, x, y, h, he => by
    have ih := flat_set1 henc hj l i x y (by simpa using h) he
    have e : (i + 1) * k + j - (enc z).length = i * k + j := by rw [henc, Nat.add_mul]; omega
    rw [List.flatMap_cons, List.set_append_right _ _ (by rw [henc, Nat.add_mul]; omega), e, ih, List.set_cons_succ, List.flatMap_cons]
theorem So.set1 {α : Type} {enc : α → List Value} {k : Nat} (henc : ∀ x, (enc x).length = k) {w : World} {K : Nat} {T : TypeId} {g n cap : Nat} {l : List α} (h : So enc k w K T (.slice (some ⟨g, 0, none⟩) n cap) l) {i j : Nat} (hj : j < k) {u : Value} {x y : α} (hx : l[i]? = some x) (he : enc y = (enc x).set j u) :
    So enc k (w.setCell ⟨g, i * k + j, none⟩ u) K T (.slice (some ⟨g, 0, none⟩) n cap) (l.set i y) := by
  obtain ⟨A', c', e⟩ := h.form
  injection e with _ e _
  subst e
  have h1 := (World.ownsRow.stored h (i * k + j) u).1
  unfold So
  rw [List.length_set, ← flat_set1 henc hj l i x y hx he]
  exact h1
end Go.Proofs.Ytpnhdocimjkakaa
namespace Go.Proofs.Ytpnhdocimjkakaa
open Go.RowKit

def preB (a b c : Int) : Nat → List UInt8
  | 0 => []
  | 1 => beN (u64N a) 8
  | 2 => beN (u64N a) 8 ++ beN (u64N b) 4
  | _ => putB a b c

theorem shift_cell (n sI : Int) (j wd : Nat) (hw : wd ≤ 8) (hj : j < wd) (h1 : sI ≤ 8 * (wd : Int) - 8 - 8 * (j : Int)) (h2 : 8 * (wd : Int) - 8 - 8 * (j : Int) ≤ sI) :
    n / 2 ^ sI.toNat % 256 = ((UInt8.ofNat (u64N n / 256 ^ (wd - 1 - j))).toNat : Int) := by
  have e : sI.toNat = 8 * (wd - 1 - j) := by omega
  rw [e]
  exact byte_shift n _ (by omega)

end Go.Proofs.Ytpnhdocimjkakaa
