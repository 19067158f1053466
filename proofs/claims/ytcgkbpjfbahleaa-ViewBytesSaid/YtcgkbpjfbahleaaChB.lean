/- The document's Right, New, SameList, Same; the law's From. -/
import Derived.Test.YtcgkbpjfbahleaaChZ
import Derived.IntWalk
import Derived.Deep.QuietTactic
import Derived.BigQuiet
import Derived.RegionTactic
namespace Go.Proofs.Ytcgkbpjfbahleaa
open Go.RowKit
section
variable {P : Program} {ST : TypeId} {k : Nat} (hu : P.underlying ST = some (.slice (P.elem ST))) (hs : ∀ w, (sizeOf (P.elem ST)).run P w = .ok k w)
include hu hs
theorem slice_fromK (A : Option Addr) (n cap j : Nat) (hj : j ≤ n) (w : World) :
    (Instr.slice ST (.slice A n cap) (some (.int .i64 (j : Int))) none none).run P w = .ok (.slice (if cap = j then A else A.map (·.add (j * k))) (n - j) (cap - j)) w := by
  have h := run_slice_l (P := P) (w := w) (t := ST) (a := A) (len := n) (cap := cap) hu .i64 (j : Int) (by omega) (by omega)
  rw [h, hs]
  simp [Result.andThen, sliced]
theorem slice_toK (A : Option Addr) (n cap j : Nat) (hj : j ≤ cap) (w : World) :
    (Instr.slice ST (.slice A n cap) none (some (.int .i64 (j : Int))) none).run P w = .ok (.slice A j cap) w := by
  have h := run_slice_h (P := P) (w := w) (t := ST) (a := A) (len := n) (cap := cap) hu .i64 (j : Int) (by omega) (by omega)
  rw [h, hs]
  have : ∀ a : Addr, a.add 0 = a := fun a => by unfold Addr.add; rw [if_pos rfl]
  cases A <;> simp [Result.andThen, sliced, this]
end
section
variable {α : Type} {enc : α → List Value} {k : Nat} {w : World} {K cap : Nat} {A : Option Addr} {l : List α}
theorem Sr.from (h : Sr enc k w K A cap l) {j : Nat} (hj : j ≤ l.length) : Sr enc k w K (if cap = j then A else A.map (·.add (j * k))) (cap - j) (l.drop j) := by
  have hle := h.le
  have hm := h.max
  have hl : (l.drop j).length = l.length - j := List.length_drop
  refine ⟨by omega, by omega, fun e => ?_, fun hn => ?_⟩
  · by_cases hc : cap = j
    · omega
    · rw [if_neg hc] at e
      cases A with
      | none => have := h.nil rfl; omega
      | some a => cases e
  · obtain ⟨ad, e, hb, hc⟩ := h.at_ (by omega)
    subst e
    rw [if_neg (by omega)]
    refine ⟨ad.add (j * k), rfl, by rw [el_block_of_add]; exact hb, fun i x hi q u hu => ?_⟩
    rw [List.getElem?_drop] at hi
    have := hc (j + i) x hi q u hu
    rwa [el_add_of_add, show j * k + (i * k + q) = (j + i) * k + q by rw [Nat.add_mul]; omega]
end
end Go.Proofs.Ytcgkbpjfbahleaa
namespace Go.Proofs.Ytcgkbpjfbahleaa
open Go.RowKit Go.BigFrame

theorem eq_i64_sizeOf : ∀ w, (sizeOf (Try.prog.elem 22)).run Try.prog w = .ok 1 w := fun w => by kernel_rfl
theorem und_isl : Try.prog.underlying 22 = some (.slice (Try.prog.elem 22)) := by kernel_rfl
theorem So.to {w : World} {K : Nat} {T : TypeId} {g n cap : Nat} {l : List Int} (h : So encI 1 w K T (.slice (some ⟨g, 0, none⟩) n cap) l) {i : Nat} (hi : i ≤ n) : So encI 1 w K T (.slice (some ⟨g, 0, none⟩) i cap) (l.take i) := by
  obtain ⟨A', c', e⟩ := h.form
  injection e with _ e _
  rcases h.2 with ⟨he, _⟩ | ⟨g', cap', cur, he, hb, hg, hn, hc, hs, ht⟩
  · cases he
  · injection he with e1 e2 e3
    injection e1 with e1
    injection e1 with e1
    subst e1 e3
    have hl : (l.take i).length = i := by rw [List.length_take]; omega
    have hf : ∀ l : List Int, l.flatMap encI = l.map (fun n => Value.int .i64 n) := fun l => by
      induction l with
      | nil => rfl
      | cons x l ih => rw [List.flatMap_cons, ih]; rfl
    refine ⟨by rw [hf, List.length_map]; omega, .inr ⟨g, cap, cur, by rw [hl], hb, hg, by omega, hc, hs, ?_⟩⟩
    rw [hf, List.map_take, ← hf, ← ht, List.take_take, hl]
    congr 1; omega
theorem So.zeros {K : Nat} {T : TypeId} {g n cap : Nat} : ∀ (m i : Nat) {w : World} {l : List Int}, So encI 1 w K T (.slice (some ⟨g, 0, none⟩) n cap) l → i + m ≤ n → ∃ l2, So encI 1 (w.setCells g i (List.replicate m (.int .i64 0))) K T (.slice (some ⟨g, 0, none⟩) n cap) l2 ∧ ∀ j, j ≤ i → l2.take j = l.take j
  | 0, i, w, l, h, _ => ⟨l, h, fun _ _ => rfl⟩
  | m + 1, i, w, l, h, hi => by
    obtain ⟨A', c', e⟩ := h.form
    injection e with _ e _
    have hx : l[i]? = some l[i] := List.getElem?_eq_getElem (by omega)
    have h1 := h.set1 encI_len (i := i) (j := 0) (by decide) (u := .int .i64 0) (y := 0) hx rfl
    rw [Nat.mul_one, Nat.add_zero] at h1
    obtain ⟨l2, h2, h3⟩ := So.zeros m (i + 1) h1 (by omega)
    exact ⟨l2, h2, fun j hj => by rw [h3 j (by omega), List.take_set_of_le (by omega)]⟩
theorem Tn.setCells (g : Nat) : ∀ (vs : List Value) (o : Nat) (w : World), Tn (· = g) w (w.setCells g o vs)
  | [], _, w => Tn.refl _ w
  | v :: vs, o, w => (Tn.setCell w g o v).then (Tn.setCells g vs (o + 1) (w.setCell ⟨g, o, none⟩ v))
theorem So.cellI {w : World} {K : Nat} {T : TypeId} {g n cap : Nat} {l : List Int} (h : So encI 1 w K T (.slice (some ⟨g, 0, none⟩) n cap) l) {i : Nat} (hi : i < l.length) : w.cell? ⟨g, i, none⟩ = some (.int .i64 l[i]) := by
  obtain ⟨ad, e, _, hc⟩ := (h.sr encI_len).1.int hi
  cases e
  rwa [Addr.add_lit, Nat.zero_add] at hc
theorem So.lenI {w : World} {K : Nat} {T : TypeId} {n cap : Nat} {A : Option Addr} {l : List Int} (h : So encI 1 w K T (.slice A n cap) l) : l.length = n := (h.sr encI_len).2
theorem So.froI {w : World} {K : Nat} {T : TypeId} {g n cap : Nat} {l : List Int} (h : So encI 1 w K T (.slice (some ⟨g, 0, none⟩) n cap) l) (j : Nat) : w.frozen? ⟨g, j, none⟩ = false := by
  obtain rfl := h.lenI
  exact World.ownsRow.frozenAt h j

set_option maxHeartbeats 400000 in
theorem gone_any (b : Nat) (K : Nat) (A : Option Addr) (c : Nat) (ms : List Int) (n : Int) (w : World) (hc : w.cell? ⟨b, 0, none⟩ = some (.slice A ms.length c)) (hp : Sr encI 1 w K A c ms) :
    Calls Try.prog 36 #[.int .i64 n, .pointer (some ⟨b, 0, none⟩)] w fun e w' => e = .returned (.bool (!hasB ms n)) ∧ w = w' := by
  have HP := Lib.hid (has_any K A ms.length c ms n w rfl hp)
  clear hp
  go_enter Try.func36, Try.ntmps36
  go_wp2_with fail
  refine HP.out.mono ?_
  rintro e w' ⟨rfl, rfl⟩
  go_wp2_with fail
  go_ret
  exact ⟨rfl, rfl⟩

/-- How many stand ahead of the first who goes. -/
def stayN (ms l : List Int) : Nat := (l.takeWhile fun n => hasB ms n).length
theorem stay_at {ms : List Int} : ∀ {l : List Int} {k : Nat} (hk : k < l.length), (∀ j (hj : j < l.length), j < k → hasB ms l[j] = true) → hasB ms l[k] = false → stayN ms l = k
  | x :: l, 0, _, _, h0 => by
    unfold stayN
    simp only [List.getElem_cons_zero] at h0
    rw [List.takeWhile_cons, h0]; rfl
  | x :: l, k + 1, hk, h, h0 => by
    have hx := h 0 (by simp) (by omega)
    simp only [List.getElem_cons_zero] at hx
    have := stay_at (l := l) (k := k) (by simpa using hk) (fun j hj hjk => by have := h (j + 1) (by simp; omega) (by omega); simpa using this) (by simpa using h0)
    unfold stayN at this ⊢
    rw [List.takeWhile_cons, hx]
    simp [this]
theorem stay_all {ms : List Int} {l : List Int} (h : ∀ j (hj : j < l.length), hasB ms l[j] = true) : l.filter (fun n => hasB ms n) = l :=
  List.filter_eq_self.2 fun x hx => by
    obtain ⟨j, hj, rfl⟩ := List.getElem_of_mem hx
    exact h j hj
def GoneP (ms l : List Int) (w : World) (e : Ending) (w' : World) : Prop :=
  w = w' ∧ ((e = .returned (.int .i64 (-1)) ∧ l.filter (fun n => hasB ms n) = l) ∨ ∃ k : Nat, e = .returned (.int .i64 (k : Int)) ∧ k < l.length ∧ (l.take k).filter (fun n => hasB ms n) = l.take k ∧ (l.take (k + 1)).filter (fun n => hasB ms n) = l.take k)
set_option maxRecDepth 100000 in
set_option maxHeartbeats 1600000 in
theorem firstgone_any (b : Nat) (K' : Nat) (M : Option Addr) (mc : Nat) (ms : List Int) (K : Nat) (A : Option Addr) (n cap : Nat) (l : List Int) (w : World) (hn : l.length = n) (hp : Sr encI 1 w K A cap l)
    (hc : w.cell? ⟨b, 0, none⟩ = some (.slice M ms.length mc)) (hm : Sr encI 1 w K' M mc ms) :
    Calls Try.prog 48 #[.slice A n cap, .func (.func 36) #[] #[.pointer (some ⟨b, 0, none⟩)]] w (GoneP ms l w) := by
  subst hn
  have hle := hp.le
  have hmax := hp.max
  unfold maxLen at hmax
  have HP := Lib.hid hp
  have HG := Lib.hid (fun n => gone_any b K' M mc ms n w hc hm)
  clear hp hc hm
  go_enter Try.func48, Try.ntmps48
  go_wp2
  go_loop [8] (fun i => ∃ (k : Nat), k ≤ l.length ∧ i = .int .i64 k ∧ Hid (∀ j (hj : j < l.length), j < k → hasB ms l[j] = true)) (fun i => l.length - (intOf i).toNat)
  case atStart => exact ⟨0, Nat.zero_le _, rfl, Lib.hid (fun j _ h => absurd h (by omega))⟩
  case round =>
    obtain ⟨k, hk, rfl, HJ⟩ := hrel
    by_cases hlt : k < l.length
    · obtain ⟨ad, rfl, hadK, hcell⟩ := HP.out.int hlt
      have HX : Hid (∀ x, l[k] = x → (hasB ms x = true → ∀ j (hj : j < l.length), j < k + 1 → hasB ms l[j] = true) ∧ (hasB ms x = false → (l.take k).filter (fun n => hasB ms n) = l.take k ∧ (l.take (k + 1)).filter (fun n => hasB ms n) = l.take k)) := Lib.hid (fun x hx => ⟨fun hT j hj hjk => by
          by_cases e : j = k
          · subst e; rw [hx]; exact hT
          · exact HJ.out j hj (by omega), fun hF => by
          have e1 : (l.take k).filter (fun n => hasB ms n) = l.take k := stay_all fun j hj => by
            rw [List.getElem_take]
            exact HJ.out j (by rw [List.length_take] at hj; omega) (by rw [List.length_take] at hj; omega)
          refine ⟨e1, ?_⟩
          rw [take_snocI l k hlt, List.filter_append, e1, hx]
          simp [hF]⟩)
      generalize hxx : l[k] = x at *
      have HXX := Lib.hid (HX.out x rfl)
      clear HX hxx
      have HA := Lib.hid (HG.out x)
      cases hd : hasB ms x with
      | true =>
        rw [hd] at HA
        have HI := Lib.hid (HXX.out.1 hd)
        clear hd HXX
        go_wp2_with (go_at_call 36; refine HA.out.mono ?_; rintro e w1 ⟨rfl, rfl⟩)
        go_round
        case rel => exact ⟨k + 1, by omega, by go_num, Lib.hid HI.out⟩
        case measure => simp [intOf]; omega
      | false =>
        rw [hd] at HA
        have HI := Lib.hid (HXX.out.2 hd)
        clear hd HXX
        go_wp2_with (go_at_call 36; refine HA.out.mono ?_; rintro e w1 ⟨rfl, rfl⟩)
        go_ret
        exact ⟨rfl, .inr ⟨k, rfl, hlt, HI.out⟩⟩
    · have hkl : k = l.length := by omega
      subst hkl
      have HI : Hid (l.filter (fun n => hasB ms n) = l) := Lib.hid (stay_all fun j hj => HJ.out j hj hj)
      go_wp2
      go_ret
      exact ⟨rfl, .inl ⟨rfl, HI.out⟩⟩

def DelP (ms l : List Int) (K g cap : Nat) (w : World) (e : Ending) (w' : World) : Prop :=
  ∃ m, e = .returned (.slice (some ⟨g, 0, none⟩) m cap) ∧ So encI 1 w' K 3 (.slice (some ⟨g, 0, none⟩) m cap) (l.filter fun n => hasB ms n) ∧ Tn (· = g) w w'
set_option maxRecDepth 100000 in
set_option maxHeartbeats 3200000 in
theorem delgone_any (b : Nat) (K' : Nat) (M : Option Addr) (mc : Nat) (ms : List Int) (K g n cap : Nat) (l : List Int) (w : World) (so : So encI 1 w K 3 (.slice (some ⟨g, 0, none⟩) n cap) l)
    (hc : w.cell? ⟨b, 0, none⟩ = some (.slice M ms.length mc)) (hm : Sr encI 1 w K' M mc ms) (hbg : b ≠ g) (hmg : 0 < ms.length → ∀ ad : Addr, M = some ad → ad.block ≠ g) :
    Calls Try.prog 35 #[.slice (some ⟨g, 0, none⟩) n cap, .func (.func 36) #[] #[.pointer (some ⟨b, 0, none⟩)]] w (DelP ms l K g cap w) := by
  obtain rfl := so.lenI
  have hle := (so.sr encI_len).1.le
  have hmax := (so.sr encI_len).1.max
  unfold maxLen at hmax
  have HS := Lib.hid so
  have HF := Lib.hid (firstgone_any b K' M mc ms w.heap.size (some ⟨g, 0, none⟩) l.length cap l w rfl (so.sr encI_len).1 hc hm)
  have HG : Hid (∀ W, Tn (· = g) w W → ∀ n, Calls Try.prog 36 #[.int .i64 n, .pointer (some ⟨b, 0, none⟩)] W fun e w' => e = .returned (.bool (!hasB ms n)) ∧ W = w') :=
    Lib.hid (fun W t n => gone_any b K' M mc ms n W (t.cell hc hbg) (hm.tn t hmg))
  clear so hc hm hmg
  go_enter Try.func35, Try.ntmps35
  go_wp2_with fail
  refine HF.out.mono ?_
  rintro e w1 ⟨rfl, ⟨rfl, hall⟩ | ⟨k, rfl, hk, hk1, hk2⟩⟩
  · have HA := Lib.hid hall
    clear hall
    go_wp2_with fail
    go_ret
    exact ⟨_, rfl, by rw [HA.out]; exact HS.out, Tn.refl _ _⟩
  · have h1 : ((k : Int) == -1) = false := by simp
    have HK1 := Lib.hid hk1
    have HK2 := Lib.hid hk2
    clear hk1 hk2
    go_wp2_with fail
    go_loopw [5, 6] (fun iv jv wr => ∃ (i j : Nat) (L : List Int), iv = .int .i64 (i : Int) ∧ jv = .int .i64 (j : Int) ∧ i < j ∧ j ≤ l.length ∧ L.length = l.length ∧ So encI 1 wr K 3 (.slice (some ⟨g, 0, none⟩) l.length cap) L ∧ Hid (L.take i = (l.take j).filter fun n => hasB ms n) ∧ Hid (∀ q, j ≤ q → L[q]? = l[q]?) ∧ Tn (· = g) w wr) (fun _ jv _ => l.length - (intOf jv).toNat)
    case atStart => exact ⟨k, k + 1, l, rfl, by go_num, by omega, by omega, rfl, HS.out, Lib.hid HK2.out.symm, Lib.hid fun _ _ => rfl, Tn.refl _ _⟩
    case round =>
      obtain ⟨i, j, L, rfl, rfl, hij, hj, hL, hso, HT, HD, htn⟩ := hrel
      rename World => W0
      have HSO := Lib.hid hso
      have HTN := Lib.hid htn
      clear hso htn
      have hi0 : 0 ≤ (i : Int) := by omega
      have hj0 : 0 ≤ (j : Int) := by omega
      by_cases hlt : j < l.length
      · have hcell := HSO.out.cellI (i := j) (by omega)
        have hcelli := HSO.out.cellI (i := i) (by omega)
        have hfro := HSO.out.froI i
        have HX : Hid (L[j] = l[j]) := Lib.hid (by have := HD.out j (Nat.le_refl _); rw [List.getElem?_eq_getElem (by omega), List.getElem?_eq_getElem hlt] at this; simpa using this)
        have HY := Lib.hid (take_snocI l j hlt)
        rw [HX.out] at hcell
        generalize l[j] = x at *
        have HA := Lib.hid (HG.out W0 HTN.out x)
        have hig : i < l.length := by omega
        cases hd : hasB ms x with
        | true =>
          rw [hd] at HA
          have HT2 : Hid ((L.set i x).take (i + 1) = (l.take (j + 1)).filter fun n => hasB ms n) := Lib.hid (by
            rw [HY.out, List.filter_append, ← HT.out, List.take_succ_eq_append_getElem (by rw [List.length_set]; omega), List.take_set_of_le (Nat.le_refl i)]
            simp [hd])
          have HD2 : Hid (∀ q, j + 1 ≤ q → (L.set i x)[q]? = l[q]?) := Lib.hid (fun q hq => by rw [List.getElem?_set_ne (by omega)]; exact HD.out q (by omega))
          clear hd
          have HSET : Hid (So encI 1 (W0.setCell ⟨g, i, none⟩ (.int .i64 x)) K 3 (.slice (some ⟨g, 0, none⟩) l.length cap) (L.set i x)) := Lib.hid (by
            have := HSO.out.set1 encI_len (i := i) (j := 0) (by decide) (u := .int .i64 x) (y := x) (List.getElem?_eq_getElem (by omega)) rfl
            rwa [Nat.mul_one, Nat.add_zero] at this)
          have HTS := Lib.hid (HTN.out.then (Tn.setCell W0 g i (.int .i64 x)))
          have hsz : (L.set i x).length = l.length := by rw [List.length_set]; exact hL
          have HSZ := Lib.hid hsz
          clear hsz
          go_wp2_with (go_at_call 36; refine HA.out.mono ?_; rintro e w1 ⟨rfl, rfl⟩)
          go_roundw
          case rel => exact ⟨i + 1, j + 1, L.set i x, by go_num, by go_num, by omega, by omega, HSZ.out, HSET.out, Lib.hid HT2.out, Lib.hid HD2.out, HTS.out⟩
          case measure => simp [intOf]; omega
        | false =>
          rw [hd] at HA
          have HT2 : Hid (L.take i = (l.take (j + 1)).filter fun n => hasB ms n) := Lib.hid (by
            rw [HY.out, List.filter_append, ← HT.out]
            simp [hd])
          clear hd
          go_wp2_with (go_at_call 36; refine HA.out.mono ?_; rintro e w1 ⟨rfl, rfl⟩)
          go_roundw
          case rel => exact ⟨i, j + 1, L, rfl, by go_num, by omega, by omega, hL, HSO.out, Lib.hid HT2.out, Lib.hid fun q hq => HD.out q (by omega), HTN.out⟩
          case measure => simp [intOf]; omega
      · have hjl : j = l.length := by omega
        subst hjl
        have hsl := slice_fromK und_isl eq_i64_sizeOf (some ⟨g, 0, none⟩) l.length cap i (by omega) W0
        have hsl2 := fun W => slice_toK und_isl eq_i64_sizeOf (some ⟨g, 0, none⟩) l.length cap i (by omega) W
        have hic : ¬ cap = i := by omega
        rw [if_neg hic] at hsl
        simp only [Option.map_some, Addr.add_lit, Nat.mul_one, Nat.zero_add] at hsl
        have hz : ∀ ty, (Builtin.clear_ #[22] ty #[.slice (some ⟨g, i, none⟩) (l.length - i) (cap - i)]).run Try.prog W0 = .ok (.tuple #[]) (W0.setCells g i (List.replicate (l.length - i) (.int .i64 0))) := fun ty =>
          Lib.run_clear_slice W0 22 3 ty (.int .i64 0) Try.underlying22 (fun w => by kernel_rfl) rfl rfl g i (l.length - i) (cap - i) (by omega) (fun q hq => by rw [HSO.out.cellI (i := i + q) (by omega)]; rfl) (fun q _ => HSO.out.froI _)
        obtain ⟨L2, hs2, ht2⟩ := So.zeros (l.length - i) i HSO.out (by omega)
        have HE : Hid (So encI 1 (W0.setCells g i (List.replicate (l.length - i) (.int .i64 0))) K 3 (.slice (some ⟨g, 0, none⟩) i cap) (l.filter fun n => hasB ms n)) := Lib.hid (by
          have := hs2.to (i := i) (by omega)
          rwa [ht2 i (Nat.le_refl _), HT.out, List.take_length] at this)
        have HTS := Lib.hid (HTN.out.then (Tn.setCells g (List.replicate (l.length - i) (.int .i64 0)) i W0))
        clear hs2 ht2
        go_wp2
        go_ret
        exact ⟨i, rfl, HE.out, HTS.out⟩
end Go.Proofs.Ytcgkbpjfbahleaa
namespace Go.Proofs.Ytcgkbpjfbahleaa
open Go.RowKit

theorem region_VE {P : Program} {Q : Exit → Act → World → Prop} {ops : Array Oper} {id : Nat} {a0 : Act} {w0 : World} {ι : Type} (holds : ι → Value → World → Prop) (G : World → Prop) (E : (Nat → Value) → World → Prop) (n : Nat) (xs : List ι) (d : ι)
    (mono : ∀ p v w w', holds p v w → Below w.heap.size w w' → holds p v w')
    (F : (Nat → Value) → Act) (hF : ∀ vs, F vs = putAll vs 0 ops.toList a0) (hm : P.follows .mixedOrders = true) (hf : fitsR ops = true) (hl : lastAll ops n = true)
    (hQ : ∀ c (x y : Act) w, x.defers = y.defers → Q (.panic c) x w → Q (.panic c) y w)
    (h0 : G w0.drew) (hE : ∀ vs v w, E vs w → E (updR vs n v) w)
    (hstep : AllOps (fun i o => ∀ vs w, G w → AllD (fun j => holds (xs.getD j d) (vs j) w) (depsOf o) →
      ∀ K : Act → World → Prop, stepOr (Nat.beq i n) (∀ v w', E vs w' → K ((F vs).put o.dst v) w') (∀ v w', Below w.heap.size w w' → G w' → holds (xs.getD i d) v w' → K ((F vs).put o.dst v) w') →
        if Region.wanted o (yielded ops (F vs).tmps) = true then Oper.wp P o (F vs) w K Q else K ((F vs).put o.dst undef) w) 0 ops.toList)
    (hend : ∀ vs w, E vs w → Q .normal (F vs) w) :
    (Code.region id ops true).wp P Q a0 w0 := by
  simp only [lastAll, Bool.and_eq_true, beq_iff_eq, List.all_eq_true, List.mem_range] at hl
  obtain ⟨hsz, hlast⟩ := hl
  refine region_inv hm hf F hF hQ (fun l vs w => (∀ j, l j = true → ∀ e ∈ depsAt ops j, l e = true) ∧ (l n = true → E vs w) ∧ (l n = false → G w ∧ ∀ i, l i = true → holds (xs.getD i d) (vs i) w))
    ⟨(fun _ h => by cases h), (fun h => by cases h), fun _ => ⟨h0, (fun _ h => by cases h)⟩⟩ ?_ (fun l vs w hl hJ => hend vs w (hJ.2.1 (hl n (by omega))))
  intro i o ho l vs w ⟨hC, hE1, hG⟩ hli hall K hK
  have hi : i < ops.size := (Array.getElem?_eq_some_iff.1 ho).1
  have hd := mem_deps ho hall
  have hC' : ∀ j, updR l i true j = true → ∀ e ∈ depsAt ops j, updR l i true e = true := fun j hj e he => by
    by_cases hei : e = i
    · subst hei; rw [updR_same]
    · rw [updR_ne _ _ hei]
      by_cases hji : j = i
      · subst hji; exact hd e he
      · rw [updR_ne _ _ hji] at hj; exact hC j hj e he
  have hn : l n = false := by
    cases hln : l n with
    | false => rfl
    | true =>
      by_cases e : i = n
      · subst e; rw [hli] at hln; cases hln
      · have := reach_up hC ops.size i n (hC n hln) (hlast i (by omega))
        rw [hli] at this
        cases this
  obtain ⟨hg, hh⟩ := hG hn
  have ho' : ops.toList[i]? = some o := by rw [Array.getElem?_toList]; exact ho
  have go := hstep.get ho'
  rw [Nat.zero_add] at go
  have hdep : AllD (fun j => holds (xs.getD j d) (vs j) w) (depsOf o) := by
    have hdo : depsAt ops i = depsOf o := by simp [depsAt, ho]
    rw [hdo] at hd
    exact AllD.of (fun j hj => hh j hj) (AllL.mk hd)
  refine go vs w hg hdep K ?_
  by_cases e : i = n
  · subst e
    have hb : Nat.beq i i = true := Nat.beq_refl i
    rw [hb]
    exact fun v w' hw => hK v w' ⟨hC', fun _ => hE vs v w' hw, fun h => by rw [updR_same] at h; cases h⟩
  · have hb : Nat.beq i n = false := by
      cases h : Nat.beq i n with
      | false => rfl
      | true => exact absurd (Nat.eq_of_beq_eq_true h) e
    rw [hb]
    refine fun v w' hbl hG' hv => hK v w' ⟨hC', fun h => ?_, fun _ => ⟨hG', fun j hj => ?_⟩⟩
    · rw [updR_ne _ _ (Ne.symm e), hn] at h; cases h
    · by_cases ej : j = i
      · subst ej; rw [updR_same]; exact hv
      · rw [updR_ne _ _ ej] at hj ⊢
        exact mono _ _ _ _ (hh j hj) hbl
end Go.Proofs.Ytcgkbpjfbahleaa
namespace Go.Proofs.Ytcgkbpjfbahleaa
open Go.RowKit Go.BigFrame

/-- The control c at block b; its members' slice lies in block h, the safe nodes' in block g. -/
structure Ct (w : World) (b h g mc sc : Nat) (c : Vc) : Prop where
  x0 : w.cell? ⟨b, 0, none⟩ = some (.int .i64 c.e)
  x1 : w.cell? ⟨b, 1, none⟩ = some (.int .i64 c.p)
  x2 : w.cell? ⟨b, 2, none⟩ = some (.slice (some ⟨h, 0, none⟩) c.ms.length mc)
  x3 : w.cell? ⟨b, 3, none⟩ = some (.slice (some ⟨g, 0, none⟩) c.sf.length sc)
  fr : ∀ j, w.frozen? ⟨b, j, none⟩ = false
  ms : So encI 1 w 0 3 (.slice (some ⟨h, 0, none⟩) c.ms.length mc) c.ms
  sf : So encI 1 w 0 3 (.slice (some ⟨g, 0, none⟩) c.sf.length sc) c.sf
  hb : h ≠ b
  gb : g ≠ b
  hg : h ≠ g
section
variable {w w' : World} {b h g mc sc : Nat} {c : Vc}
theorem Ct.lt (x : Ct w b h g mc sc c) : b < w.heap.size ∧ h < w.heap.size ∧ g < w.heap.size := ⟨World.block_lt_of_cell? w _ x.x0, (x.ms.lt h rfl).2, (x.sf.lt g rfl).2⟩
theorem Ct.tn {P : Nat → Prop} (x : Ct w b h g mc sc c) (t : Tn P w w') (pb : ¬ P b) (ph : ¬ P h) (pg : ¬ P g) : Ct w' b h g mc sc c :=
  ⟨t.cell x.x0 pb, t.cell x.x1 pb, t.cell x.x2 pb, t.cell x.x3 pb, fun j => (t.frozen (p := ⟨b, j, none⟩) x.lt.1 pb).trans (x.fr j), x.ms.tn t (fun k e => by injection e with e; exact e ▸ ph), x.sf.tn t (fun k e => by injection e with e; exact e ▸ pg), x.hb, x.gb, x.hg⟩
theorem Ct.below (x : Ct w b h g mc sc c) (hb : Below w.heap.size w w') : Ct w' b h g mc sc c := x.tn (Tn.ofNew (P := fun _ => False) hb) id id id
end
theorem cell_at {w : World} {b j : Nat} {cs : Array Value} {T : TypeId} {v : Value} (h : w.heap[b]? = some (.cells cs T (0, 0))) (hv : cs[j]? = some v) : w.cell? ⟨b, j, none⟩ = some v := by
  simp [World.cell?, h, hv]
theorem fro_at {w : World} {b : Nat} {cs : Array Value} {T : TypeId} (h : w.heap[b]? = some (.cells cs T (0, 0))) (j : Nat) : w.frozen? ⟨b, j, none⟩ = false := by
  simp [World.frozen?, h]
theorem own_some {w : World} {K : Nat} {T : TypeId} {A : Option Addr} {n cap : Nat} {l : List Int} (h : So encI 1 w K T (.slice A n cap) l) (hl : 0 < l.length) : ∃ g, A = some ⟨g, 0, none⟩ := by
  rcases h.2 with ⟨he, h0⟩ | ⟨g, cap', cur, he, _⟩
  · omega
  · injection he with e1 _ _
    exact ⟨g, e1⟩
theorem own_ne {w : World} {K g b n cap : Nat} {T T' : TypeId} {l : List Int} {cs : Array Value} (h : So encI 1 w K T (.slice (some ⟨g, 0, none⟩) n cap) l) (hb : w.heap[b]? = some (.cells cs T' (0, 0))) (hT : T' ≠ T) : g ≠ b := fun e => by
  rcases h.2 with ⟨he, _⟩ | ⟨g', cap', cur, he, _, hg, _⟩
  · cases he
  · injection he with e1 _ _
    injection e1 with e1
    injection e1 with e1
    subst e1 e
    rw [hb] at hg
    injection hg with hg
    injection hg with _ hT' _
    exact hT hT'
theorem own_not {g b n cap : Nat} (h : g ≠ b) : ∀ k, (Value.slice (some ⟨g, 0, none⟩) n cap).ownBlock = some k → ¬ k = b := fun k e => by
  injection e with e
  exact e ▸ h
inductive Vx where
  | v (u : Value)
  | s (l : List Int)
  | b (e p : Int) (l : List Int)
  | pz
  | bb (e p : Int) (h mc : Nat) (l : List Int)
  | pc (e p : Int) (h mc : Nat) (l : List Int)
def HV (K : Nat) : Vx → Value → World → Prop
  | .v x, u, _ => u = x
  | .s l, u, w => ∃ A c, u = .slice A l.length c ∧ So encI 1 w K 3 (.slice A l.length c) l
  | .b e p l, u, w => ∃ A c, u = .agg #[.int .i64 e, .int .i64 p, .slice A l.length c] ∧ So encI 1 w K 3 (.slice A l.length c) l
  | .pz, u, w => ∃ b, u = .pointer (some ⟨b, 0, none⟩) ∧ K ≤ b ∧ w.heap[b]? = some (.cells #[.int .i64 0, .int .i64 0, .slice none 0 0] 37 (0, 0))
  | .bb e p h mc l, u, w => ∃ A c, u = .agg #[.int .i64 e, .int .i64 p, .slice (some ⟨h, 0, none⟩) l.length mc, .slice A l.length c] ∧ So encI 1 w K 3 (.slice A l.length c) l
  | .pc e p h mc l, u, w => ∃ b A c, u = .pointer (some ⟨b, 0, none⟩) ∧ K ≤ b ∧ w.heap[b]? = some (.cells #[.int .i64 e, .int .i64 p, .slice (some ⟨h, 0, none⟩) l.length mc, .slice A l.length c] 74 (0, 0)) ∧ So encI 1 w K 3 (.slice A l.length c) l
theorem heap_keep {w w' : World} {b : Nat} {o : Obj} (h : w.heap[b]? = some o) (hb : Below w.heap.size w w') : w'.heap[b]? = some o := (hb.block b (Array.getElem?_eq_some_iff.1 h).1).trans h
theorem HV.mono {K : Nat} {x : Vx} {u : Value} {w w' : World} (h : HV K x u w) (hb : Below w.heap.size w w') : HV K x u w' := by
  cases x with
  | v y => exact h
  | s l => obtain ⟨A, c, e, r⟩ := h; exact ⟨A, c, e, r.below hb⟩
  | b e p l => obtain ⟨A, c, e, r⟩ := h; exact ⟨A, c, e, r.below hb⟩
  | pz => obtain ⟨b, e, k, r⟩ := h; exact ⟨b, e, k, heap_keep r hb⟩
  | bb e p h mc l => obtain ⟨A, c, e, r⟩ := h; exact ⟨A, c, e, r.below hb⟩
  | pc e p h mc l => obtain ⟨b, A, c, e, k, r, q⟩ := h; exact ⟨b, A, c, e, k, heap_keep r hb, q.below hb⟩
/-- Behind New's first statement. -/
def MidP (w : World) (l : List Int) (m : Int) (u : Value) (w' : World) : Prop :=
  ∃ b h mc, u = .pointer (some ⟨b, 0, none⟩) ∧ w.heap.size ≤ b ∧ w'.cell? ⟨b, 0, none⟩ = some (.int .i64 1) ∧ w'.cell? ⟨b, 1, none⟩ = some (.int .i64 m) ∧ w'.cell? ⟨b, 2, none⟩ = some (.slice (some ⟨h, 0, none⟩) l.length mc) ∧ (∀ j, w'.frozen? ⟨b, j, none⟩ = false) ∧ So encI 1 w' w.heap.size 3 (.slice (some ⟨h, 0, none⟩) l.length mc) l ∧ h ≠ b ∧ Below w.heap.size w w'
/-- What New gives of members that may be. -/
def MadeP (w : World) (l : List Int) (m : Int) (e : Ending) (w' : World) : Prop :=
  ∃ b, e = .returned (.tuple #[.pointer (some ⟨b, 0, none⟩), .int .i64 0]) ∧ ∃ h g mc sc, Ct w' b h g mc sc ⟨1, m, l, l⟩ ∧ (w.heap.size ≤ b ∧ w.heap.size ≤ h ∧ w.heap.size ≤ g) ∧ Below w.heap.size w w'

theorem new_no (K : Nat) (A : Option Addr) (n cp : Nat) (l : List Int) (w : World) (hn : l.length = n) (hp : Sr encI 1 w K A cp l) (hm : memsB l = false) :
    Calls Try.prog 7 #[.slice A n cp] w fun e w' => e = .returned (.tuple #[.pointer none, .int .i64 1]) ∧ w = w' := by
  have HM := Lib.hid (mems_any K A n cp l w hn hp)
  rw [hm] at HM
  clear hp hm hn
  go_enter Try.func7, Try.ntmps7
  go_wp2_with (go_at_call 32; refine HM.out.mono ?_; rintro e w1 ⟨rfl, rfl⟩)
  go_ret2
  exact ⟨rfl, rfl⟩
set_option maxRecDepth 100000 in
set_option maxHeartbeats 6400000 in
theorem new_ok_any (K0 : Nat) (ad : Addr) (cp : Nat) (l : List Int) (m : Int) (w : World) (hp : Sr encI 1 w K0 (some ad) cp l) (hKw : K0 ≤ w.heap.size) (hm : memsB l = true) (h0 : l.headD 0 = m) :
    Calls Try.prog 7 #[.slice (some ad) l.length cp] w (MadeP w l m) := by
  have hlen := mems_len hm
  have hl8 : l.length * 8 ≤ 140737488355328 := by omega
  have hl0 : 0 < l.length := by omega
  have hlI : (0 : Int) < (l.length : Int) := by omega
  obtain ⟨ad', e', hadK, hcell⟩ := hp.int hl0
  cases e'
  have hm0 : l[0] = m := by rw [← h0]; cases l with
    | nil => simp at hl0
    | cons x l => rfl
  rw [hm0, el_add_zero] at hcell
  have HM := Lib.hid (mems_any K0 (some ad) l.length cp l w rfl hp)
  rw [hm] at HM
  have HP := Lib.hid hp
  have HL0 := Lib.hid hl0
  clear hp hm hm0 h0 hlen
  go_enter Try.func7, Try.ntmps7
  go_upto_region 3 with (go_at_call 32; refine HM.out.mono ?_; rintro e w1 ⟨rfl, rfl⟩)
  apply region_VE (HV w.heap.size) (Below w.heap.size w) (fun vs w' => MidP w l m (vs 6) w') 7 [.v (.slice (some ad) l.length cp), .v (.pointer (some ad)), .v (.int .i64 m), .v (.slice (some ad) l.length cp), .s l, .b 1 m l, .pz, .v undef] (.v undef)
  case mono => exact fun p v w0 w1 h hb => HV.mono h hb
  case hl => kernel_rfl
  case hm => kernel_rfl
  case hf => kernel_rfl
  case hE => exact fun vs v w h => by obtain ⟨b, h2, c, e, r⟩ := h; exact ⟨b, h2, c, by rw [updR_ne _ _ (by decide)]; exact e, r⟩
  case hQ => exact (by intro c x y w e h; exact And.intro (e.symm.trans (And.left h)) (And.right h))
  case hF => intro vs; simp only [putAll, Act.put, List.setIfInBounds_toArray, List.set_cons_zero, List.set_cons_succ, Nat.reduceAdd]; rfl
  case h0 => exact ⟨rfl, rfl, rfl, Nat.le_refl _, fun _ _ => rfl⟩
  case hstep =>
    repeat' (first | exact AllOps.nil | apply AllOps.cons)
    · intro vs wx hG hd K hK
      replace hK : ∀ (uu : Value) (w' : World), Below wx.heap.size wx w' → ((Below w.heap.size w)) w' → (HV w.heap.size) (.v (.slice (some ad) l.length cp)) uu w' → K _ w' := hK
      simp only [Act.put, List.setIfInBounds_toArray, List.set_cons_zero, List.set_cons_succ] at hK ⊢
      have HK := Lib.hid hK
      have HG := Lib.hid hG
      clear hK hd
      clear hG
      go_simp
      exact HK.out _ _ (Below.refl _ _) HG.out rfl
    · intro vs wx hG hd K hK
      have e0 : vs 0 = .slice (some ad) l.length cp := hd.get (j := 0) (by simp [depsOf, Region.binds])
      replace hK : ∀ (uu : Value) (w' : World), Below wx.heap.size wx w' → ((Below w.heap.size w)) w' → (HV w.heap.size) (.v (.pointer (some ad))) uu w' → K _ w' := hK
      simp only [Act.put, List.setIfInBounds_toArray, List.set_cons_zero, List.set_cons_succ, e0] at hK ⊢
      have HK := Lib.hid hK
      have HG := Lib.hid hG
      clear hK hd e0
      clear hG
      go_simp
      exact HK.out _ _ (Below.refl _ _) HG.out rfl
    · intro vs wx hG hd K hK
      have e1 : vs 1 = .pointer (some ad) := hd.get (j := 1) (by simp [depsOf, Region.binds])
      replace hK : ∀ (uu : Value) (w' : World), Below wx.heap.size wx w' → ((Below w.heap.size w)) w' → (HV w.heap.size) (.v (.int .i64 m)) uu w' → K _ w' := hK
      simp only [Act.put, List.setIfInBounds_toArray, List.set_cons_zero, List.set_cons_succ, e1] at hK ⊢
      have HK := Lib.hid hK
      have HG := Lib.hid hG
      clear hK hd e1
      have hc := HG.out.cell (p := ad) (Nat.lt_of_lt_of_le hadK hKw)
      rw [hcell] at hc
      clear hG
      go_simp
      exact HK.out _ _ (Below.refl _ _) HG.out rfl
    · intro vs wx hG hd K hK
      replace hK : ∀ (uu : Value) (w' : World), Below wx.heap.size wx w' → ((Below w.heap.size w)) w' → (HV w.heap.size) (.v (.slice (some ad) l.length cp)) uu w' → K _ w' := hK
      simp only [Act.put, List.setIfInBounds_toArray, List.set_cons_zero, List.set_cons_succ] at hK ⊢
      have HK := Lib.hid hK
      have HG := Lib.hid hG
      clear hK hd
      clear hG
      go_simp
      exact HK.out _ _ (Below.refl _ _) HG.out rfl
    · intro vs wx hG hd K hK
      have e3 : vs 3 = .slice (some ad) l.length cp := hd.get (j := 3) (by simp [depsOf, Region.binds])
      replace hK : ∀ (uu : Value) (w' : World), Below wx.heap.size wx w' → ((Below w.heap.size w)) w' → (HV w.heap.size) (.s l) uu w' → K _ w' := hK
      simp only [Act.put, List.setIfInBounds_toArray, List.set_cons_zero, List.set_cons_succ, e3] at hK ⊢
      have HK := Lib.hid hK
      have HG := Lib.hid hG
      clear hK hd e3
      clear hG
      go_simp
      go_at_call 33
      refine (clone_ints K0 _ _ _ _ wx rfl (HP.out.below (HG.out.mono hKw)) (Nat.le_trans hKw HG.out.size) hl8).mono ?_
      rintro e w9 ⟨A9, c9, rfl, h9, hb⟩
      exact HK.out _ _ hb (HG.out.trans (hb.mono HG.out.size)) ⟨A9, c9, rfl, h9.more HG.out.size⟩
    · intro vs wx hG hd K hK
      have e2 : vs 2 = .int .i64 m := hd.get (j := 2) (by simp [depsOf, Region.binds])
      obtain ⟨A4, c4, e4, r4⟩ : ∃ A' c', vs 4 = .slice A' l.length c' ∧ So encI 1 wx w.heap.size 3 (.slice A' l.length c') l := hd.get (j := 4) (by simp [depsOf, Region.binds])
      replace hK : ∀ (uu : Value) (w' : World), Below wx.heap.size wx w' → ((Below w.heap.size w)) w' → (HV w.heap.size) (.b 1 m l) uu w' → K _ w' := hK
      simp only [Act.put, List.setIfInBounds_toArray, List.set_cons_zero, List.set_cons_succ, e2, e4] at hK ⊢
      have HK := Lib.hid hK
      have HG := Lib.hid hG
      clear hK hd e2 e4
      clear hG
      go_simp
      exact HK.out _ _ (Below.refl _ _) HG.out ⟨_, _, rfl, r4⟩
    · intro vs wx hG hd K hK
      replace hK : ∀ (uu : Value) (w' : World), Below wx.heap.size wx w' → ((Below w.heap.size w)) w' → (HV w.heap.size) (.pz) uu w' → K _ w' := hK
      simp only [Act.put, List.setIfInBounds_toArray, List.set_cons_zero, List.set_cons_succ] at hK ⊢
      have HK := Lib.hid hK
      have HG := Lib.hid hG
      clear hK hd
      clear hG
      go_simp
      exact HK.out _ _ ((Below.refl _ _).alloc (Nat.le_refl _) _) (HG.out.alloc HG.out.size _) ⟨_, rfl, HG.out.size, heap_alloc_new _ _⟩
    · intro vs wx hG hd K hK
      obtain ⟨A5, c5, e5, r5⟩ : ∃ A' c', vs 5 = .agg #[.int .i64 1, .int .i64 m, .slice A' l.length c'] ∧ So encI 1 wx w.heap.size 3 (.slice A' l.length c') l := hd.get (j := 5) (by simp [depsOf, Region.binds])
      obtain ⟨b6, e6, k6, h6⟩ : ∃ b, vs 6 = .pointer (some ⟨b, 0, none⟩) ∧ w.heap.size ≤ b ∧ wx.heap[b]? = some (.cells #[.int .i64 0, .int .i64 0, .slice none 0 0] 37 (0, 0)) := hd.get (j := 6) (by simp [depsOf, Region.binds])
      replace hK : ∀ (uu : Value) (w' : World), ((fun vs w' => MidP w l m (vs 6) w')) vs w' → K _ w' := hK
      simp only [Act.put, e5, e6] at hK ⊢
      have HK := Lib.hid hK
      have HG := Lib.hid hG
      clear hK hd
      obtain ⟨h5, rfl⟩ := own_some r5 hl0
      have hne := own_ne r5 h6 (by decide)
      have y0 : wx.cell? ⟨b6, 0, none⟩ = some (.int .i64 0) := cell_at h6 rfl
      have y1 : wx.cell? ⟨b6, 1, none⟩ = some (.int .i64 0) := cell_at h6 rfl
      have y2 : wx.cell? ⟨b6, 2, none⟩ = some (.slice none 0 0) := cell_at h6 rfl
      have yf : ∀ j, wx.frozen? ⟨b6, j, none⟩ = false := fun j => fro_at h6 j
      have HR := Lib.hid r5
      have HN := Lib.hid hne
      have HYF := Lib.hid yf
      clear r5 h6 hG e5 e6 hne
      go_simp
      refine HK.out undef _ ⟨b6, h5, c5, rfl, k6, ?_, ?_, ?_, ?_, ?_, HN.out, ?_⟩
      · simp [go_sem, y0]
      · simp [go_sem, y1]
      · simp [go_sem, y2]
      · intro j; simp only [World.frozen?_setCell]; exact HYF.out j
      · exact ((HR.out.tn (Tn.setCell _ b6 0 _) (own_not HN.out)).tn (Tn.setCell _ b6 1 _) (own_not HN.out)).tn (Tn.setCell _ b6 2 _) (own_not HN.out)
      · exact ((HG.out.setCell k6 _).setCell k6 _).setCell k6 _
  case hend =>
    intro vs W hE
    obtain ⟨b, h, mc, e6, kb, z0, z1, z2, zf, hms, hhb, hbw⟩ := hE
    have hbW := World.block_lt_of_cell? W _ z0
    replace hbW : b < W.heap.size := hbW
    have HMS := Lib.hid hms
    have HHB := Lib.hid hhb
    have HZF := Lib.hid zf
    clear hms hhb zf
    simp only [e6]
    go_upto_region 4 with fail
    apply region_V (HV W.heap.size) (Below W.heap.size W) [.v (.agg #[.int .i64 1, .int .i64 m, .slice (some ⟨h, 0, none⟩) l.length mc]), .v (.slice (some ad) l.length cp), .s l, .bb 1 m h mc l, .pc 1 m h mc l, .pc 1 m h mc l, .v (.int .i64 0)] (.v undef)
    case mono => exact fun p v w0 w1 h hb => HV.mono h hb
    case hm => kernel_rfl
    case hf => kernel_rfl
    case hQ => exact (by intro c x y w e h; exact And.intro (e.symm.trans (And.left h)) (And.right h))
    case hF => intro vs; simp only [putAll, Act.put, List.setIfInBounds_toArray, List.set_cons_zero, List.set_cons_succ, Nat.reduceAdd]; rfl
    case h0 => exact ⟨rfl, rfl, rfl, Nat.le_refl _, fun _ _ => rfl⟩
    case hstep =>
      repeat' (first | exact AllOps.nil | apply AllOps.cons)
      · intro vs wx hG hd K hK
        replace hK : ∀ (uu : Value) (w' : World), Below wx.heap.size wx w' → ((Below W.heap.size W)) w' → (HV W.heap.size) (.v (.agg #[.int .i64 1, .int .i64 m, .slice (some ⟨h, 0, none⟩) l.length mc])) uu w' → K _ w' := hK
        simp only [Act.put, List.setIfInBounds_toArray, List.set_cons_zero, List.set_cons_succ] at hK ⊢
        have HK := Lib.hid hK
        have HG := Lib.hid hG
        clear hK hd
        have x0 := HG.out.cell (p := ⟨b, 0, none⟩) hbW
        rw [z0] at x0
        have x1 := HG.out.cell (p := ⟨b, 1, none⟩) hbW
        rw [z1] at x1
        have x2 := HG.out.cell (p := ⟨b, 2, none⟩) hbW
        rw [z2] at x2
        clear hG
        go_simp
        exact HK.out _ _ (Below.refl _ _) HG.out rfl
      · intro vs wx hG hd K hK
        replace hK : ∀ (uu : Value) (w' : World), Below wx.heap.size wx w' → ((Below W.heap.size W)) w' → (HV W.heap.size) (.v (.slice (some ad) l.length cp)) uu w' → K _ w' := hK
        simp only [Act.put, List.setIfInBounds_toArray, List.set_cons_zero, List.set_cons_succ] at hK ⊢
        have HK := Lib.hid hK
        have HG := Lib.hid hG
        clear hK hd
        clear hG
        go_simp
        exact HK.out _ _ (Below.refl _ _) HG.out rfl
      · intro vs wx hG hd K hK
        have e1 : vs 1 = .slice (some ad) l.length cp := hd.get (j := 1) (by simp [depsOf, Region.binds])
        replace hK : ∀ (uu : Value) (w' : World), Below wx.heap.size wx w' → ((Below W.heap.size W)) w' → (HV W.heap.size) (.s l) uu w' → K _ w' := hK
        simp only [Act.put, List.setIfInBounds_toArray, List.set_cons_zero, List.set_cons_succ, e1] at hK ⊢
        have HK := Lib.hid hK
        have HG := Lib.hid hG
        clear hK hd e1
        clear hG
        go_simp
        go_at_call 33
        refine (clone_ints K0 _ _ _ _ wx rfl (HP.out.below ((hbw.trans (HG.out.mono hbw.size)).mono hKw)) (Nat.le_trans hKw (Nat.le_trans hbw.size HG.out.size)) hl8).mono ?_
        rintro e w9 ⟨A9, c9, rfl, h9, hb⟩
        exact HK.out _ _ hb (HG.out.trans (hb.mono HG.out.size)) ⟨A9, c9, rfl, h9.more HG.out.size⟩
      · intro vs wx hG hd K hK
        have e0 : vs 0 = .agg #[.int .i64 1, .int .i64 m, .slice (some ⟨h, 0, none⟩) l.length mc] := hd.get (j := 0) (by simp [depsOf, Region.binds])
        obtain ⟨A2, c2, e2, r2⟩ : ∃ A' c', vs 2 = .slice A' l.length c' ∧ So encI 1 wx W.heap.size 3 (.slice A' l.length c') l := hd.get (j := 2) (by simp [depsOf, Region.binds])
        replace hK : ∀ (uu : Value) (w' : World), Below wx.heap.size wx w' → ((Below W.heap.size W)) w' → (HV W.heap.size) (.bb 1 m h mc l) uu w' → K _ w' := hK
        simp only [Act.put, List.setIfInBounds_toArray, List.set_cons_zero, List.set_cons_succ, e0, e2] at hK ⊢
        have HK := Lib.hid hK
        have HG := Lib.hid hG
        clear hK hd e0 e2
        clear hG
        go_simp
        exact HK.out _ _ (Below.refl _ _) HG.out ⟨_, _, rfl, r2⟩
      · intro vs wx hG hd K hK
        obtain ⟨A3, c3, e3, r3⟩ : ∃ A' c', vs 3 = .agg #[.int .i64 1, .int .i64 m, .slice (some ⟨h, 0, none⟩) l.length mc, .slice A' l.length c'] ∧ So encI 1 wx W.heap.size 3 (.slice A' l.length c') l := hd.get (j := 3) (by simp [depsOf, Region.binds])
        replace hK : ∀ (uu : Value) (w' : World), Below wx.heap.size wx w' → ((Below W.heap.size W)) w' → (HV W.heap.size) (.pc 1 m h mc l) uu w' → K _ w' := hK
        simp only [Act.put, List.setIfInBounds_toArray, List.set_cons_zero, List.set_cons_succ, e3] at hK ⊢
        have HK := Lib.hid hK
        have HG := Lib.hid hG
        clear hK hd e3
        clear hG
        go_simp
        exact HK.out _ _ ((Below.refl _ _).alloc (Nat.le_refl _) _) (HG.out.alloc HG.out.size _) ⟨_, _, _, rfl, HG.out.size, heap_alloc_new _ _, r3.alloc _⟩
      · intro vs wx hG hd K hK
        obtain ⟨b4, A4, c4, e4, k4, h4, r4⟩ : ∃ b A' c', vs 4 = .pointer (some ⟨b, 0, none⟩) ∧ W.heap.size ≤ b ∧ wx.heap[b]? = some (.cells #[.int .i64 1, .int .i64 m, .slice (some ⟨h, 0, none⟩) l.length mc, .slice A' l.length c'] 74 (0, 0)) ∧ So encI 1 wx W.heap.size 3 (.slice A' l.length c') l := hd.get (j := 4) (by simp [depsOf, Region.binds])
        replace hK : ∀ (uu : Value) (w' : World), Below wx.heap.size wx w' → ((Below W.heap.size W)) w' → (HV W.heap.size) (.pc 1 m h mc l) uu w' → K _ w' := hK
        simp only [Act.put, List.setIfInBounds_toArray, List.set_cons_zero, List.set_cons_succ, e4] at hK ⊢
        have HK := Lib.hid hK
        have HG := Lib.hid hG
        clear hK hd e4
        clear hG
        go_simp
        exact HK.out _ _ (Below.refl _ _) HG.out ⟨_, _, _, rfl, k4, h4, r4⟩
      · intro vs wx hG hd K hK
        replace hK : ∀ (uu : Value) (w' : World), Below wx.heap.size wx w' → ((Below W.heap.size W)) w' → (HV W.heap.size) (.v (.int .i64 0)) uu w' → K _ w' := hK
        simp only [Act.put, List.setIfInBounds_toArray, List.set_cons_zero, List.set_cons_succ] at hK ⊢
        have HK := Lib.hid hK
        have HG := Lib.hid hG
        clear hK hd
        clear hG
        go_simp
        exact HK.out _ _ (Below.refl _ _) HG.out rfl
    case hend =>
      intro vs wx hG hv
      obtain ⟨b5, A5, c5, e5, k5, h5, r5⟩ : ∃ b A' c', vs 5 = .pointer (some ⟨b, 0, none⟩) ∧ W.heap.size ≤ b ∧ wx.heap[b]? = some (.cells #[.int .i64 1, .int .i64 m, .slice (some ⟨h, 0, none⟩) l.length mc, .slice A' l.length c'] 74 (0, 0)) ∧ So encI 1 wx W.heap.size 3 (.slice A' l.length c') l := hv 5 (by decide)
      have e6 : vs 6 = .int .i64 0 := hv 6 (by decide)
      obtain ⟨g5, rfl⟩ := own_some r5 HL0.out
      have hms : So encI 1 wx w.heap.size 3 (.slice (some ⟨h, 0, none⟩) l.length mc) l := HMS.out.below hG
      have hg5 := (r5.lt g5 rfl).1
      have hh5 := (HMS.out.lt h rfl)
      have HC : Hid (Ct wx b5 h g5 mc c5 ⟨1, m, l, l⟩) := Lib.hid ⟨cell_at h5 rfl, cell_at h5 rfl, cell_at h5 rfl, cell_at h5 rfl, fun j => fro_at h5 j, hms.more (Nat.zero_le _), r5.more (Nat.zero_le _), own_ne hms h5 (by decide), own_ne r5 h5 (by decide), by omega⟩
      have HB := Lib.hid (hbw.trans (hG.mono hbw.size))
      have HK5 : Hid (w.heap.size ≤ b5 ∧ w.heap.size ≤ h ∧ w.heap.size ≤ g5) := Lib.hid ⟨Nat.le_trans hbw.size k5, hh5.1, Nat.le_trans hbw.size hg5⟩
      clear hms r5 h5 hG hv k5 hg5 hh5
      simp only [e5, e6]
      go_wp2_with fail
      go_ret2
      exact ⟨_, rfl, _, _, _, _, HC.out, HK5.out, HB.out⟩
end Go.Proofs.Ytcgkbpjfbahleaa
namespace Go.Proofs.Ytcgkbpjfbahleaa
open Go.RowKit Go.BigFrame

theorem Tn.thenNew {P Q : Nat → Prop} {w w1 w2 : World} (h : Tn P w w1) (h2 : Tn Q w1 w2) (hQ : ∀ k, k < w.heap.size → ¬ Q k) : Tn P w w2 := h.thenQ h2 fun k hk q => absurd q (hQ k hk)
section
variable {w w' : World} {b h g mc sc h' mc' : Nat} {c : Vc}
theorem Ct.setView {e p : Int} {ms : List Int} (x : Ct w b h g mc sc c) (so : So encI 1 w 0 3 (.slice (some ⟨h', 0, none⟩) ms.length mc') ms) (hb : h' ≠ b) (hg : h' ≠ g) :
    Ct (((w.setCell ⟨b, 0, none⟩ (.int .i64 e)).setCell ⟨b, 1, none⟩ (.int .i64 p)).setCell ⟨b, 2, none⟩ (.slice (some ⟨h', 0, none⟩) ms.length mc')) b h' g mc' sc ⟨e, p, ms, c.sf⟩ := by
  have y0 := x.x0
  have y1 := x.x1
  have y2 := x.x2
  have y3 := x.x3
  have t : Tn (· = b) w (((w.setCell ⟨b, 0, none⟩ (.int .i64 e)).setCell ⟨b, 1, none⟩ (.int .i64 p)).setCell ⟨b, 2, none⟩ (.slice (some ⟨h', 0, none⟩) ms.length mc')) := ((Tn.setCell _ b 0 _).then (Tn.setCell _ b 1 _)).then (Tn.setCell _ b 2 _)
  refine ⟨?_, ?_, ?_, ?_, fun j => ?_, so.tn t (own_not hb), x.sf.tn t (own_not x.gb), hb, x.gb, hg⟩
  · simp [go_sem, y0]
  · simp [go_sem, y1]
  · simp [go_sem, y2]
  · simp [go_sem, y3]
  · simp only [World.frozen?_setCell]; exact x.fr j
theorem Ct.setSafe {e p : Int} {ms sf : List Int} {v : Value} (q0 : w.cell? ⟨b, 0, none⟩ = some (.int .i64 e)) (q1 : w.cell? ⟨b, 1, none⟩ = some (.int .i64 p)) (q2 : w.cell? ⟨b, 2, none⟩ = some (.slice (some ⟨h, 0, none⟩) ms.length mc)) (q3 : w.cell? ⟨b, 3, none⟩ = some v) (fr : ∀ j, w.frozen? ⟨b, j, none⟩ = false)
    (so : So encI 1 w 0 3 (.slice (some ⟨h, 0, none⟩) ms.length mc) ms) (s2 : So encI 1 w 0 3 (.slice (some ⟨g, 0, none⟩) sf.length sc) sf) (hb : h ≠ b) (gb : g ≠ b) (hg : h ≠ g) :
    Ct (w.setCell ⟨b, 3, none⟩ (.slice (some ⟨g, 0, none⟩) sf.length sc)) b h g mc sc ⟨e, p, ms, sf⟩ := by
  refine ⟨?_, ?_, ?_, ?_, fun j => ?_, so.tn (Tn.setCell _ b 3 _) (own_not hb), s2.tn (Tn.setCell _ b 3 _) (own_not gb), hb, gb, hg⟩
  · simp [go_sem, q0]
  · simp [go_sem, q1]
  · simp [go_sem, q2]
  · simp [go_sem, q3]
  · simp only [World.frozen?_setCell]; exact fr j
end
def NowP (w : World) (c : Vc) (e : Ending) (w' : World) : Prop :=
  ∃ A cp, e = .returned (.agg #[.int .i64 c.e, .int .i64 c.p, .slice A c.ms.length cp]) ∧ So encI 1 w' w.heap.size 3 (.slice A c.ms.length cp) c.ms ∧ Below w.heap.size w w'
set_option maxRecDepth 100000 in
set_option maxHeartbeats 3200000 in
theorem now_any {w : World} {b h g mc sc : Nat} {c : Vc} (x : Ct w b h g mc sc c) (hl : c.ms.length * 8 ≤ 140737488355328) : Calls Try.prog 16 #[.pointer (some ⟨b, 0, none⟩)] w (NowP w c) := by
  have x0 := x.x0
  have x1 := x.x1
  have x2 := x.x2
  have hlt := x.lt.1
  have HP := Lib.hid (x.ms.sr encI_len).1
  clear x
  go_enter Try.func16, Try.ntmps16
  go_wp2_with fail
  go_at_call 33
  refine (clone_ints w.heap.size _ _ _ c.ms _ rfl (HP.out.below (by go_grown)) (by simp; omega) hl).mono ?_
  rintro e w1 ⟨A1, c1, rfl, so1, b1⟩
  obtain ⟨hc, hf⟩ := bcell b1
  have hz : w.heap.size < w1.heap.size := by have := b1.size; simp at this; omega
  have hz1 : w.heap.size + 1 < w1.heap.size := by have := b1.size; simp at this; omega
  have HB : Hid (Below w.heap.size w w1) := Lib.hid ((show Below w.heap.size w _ by go_grown).trans (b1.mono (by simp; omega)))
  have HS : Hid (So encI 1 w1 (w.heap.size + 2) 3 (.slice A1 c.ms.length c1) c.ms) := Lib.hid (so1.more (by simp))
  have y0 := kept b1 (p := ⟨w.heap.size + 1, 0, none⟩) (v := .int .i64 c.e) (by simp [go_sem])
  have y1 := kept b1 (p := ⟨w.heap.size + 1, 1, none⟩) (v := .int .i64 c.p) (by simp [go_sem])
  have y2 := kept b1 (p := ⟨w.heap.size + 1, 2, none⟩) (v := .slice (some ⟨h, 0, none⟩) c.ms.length mc) (by simp [go_sem])
  have z0 := kept b1 (p := ⟨w.heap.size, 0, none⟩) (v := .int .i64 0) (by simp [go_sem])
  have z1 := kept b1 (p := ⟨w.heap.size, 1, none⟩) (v := .int .i64 0) (by simp [go_sem])
  have z2 := kept b1 (p := ⟨w.heap.size, 2, none⟩) (v := .slice none 0 0) (by simp [go_sem])
  have f1 : w1.frozen? ⟨w.heap.size + 1, 2, none⟩ = false := (b1.frozen (p := ⟨w.heap.size + 1, 2, none⟩) (by simp)).trans (by simp [go_sem])
  have f0 : ∀ j, w1.frozen? ⟨w.heap.size, j, none⟩ = false := fun j => (b1.frozen (p := ⟨w.heap.size, j, none⟩) (by show w.heap.size < _; simp; omega)).trans (by simp [go_sem])
  clear so1 b1 hc hf
  go_wp2_with fail
  refine bodyPost_ret (v := .agg #[.int .i64 c.e, .int .i64 c.p, .slice A1 c.ms.length c1]) (by simp [results, Try.results16, go_sem, z0, z1, z2]) rfl ⟨A1, c1, rfl, ?_, ?_⟩
  · have hn : ∀ o, o < w.heap.size + 2 → ∀ k, (Value.slice A1 c.ms.length c1).ownBlock = some k → ¬ k = o := fun o ho k e h => by have := (HS.out.lt k e).1; omega
    exact (((((HS.out.tn (Tn.setCell _ (w.heap.size + 1) 2 _) (hn _ (by omega))).tn (Tn.setCell _ w.heap.size 0 _) (hn _ (by omega))).tn (Tn.setCell _ w.heap.size 1 _) (hn _ (by omega))).tn (Tn.setCell _ w.heap.size 2 _) (hn _ (by omega)))).more (by omega)
  · exact (((HB.out.setCell (p := ⟨w.heap.size + 1, 2, none⟩) (Nat.le_succ _) _).setCell (p := ⟨w.heap.size, 0, none⟩) (Nat.le_refl _) _).setCell (p := ⟨w.heap.size, 1, none⟩) (Nat.le_refl _) _).setCell (p := ⟨w.heap.size, 2, none⟩) (Nat.le_refl _) _
set_option maxHeartbeats 800000 in
theorem safe_any {w : World} {b h g mc sc : Nat} {c : Vc} (x : Ct w b h g mc sc c) (hl : c.sf.length * 8 ≤ 140737488355328) : Calls Try.prog 18 #[.pointer (some ⟨b, 0, none⟩)] w (NewI w c.sf) := by
  have x3 := x.x3
  have hlt := x.lt.1
  have HP := Lib.hid (x.sf.sr encI_len).1
  clear x
  go_enter Try.func18, Try.ntmps18
  go_wp2_with fail
  go_at_call 33
  refine (clone_ints w.heap.size _ _ _ c.sf _ rfl HP.out (Nat.le_refl _) hl).mono ?_
  rintro e w1 ⟨A1, c1, rfl, so1, b1⟩
  have HS := Lib.hid so1
  have HB := Lib.hid b1
  clear so1 b1
  go_wp2_with fail
  go_ret
  exact ⟨A1, c1, rfl, HS.out, HB.out⟩
/-- What Active does. -/
def ActP (w : World) (b h g mc : Nat) (c : Vc) (n : Int) (e : Ending) (w' : World) : Prop :=
  e = .returned (.int .i64 (acV c n).1) ∧ ∃ g' sc', Ct w' b h g' mc sc' (acV c n).2 ∧ (g' = g ∨ w.heap.size ≤ g') ∧ Tn (· = b) w w'
set_option maxRecDepth 100000 in
set_option maxHeartbeats 3200000 in
theorem active_any {w : World} {b h g mc sc : Nat} {c : Vc} (n : Int) (x : Ct w b h g mc sc c) (hl : c.ms.length * 8 ≤ 140737488355328) (hl0 : 0 < c.ms.length) : Calls Try.prog 15 #[.pointer (some ⟨b, 0, none⟩), .int .i64 n] w (ActP w b h g mc c n) := by
  have x0 := x.x0
  have x2 := x.x2
  have hlt := x.lt.1
  have HX := Lib.hid x
  clear x
  by_cases h1 : n < 1
  · have HA : Hid (acV c n = (1, c)) := Lib.hid (by unfold acV; rw [if_pos (.inl h1)])
    have d1 : decide (n < 1) = true := by simpa using h1
    clear h1
    go_enter Try.func15, Try.ntmps15
    go_wp2_with fail
    go_ret
    exact ⟨by rw [HA.out]; rfl, by rw [HA.out]; exact ⟨g, sc, HX.out, .inl rfl, Tn.refl _ _⟩⟩
  · have d1 : decide (n < 1) = false := by simpa using h1
    by_cases h2 : c.e < n
    · have HA : Hid (acV c n = (1, c)) := Lib.hid (by unfold acV; rw [if_pos (.inr h2)])
      have d2 : decide (c.e < n) = true := by simpa using h2
      clear h1 h2
      go_enter Try.func15, Try.ntmps15
      go_wp2_with fail
      go_ret
      exact ⟨by rw [HA.out]; rfl, by rw [HA.out]; exact ⟨g, sc, HX.out, .inl rfl, Tn.refl _ _⟩⟩
    · have d2 : decide (c.e < n) = false := by simpa using h2
      by_cases h3 : n = c.e
      · have HA : Hid (acV c n = (0, ⟨c.e, c.p, c.ms, c.ms⟩)) := Lib.hid (by unfold acV; rw [if_neg (by omega), if_pos h3])
        have d3 : (n == c.e) = true := by simpa using h3
        clear h1 h2 h3
        have x3 := HX.out.x3
        have xf := HX.out.fr 3
        go_enter Try.func15, Try.ntmps15
        go_wp2_with fail
        go_at_call 33
        refine (clone_ints w.heap.size _ _ _ c.ms _ rfl (HX.out.ms.sr encI_len).1 (Nat.le_refl _) hl).mono ?_
        rintro e w1 ⟨A1, c1, rfl, so1, b1⟩
        obtain ⟨g1, rfl⟩ := own_some so1 hl0
        have X1 := HX.out.below b1
        have hb1 : b < w1.heap.size := X1.lt.1
        have hg1 := (so1.lt g1 rfl).1
        have hh := HX.out.lt
        have q3 := X1.x3
        have qf := X1.fr 3
        have HC : Hid (Ct (w1.setCell ⟨b, 3, none⟩ (.slice (some ⟨g1, 0, none⟩) c.ms.length c1)) b h g1 mc c1 ⟨c.e, c.p, c.ms, c.ms⟩) :=
          Lib.hid (Ct.setSafe X1.x0 X1.x1 X1.x2 X1.x3 X1.fr X1.ms (so1.more (Nat.zero_le _)) X1.hb (by omega) (by omega))
        have HT : Hid (Tn (· = b) w (w1.setCell ⟨b, 3, none⟩ (.slice (some ⟨g1, 0, none⟩) c.ms.length c1))) := Lib.hid ((Tn.ofNew b1).then (Tn.setCell _ b 3 _))
        clear X1 so1 b1 x0 x2
        go_wp2_with fail
        go_ret
        exact ⟨by rw [HA.out]; rfl, by rw [HA.out]; exact ⟨g1, c1, HC.out, .inr hg1, HT.out⟩⟩
      · have HA : Hid (acV c n = (0, c)) := Lib.hid (by unfold acV; rw [if_neg (by omega), if_neg h3])
        have d3 : (n == c.e) = false := by simpa using h3
        clear h1 h2 h3
        go_enter Try.func15, Try.ntmps15
        go_wp2_with fail
        go_ret
        exact ⟨by rw [HA.out]; rfl, by rw [HA.out]; exact ⟨g, sc, HX.out, .inl rfl, Tn.refl _ _⟩⟩

/-- What Change says where it refuses. -/
def ChNo (w : World) (r : Int) (e : Ending) (w' : World) : Prop := e = .returned (.tuple #[.agg #[.int .i64 0, .int .i64 0, .slice none 0 0], .int .i64 r]) ∧ Below w.heap.size w w'
def ChYes (w : World) (b g sc : Nat) (c : Vc) (p : Int) (ms : List Int) (e : Ending) (w' : World) : Prop :=
  ∃ h' mc' A cp K', e = .returned (.tuple #[.agg #[.int .i64 (c.e + 1), .int .i64 p, .slice A ms.length cp], .int .i64 0]) ∧ Ct w' b h' g mc' sc ⟨c.e + 1, p, ms, c.sf.filter fun n => hasB ms n⟩ ∧ w.heap.size ≤ h' ∧ w.heap.size ≤ K' ∧ h' < K' ∧
    So encI 1 w' K' 3 (.slice A ms.length cp) ms ∧ Tn (fun k => k = b ∨ k = g) w w'
section
variable {w : World} {b h g mc sc : Nat} {c : Vc} {p : Int} {A : Option Addr} {K0 mc0 : Nat} {ms : List Int}
set_option maxRecDepth 100000 in
set_option maxHeartbeats 3200000 in
theorem change_no (x : Ct w b h g mc sc c) (hp : Sr encI 1 w K0 A mc0 ms) (hKw : K0 ≤ w.heap.size) {r : Int} {c' : Vc} (hr : chV c p ms = (r, c')) (hr0 : r ≠ 0) :
    Calls Try.prog 10 #[.pointer (some ⟨b, 0, none⟩), .int .i64 p, .slice A ms.length mc0] w (ChNo w r) := by
  have hlt := x.lt.1
  have hp1 : ∀ o, Sr encI 1 (w.alloc o) K0 A mc0 ms := fun o => hp.alloc hKw o
  have HR := Lib.hid (fun W (h : Sr encI 1 W K0 A mc0 ms) (hW : K0 ≤ W.heap.size) => vright_any 1 p K0 A ms.length mc0 ms W rfl h hW)
  have HX := Lib.hid x
  have HP := Lib.hid hp
  clear x hp hp1
  unfold chV at hr
  by_cases h1 : rightV 1 p ms = false
  · rw [if_pos h1] at hr
    have hr9 := congrArg Prod.fst hr
    clear hr
    simp only at hr9
    subst hr9
    rw [h1] at HR
    clear h1 hr0
    go_enter Try.func10, Try.ntmps10
    go_wp2_with fail
    go_at_call 19
    refine (HR.out _ (HP.out.below ((show Below w.heap.size w _ by go_grown).mono hKw)) (by simp; omega)).mono ?_
    rintro e w1 ⟨rfl, b1⟩
    have hz : w.heap.size + 1 < w1.heap.size := by have := b1.size; simp at this; omega
    have z0 := kept b1 (p := ⟨w.heap.size + 1, 0, none⟩) (v := .int .i64 0) (by simp [go_sem])
    have z1 := kept b1 (p := ⟨w.heap.size + 1, 1, none⟩) (v := .int .i64 0) (by simp [go_sem])
    have z2 := kept b1 (p := ⟨w.heap.size + 1, 2, none⟩) (v := .slice none 0 0) (by simp [go_sem])
    have f0 : ∀ j, w1.frozen? ⟨w.heap.size + 1, j, none⟩ = false := fun j => (b1.frozen (p := ⟨w.heap.size + 1, j, none⟩) (by show w.heap.size + 1 < _; simp)).trans (by simp [go_sem])
    have HB : Hid (Below w.heap.size w w1) := Lib.hid ((show Below w.heap.size w _ by go_grown).trans (b1.mono (by simp; omega)))
    clear b1
    go_wp2_with fail
    refine bodyPost_ret (v := .tuple #[.agg #[.int .i64 0, .int .i64 0, .slice none 0 0], .int .i64 1]) (by simp [results, Try.results10, go_sem, z0, z1, z2]) rfl ⟨rfl, ?_⟩
    exact ((HB.out.setCell (p := ⟨w.heap.size + 1, 0, none⟩) (Nat.le_succ _) _).setCell (p := ⟨w.heap.size + 1, 1, none⟩) (Nat.le_succ _) _).setCell (p := ⟨w.heap.size + 1, 2, none⟩) (Nat.le_succ _) _
  rw [if_neg h1] at hr
  have h1' : rightV 1 p ms = true := by simpa using h1
  rw [h1'] at HR
  clear h1 h1'
  have HH := Lib.hid (fun W (h : Below w.heap.size w W) => has_any w.heap.size _ _ sc c.sf p W rfl ((HX.out.sf.sr encI_len).1.below h))
  have hsz := HX.out.lt.2.2
  by_cases h2 : hasB c.sf p = false
  · rw [if_pos h2] at hr
    have hr9 := congrArg Prod.fst hr
    clear hr
    simp only at hr9
    subst hr9
    rw [h2] at HH
    clear h2 hr0
    go_enter Try.func10, Try.ntmps10
    go_wp2_with fail
    go_at_call 19
    refine (HR.out _ (HP.out.below ((show Below w.heap.size w _ by go_grown).mono hKw)) (by simp; omega)).mono ?_
    rintro e w1 ⟨rfl, b1⟩
    have hz : w.heap.size + 1 < w1.heap.size := by have := b1.size; simp at this; omega
    have z0 := kept b1 (p := ⟨w.heap.size + 1, 0, none⟩) (v := .int .i64 0) (by simp [go_sem])
    have z1 := kept b1 (p := ⟨w.heap.size + 1, 1, none⟩) (v := .int .i64 0) (by simp [go_sem])
    have z2 := kept b1 (p := ⟨w.heap.size + 1, 2, none⟩) (v := .slice none 0 0) (by simp [go_sem])
    have f0 : ∀ j, w1.frozen? ⟨w.heap.size + 1, j, none⟩ = false := fun j => (b1.frozen (p := ⟨w.heap.size + 1, j, none⟩) (by show w.heap.size + 1 < _; simp)).trans (by simp [go_sem])
    have HB : Hid (Below w.heap.size w w1) := Lib.hid ((show Below w.heap.size w _ by go_grown).trans (b1.mono (by simp; omega)))
    have y3 := HB.out.cell (p := ⟨b, 3, none⟩) hlt
    rw [HX.out.x3] at y3
    clear b1
    go_wp2_with (go_at_call 34; refine (HH.out _ HB.out).mono ?_; rintro e w2 ⟨rfl, rfl⟩)
    refine bodyPost_ret (v := .tuple #[.agg #[.int .i64 0, .int .i64 0, .slice none 0 0], .int .i64 111]) (by simp [results, Try.results10, go_sem, z0, z1, z2]) rfl ⟨rfl, ?_⟩
    exact ((HB.out.setCell (p := ⟨w.heap.size + 1, 0, none⟩) (Nat.le_succ _) _).setCell (p := ⟨w.heap.size + 1, 1, none⟩) (Nat.le_succ _) _).setCell (p := ⟨w.heap.size + 1, 2, none⟩) (Nat.le_succ _) _
  rw [if_neg h2] at hr
  have h2' : hasB c.sf p = true := by simpa using h2
  rw [h2'] at HH
  clear h2 h2'
  by_cases h3 : 4611686018427387904 ≤ c.e
  · rw [if_pos h3] at hr
    have hr9 := congrArg Prod.fst hr
    clear hr
    simp only at hr9
    subst hr9
    have d3 : decide (4611686018427387904 ≤ c.e) = true := by simpa using h3
    clear h3 hr0
    go_enter Try.func10, Try.ntmps10
    go_wp2_with fail
    go_at_call 19
    refine (HR.out _ (HP.out.below ((show Below w.heap.size w _ by go_grown).mono hKw)) (by simp; omega)).mono ?_
    rintro e w1 ⟨rfl, b1⟩
    have hz : w.heap.size + 1 < w1.heap.size := by have := b1.size; simp at this; omega
    have z0 := kept b1 (p := ⟨w.heap.size + 1, 0, none⟩) (v := .int .i64 0) (by simp [go_sem])
    have z1 := kept b1 (p := ⟨w.heap.size + 1, 1, none⟩) (v := .int .i64 0) (by simp [go_sem])
    have z2 := kept b1 (p := ⟨w.heap.size + 1, 2, none⟩) (v := .slice none 0 0) (by simp [go_sem])
    have f0 : ∀ j, w1.frozen? ⟨w.heap.size + 1, j, none⟩ = false := fun j => (b1.frozen (p := ⟨w.heap.size + 1, j, none⟩) (by show w.heap.size + 1 < _; simp)).trans (by simp [go_sem])
    have HB : Hid (Below w.heap.size w w1) := Lib.hid ((show Below w.heap.size w _ by go_grown).trans (b1.mono (by simp; omega)))
    have y3 := HB.out.cell (p := ⟨b, 3, none⟩) hlt
    rw [HX.out.x3] at y3
    have y0 := HB.out.cell (p := ⟨b, 0, none⟩) hlt
    rw [HX.out.x0] at y0
    clear b1
    go_wp2_with (go_at_call 34; refine (HH.out _ HB.out).mono ?_; rintro e w2 ⟨rfl, rfl⟩)
    refine bodyPost_ret (v := .tuple #[.agg #[.int .i64 0, .int .i64 0, .slice none 0 0], .int .i64 20]) (by simp [results, Try.results10, go_sem, z0, z1, z2]) rfl ⟨rfl, ?_⟩
    exact ((HB.out.setCell (p := ⟨w.heap.size + 1, 0, none⟩) (Nat.le_succ _) _).setCell (p := ⟨w.heap.size + 1, 1, none⟩) (Nat.le_succ _) _).setCell (p := ⟨w.heap.size + 1, 2, none⟩) (Nat.le_succ _) _
  · rw [if_neg h3] at hr
    injection hr with hr _
    exact absurd hr.symm hr0
set_option maxRecDepth 100000 in
set_option maxHeartbeats 6400000 in
theorem change_yes (x : Ct w b h g mc sc c) (hp : Sr encI 1 w K0 A mc0 ms) (hKw : K0 ≤ w.heap.size) (hm : 0 < ms.length → ∀ ad : Addr, A = some ad → ad.block ≠ b ∧ ad.block ≠ g)
    (h1 : rightV 1 p ms = true) (h2 : hasB c.sf p = true) (h3 : c.e < 4611686018427387904) (h0 : 1 ≤ c.e) :
    Calls Try.prog 10 #[.pointer (some ⟨b, 0, none⟩), .int .i64 p, .slice A ms.length mc0] w (ChYes w b g sc c p ms) := by
  have hml := mems_len (rightV_iff.1 h1).2.2.1
  have hms0 : 0 < ms.length := by omega
  have hms8 : ms.length * 8 ≤ 140737488355328 := by omega
  have hlt := x.lt.1
  have HLT0 := Lib.hid x.lt
  have HM : Hid ((0 < ms.length → ∀ ad : Addr, A = some ad → ¬ ad.block = b) ∧ (0 < ms.length → ∀ ad : Addr, A = some ad → ad.block ≠ g)) := Lib.hid ⟨fun hl ad e => (hm hl ad e).1, fun hl ad e => (hm hl ad e).2⟩
  have HR := Lib.hid (fun W (h : Sr encI 1 W K0 A mc0 ms) (hW : K0 ≤ W.heap.size) => vright_any 1 p K0 A ms.length mc0 ms W rfl h hW)
  rw [h1] at HR
  have HH := Lib.hid (fun W (h : Below w.heap.size w W) => has_any w.heap.size _ _ sc c.sf p W rfl ((x.sf.sr encI_len).1.below h))
  rw [h2] at HH
  have d3 : decide (4611686018427387904 ≤ c.e) = false := by simp; omega
  have HWR : Hid (Value.int .i64 (IntKind.i64.wrap (c.e + 1)) = .int .i64 (c.e + 1)) := Lib.hid (by rw [IntWalk.i64_in _ (by omega)])
  have HX := Lib.hid x
  have HP := Lib.hid hp
  clear x hp h1 h2 hm hml
  go_enter Try.func10, Try.ntmps10
  go_wp2_with fail
  go_at_call 19
  refine (HR.out _ (HP.out.below ((show Below w.heap.size w _ by go_grown).mono hKw)) (by simp; omega)).mono ?_
  rintro e W2 ⟨rfl, b1⟩
  have HBZ : Hid (w.heap.size < W2.heap.size) := Lib.hid (by have := b1.size; simp at this; omega)
  have HRV : Hid (W2.cell? ⟨w.heap.size + 1, 0, none⟩ = some (.int .i64 0) ∧ W2.cell? ⟨w.heap.size + 1, 1, none⟩ = some (.int .i64 0) ∧ W2.cell? ⟨w.heap.size + 1, 2, none⟩ = some (.slice none 0 0) ∧ (∀ j, W2.frozen? ⟨w.heap.size + 1, j, none⟩ = false) ∧ w.heap.size + 1 < W2.heap.size) := Lib.hid
    ⟨kept b1 (by simp [go_sem]), kept b1 (by simp [go_sem]), kept b1 (by simp [go_sem]), fun j => (b1.frozen (p := ⟨w.heap.size + 1, j, none⟩) (by show w.heap.size + 1 < _; simp)).trans (by simp [go_sem]), by have := b1.size; simp at this; omega⟩
  have HB2 : Hid (Below w.heap.size w W2) := Lib.hid ((show Below w.heap.size w _ by go_grown).trans (b1.mono (by simp; omega)))
  have HBX : Hid (W2.cell? ⟨w.heap.size, 0, none⟩ = some (.slice A ms.length mc0)) := Lib.hid (kept b1 (by simp [go_sem]))
  have HC2 : Hid (Ct W2 b h g mc sc c) := Lib.hid (HX.out.below HB2.out)
  have HLT := Lib.hid HC2.out.lt
  have y3 := HC2.out.x3
  have y0 := HC2.out.x0
  clear b1
  go_upto_region 9 with (go_at_call 34; refine (HH.out _ HB2.out).mono ?_; rintro e w2 ⟨rfl, rfl⟩)
  apply region_VS (HV W2.heap.size) (Below W2.heap.size W2) (fun w' => ∃ h' mc', Ct w' b h' g mc' sc ⟨c.e + 1, p, ms, c.sf⟩ ∧ W2.heap.size ≤ h' ∧ Tn (· = b) W2 w') 13 [.v (.pointer (some ⟨b, 0, none⟩)), .v (.pointer (some ⟨b, 0, none⟩)), .v (.pointer (some ⟨b, 0, none⟩)), .v (.pointer (some ⟨b, 0, none⟩)), .v (.pointer (some ⟨b, 0, none⟩)), .v (.int .i64 c.e), .v (.int .i64 (c.e + 1)), .v (.int .i64 p), .v (.slice A ms.length mc0), .s ms, .b (c.e + 1) p ms, .v (.pointer (some ⟨b, 0, none⟩)), .v (.pointer (some ⟨b, 0, none⟩)), .v undef] (.v undef)
  case mono => exact fun p v w0 w1 h hb => HV.mono h hb
  case hl => kernel_rfl
  case hm => kernel_rfl
  case hf => kernel_rfl
  case hQ => exact (by intro c x y w e h; exact And.intro (e.symm.trans (And.left h)) (And.right h))
  case hF => intro vs; simp only [putAll, Act.put, List.setIfInBounds_toArray, List.set_cons_zero, List.set_cons_succ, Nat.reduceAdd]; rfl
  case h0 => exact ⟨rfl, rfl, rfl, Nat.le_refl _, fun _ _ => rfl⟩
  case hstep =>
    repeat' (first | exact AllOps.nil | apply AllOps.cons)
    · intro vs wx hG hd K hK
      replace hK : ∀ (uu : Value) (w' : World), Below wx.heap.size wx w' → ((Below W2.heap.size W2)) w' → (HV W2.heap.size) (.v (.pointer (some ⟨b, 0, none⟩))) uu w' → K _ w' := hK
      simp only [Act.put, List.setIfInBounds_toArray, List.set_cons_zero, List.set_cons_succ] at hK ⊢
      have HK := Lib.hid hK
      have HG := Lib.hid hG
      clear hK hd
      clear hG
      go_simp
      exact HK.out _ _ (Below.refl _ _) HG.out rfl
    · intro vs wx hG hd K hK
      replace hK : ∀ (uu : Value) (w' : World), Below wx.heap.size wx w' → ((Below W2.heap.size W2)) w' → (HV W2.heap.size) (.v (.pointer (some ⟨b, 0, none⟩))) uu w' → K _ w' := hK
      simp only [Act.put, List.setIfInBounds_toArray, List.set_cons_zero, List.set_cons_succ] at hK ⊢
      have HK := Lib.hid hK
      have HG := Lib.hid hG
      clear hK hd
      clear hG
      go_simp
      exact HK.out _ _ (Below.refl _ _) HG.out rfl
    · intro vs wx hG hd K hK
      have e1 : vs 1 = .pointer (some ⟨b, 0, none⟩) := hd.get (j := 1) (by simp [depsOf, Region.binds])
      replace hK : ∀ (uu : Value) (w' : World), Below wx.heap.size wx w' → ((Below W2.heap.size W2)) w' → (HV W2.heap.size) (.v (.pointer (some ⟨b, 0, none⟩))) uu w' → K _ w' := hK
      simp only [Act.put, List.setIfInBounds_toArray, List.set_cons_zero, List.set_cons_succ, e1] at hK ⊢
      have HK := Lib.hid hK
      have HG := Lib.hid hG
      clear hK hd e1
      clear hG
      go_simp
      exact HK.out _ _ (Below.refl _ _) HG.out rfl
    · intro vs wx hG hd K hK
      have e2 : vs 2 = .pointer (some ⟨b, 0, none⟩) := hd.get (j := 2) (by simp [depsOf, Region.binds])
      replace hK : ∀ (uu : Value) (w' : World), Below wx.heap.size wx w' → ((Below W2.heap.size W2)) w' → (HV W2.heap.size) (.v (.pointer (some ⟨b, 0, none⟩))) uu w' → K _ w' := hK
      simp only [Act.put, List.setIfInBounds_toArray, List.set_cons_zero, List.set_cons_succ, e2] at hK ⊢
      have HK := Lib.hid hK
      have HG := Lib.hid hG
      clear hK hd e2
      clear hG
      go_simp
      exact HK.out _ _ (Below.refl _ _) HG.out rfl
    · intro vs wx hG hd K hK
      have e3 : vs 3 = .pointer (some ⟨b, 0, none⟩) := hd.get (j := 3) (by simp [depsOf, Region.binds])
      replace hK : ∀ (uu : Value) (w' : World), Below wx.heap.size wx w' → ((Below W2.heap.size W2)) w' → (HV W2.heap.size) (.v (.pointer (some ⟨b, 0, none⟩))) uu w' → K _ w' := hK
      simp only [Act.put, List.setIfInBounds_toArray, List.set_cons_zero, List.set_cons_succ, e3] at hK ⊢
      have HK := Lib.hid hK
      have HG := Lib.hid hG
      clear hK hd e3
      clear hG
      go_simp
      exact HK.out _ _ (Below.refl _ _) HG.out rfl
    · intro vs wx hG hd K hK
      have e4 : vs 4 = .pointer (some ⟨b, 0, none⟩) := hd.get (j := 4) (by simp [depsOf, Region.binds])
      replace hK : ∀ (uu : Value) (w' : World), Below wx.heap.size wx w' → ((Below W2.heap.size W2)) w' → (HV W2.heap.size) (.v (.int .i64 c.e)) uu w' → K _ w' := hK
      simp only [Act.put, List.setIfInBounds_toArray, List.set_cons_zero, List.set_cons_succ, e4] at hK ⊢
      have HK := Lib.hid hK
      have HG := Lib.hid hG
      clear hK hd e4
      have hx5 := HG.out.cell (p := ⟨b, 0, none⟩) HLT.out.1
      rw [HC2.out.x0] at hx5
      have hxb := HG.out.cell (p := ⟨w.heap.size, 0, none⟩) HBZ.out
      rw [HBX.out] at hxb
      clear hG
      go_simp
      exact HK.out _ _ (Below.refl _ _) HG.out rfl
    · intro vs wx hG hd K hK
      have e5 : vs 5 = .int .i64 c.e := hd.get (j := 5) (by simp [depsOf, Region.binds])
      replace hK : ∀ (uu : Value) (w' : World), Below wx.heap.size wx w' → ((Below W2.heap.size W2)) w' → (HV W2.heap.size) (.v (.int .i64 (c.e + 1))) uu w' → K _ w' := hK
      simp only [Act.put, List.setIfInBounds_toArray, List.set_cons_zero, List.set_cons_succ, e5] at hK ⊢
      have HK := Lib.hid hK
      have HG := Lib.hid hG
      clear hK hd e5
      clear hG
      go_simp
      exact HK.out _ _ (Below.refl _ _) HG.out HWR.out
    · intro vs wx hG hd K hK
      replace hK : ∀ (uu : Value) (w' : World), Below wx.heap.size wx w' → ((Below W2.heap.size W2)) w' → (HV W2.heap.size) (.v (.int .i64 p)) uu w' → K _ w' := hK
      simp only [Act.put, List.setIfInBounds_toArray, List.set_cons_zero, List.set_cons_succ] at hK ⊢
      have HK := Lib.hid hK
      have HG := Lib.hid hG
      clear hK hd
      clear hG
      go_simp
      exact HK.out _ _ (Below.refl _ _) HG.out rfl
    · intro vs wx hG hd K hK
      replace hK : ∀ (uu : Value) (w' : World), Below wx.heap.size wx w' → ((Below W2.heap.size W2)) w' → (HV W2.heap.size) (.v (.slice A ms.length mc0)) uu w' → K _ w' := hK
      simp only [Act.put, List.setIfInBounds_toArray, List.set_cons_zero, List.set_cons_succ] at hK ⊢
      have HK := Lib.hid hK
      have HG := Lib.hid hG
      clear hK hd
      have hx5 := HG.out.cell (p := ⟨b, 0, none⟩) HLT.out.1
      rw [HC2.out.x0] at hx5
      have hxb := HG.out.cell (p := ⟨w.heap.size, 0, none⟩) HBZ.out
      rw [HBX.out] at hxb
      clear hG
      go_simp
      exact HK.out _ _ (Below.refl _ _) HG.out rfl
    · intro vs wx hG hd K hK
      have e8 : vs 8 = .slice A ms.length mc0 := hd.get (j := 8) (by simp [depsOf, Region.binds])
      replace hK : ∀ (uu : Value) (w' : World), Below wx.heap.size wx w' → ((Below W2.heap.size W2)) w' → (HV W2.heap.size) (.s ms) uu w' → K _ w' := hK
      simp only [Act.put, List.setIfInBounds_toArray, List.set_cons_zero, List.set_cons_succ, e8] at hK ⊢
      have HK := Lib.hid hK
      have HG := Lib.hid hG
      clear hK hd e8
      clear hG
      go_simp
      go_at_call 33
      refine (clone_ints K0 _ _ _ _ wx rfl (HP.out.below (HB2.out.trans (HG.out.mono HB2.out.size) |>.mono hKw)) (Nat.le_trans hKw (Nat.le_trans HB2.out.size HG.out.size)) hms8).mono ?_
      rintro e w9 ⟨A9, c9, rfl, h9, hb⟩
      exact HK.out _ _ hb (HG.out.trans (hb.mono HG.out.size)) ⟨A9, c9, rfl, h9.more HG.out.size⟩
    · intro vs wx hG hd K hK
      have e6 : vs 6 = .int .i64 (c.e + 1) := hd.get (j := 6) (by simp [depsOf, Region.binds])
      have e7 : vs 7 = .int .i64 p := hd.get (j := 7) (by simp [depsOf, Region.binds])
      obtain ⟨A9, c9, e9, r9⟩ : ∃ A' c', vs 9 = .slice A' ms.length c' ∧ So encI 1 wx W2.heap.size 3 (.slice A' ms.length c') ms := hd.get (j := 9) (by simp [depsOf, Region.binds])
      replace hK : ∀ (uu : Value) (w' : World), Below wx.heap.size wx w' → ((Below W2.heap.size W2)) w' → (HV W2.heap.size) (.b (c.e + 1) p ms) uu w' → K _ w' := hK
      simp only [Act.put, List.setIfInBounds_toArray, List.set_cons_zero, List.set_cons_succ, e6, e7, e9] at hK ⊢
      have HK := Lib.hid hK
      have HG := Lib.hid hG
      clear hK hd e6 e7 e9
      clear hG
      go_simp
      exact HK.out _ _ (Below.refl _ _) HG.out ⟨_, _, rfl, r9⟩
    · intro vs wx hG hd K hK
      have e0 : vs 0 = .pointer (some ⟨b, 0, none⟩) := hd.get (j := 0) (by simp [depsOf, Region.binds])
      replace hK : ∀ (uu : Value) (w' : World), Below wx.heap.size wx w' → ((Below W2.heap.size W2)) w' → (HV W2.heap.size) (.v (.pointer (some ⟨b, 0, none⟩))) uu w' → K _ w' := hK
      simp only [Act.put, List.setIfInBounds_toArray, List.set_cons_zero, List.set_cons_succ, e0] at hK ⊢
      have HK := Lib.hid hK
      have HG := Lib.hid hG
      clear hK hd e0
      clear hG
      go_simp
      exact HK.out _ _ (Below.refl _ _) HG.out rfl
    · intro vs wx hG hd K hK
      have e11 : vs 11 = .pointer (some ⟨b, 0, none⟩) := hd.get (j := 11) (by simp [depsOf, Region.binds])
      replace hK : ∀ (uu : Value) (w' : World), Below wx.heap.size wx w' → ((Below W2.heap.size W2)) w' → (HV W2.heap.size) (.v (.pointer (some ⟨b, 0, none⟩))) uu w' → K _ w' := hK
      simp only [Act.put, List.setIfInBounds_toArray, List.set_cons_zero, List.set_cons_succ, e11] at hK ⊢
      have HK := Lib.hid hK
      have HG := Lib.hid hG
      clear hK hd e11
      clear hG
      go_simp
      exact HK.out _ _ (Below.refl _ _) HG.out rfl
    · intro vs wx hG hd K hK
      obtain ⟨A10, c10, e10, r10⟩ : ∃ A' c', vs 10 = .agg #[.int .i64 (c.e + 1), .int .i64 p, .slice A' ms.length c'] ∧ So encI 1 wx W2.heap.size 3 (.slice A' ms.length c') ms := hd.get (j := 10) (by simp [depsOf, Region.binds])
      have e12 : vs 12 = .pointer (some ⟨b, 0, none⟩) := hd.get (j := 12) (by simp [depsOf, Region.binds])
      replace hK : ∀ (uu : Value) (w' : World), (fun w' => ∃ h' mc', Ct w' b h' g mc' sc ⟨c.e + 1, p, ms, c.sf⟩ ∧ W2.heap.size ≤ h' ∧ Tn (· = b) W2 w') w' → K _ w' := hK
      simp only [Act.put, e10, e12] at hK ⊢
      have HK := Lib.hid hK
      have HG := Lib.hid hG
      clear hK hd e10 e12
      obtain ⟨h9, rfl⟩ := own_some r10 hms0
      have X := HC2.out.below HG.out
      have hh9 := (r10.lt h9 rfl).1
      have hltb := HLT.out
      have y0 := X.x0
      have y1 := X.x1
      have y2 := X.x2
      have yf := X.fr
      have HX := Lib.hid X
      have HR := Lib.hid r10
      have HYF := Lib.hid yf
      clear X r10 hG
      go_simp
      refine HK.out undef _ ⟨h9, c10, ?_, hh9, ?_⟩
      · exact HX.out.setView (HR.out.more (Nat.zero_le _)) (by omega) (by omega)
      · exact (((Tn.ofNew HG.out).thenQ (Tn.setCell _ b 0 _) (fun _ _ h => h)).thenQ (Tn.setCell _ b 1 _) (fun _ _ h => h)).thenQ (Tn.setCell _ b 2 _) (fun _ _ h => h)
  case hend =>
    intro vs W3 hE
    obtain ⟨h9, c9, X3, kh9, T3⟩ := hE
    have hz3 := T3.size
    have hz2 := HB2.out.size
    have hbz : w.heap.size < W2.heap.size := HBZ.out
    have hbx3 : W3.cell? ⟨w.heap.size, 0, none⟩ = some (.slice A ms.length mc0) := T3.cell HBX.out (fun e => by have := HLT0.out.1; have e2 : w.heap.size = b := e; omega)
    have hsr3 := (HP.out.below (HB2.out.mono hKw)).tn T3 (fun hl ad e hbb => HM.out.1 hl ad e hbb)
    have y3 := X3.x3
    have HD := Lib.hid (delgone_any w.heap.size K0 A mc0 ms 0 g c.sf.length sc c.sf W3 X3.sf hbx3 hsr3 (by have := HLT0.out.2.2; omega) (fun hl ad e => HM.out.2 hl ad e))
    have HX3 := Lib.hid X3
    have HT3 := Lib.hid T3
    clear X3 T3 hsr3
    go_wp2_with fail
    go_at_call 35
    refine HD.out.mono ?_
    rintro e W4 ⟨m4, rfl, so4, T4⟩
    have hz4 := T4.size
    obtain rfl := so4.lenI
    have X4 : Ct W4 b h9 g c9 sc ⟨c.e + 1, p, ms, c.sf⟩ ∨ True := .inr trivial
    have q0 := T4.cell HX3.out.x0 (fun e => HX3.out.gb e.symm)
    have q1 := T4.cell HX3.out.x1 (fun e => HX3.out.gb e.symm)
    have q2 := T4.cell HX3.out.x2 (fun e => HX3.out.gb e.symm)
    have q3 := T4.cell HX3.out.x3 (fun e => HX3.out.gb e.symm)
    have qf : ∀ j, W4.frozen? ⟨b, j, none⟩ = false := fun j => (T4.frozen (p := ⟨b, j, none⟩) HX3.out.lt.1 (fun e => HX3.out.gb e.symm)).trans (HX3.out.fr j)
    have qb : b < W4.heap.size := Nat.lt_of_lt_of_le HX3.out.lt.1 hz4
    have HX5 : Hid (Ct (W4.setCell ⟨b, 3, none⟩ (.slice (some ⟨g, 0, none⟩) (c.sf.filter fun n => hasB ms n).length sc)) b h9 g c9 sc ⟨c.e + 1, p, ms, c.sf.filter fun n => hasB ms n⟩) :=
      Lib.hid (Ct.setSafe q0 q1 q2 q3 qf (HX3.out.ms.tn T4 (fun k e => by injection e with e; exact e ▸ HX3.out.hg)) so4 HX3.out.hb HX3.out.gb HX3.out.hg)
    have HT5 : Hid (Tn (fun k => k = b ∨ k = g) W3 (W4.setCell ⟨b, 3, none⟩ (.slice (some ⟨g, 0, none⟩) (c.sf.filter fun n => hasB ms n).length sc))) := Lib.hid ((T4.mono fun k _ e => .inr e).thenQ (Tn.setCell _ b 3 _) fun k _ e => .inl e)
    have qf3 := qf 3
    clear X4 so4 T4 q0 q1 q2 qf
    generalize hsf : (c.sf.filter fun n => hasB ms n) = sf' at *
    have HSF := Lib.hid hsf
    clear hsf
    go_wp2_with fail
    generalize hW5 : W4.setCell ⟨b, 3, none⟩ (.slice (some ⟨g, 0, none⟩) sf'.length sc) = W5 at *
    have hz5 : W5.heap.size = W4.heap.size := by rw [← hW5]; simp
    clear hW5
    go_at_call 16
    refine (now_any HX5.out (by omega)).mono ?_
    rintro e W6 ⟨A6, c6, rfl, so6, b6⟩
    have hz6 := b6.size
    have X6 := HX5.out.below b6
    have TT : Tn (fun k => k = b ∨ k = g) w W6 := ((((Tn.ofNew HB2.out).thenQ HT3.out (fun k _ e => .inl e)).thenQ HT5.out (fun k _ h => h))).thenQ (Tn.ofNew b6) (fun k _ h => h)
    have R5 : ∀ j v, W2.cell? ⟨w.heap.size + 1, j, none⟩ = some v → W6.cell? ⟨w.heap.size + 1, j, none⟩ = some v := fun j v hv => kept b6 (HT5.out.cell (HT3.out.cell hv (fun e => by have := HLT0.out.1; simp only at e; omega)) (fun e => by have := HLT0.out; rcases e with e | e <;> simp only at e <;> omega))
    have r0 := R5 0 _ HRV.out.1
    have r1 := R5 1 _ HRV.out.2.1
    have r2 := R5 2 _ HRV.out.2.2.1
    have rf : ∀ j, W6.frozen? ⟨w.heap.size + 1, j, none⟩ = false := fun j => ((b6.frozen (p := ⟨w.heap.size + 1, j, none⟩) (by show w.heap.size + 1 < _; have := HRV.out.2.2.2.2; omega)).trans ((HT5.out.frozen (p := ⟨w.heap.size + 1, j, none⟩) (by show w.heap.size + 1 < _; have := HRV.out.2.2.2.2; omega) (fun e => by have := HLT0.out; rcases e with e | e <;> simp only at e <;> omega)).trans (HT3.out.frozen (p := ⟨w.heap.size + 1, j, none⟩) (by show w.heap.size + 1 < _; exact HRV.out.2.2.2.2) (fun e => by have := HLT0.out.1; simp only at e; omega)))).trans (HRV.out.2.2.2.1 j)
    have HX6 := Lib.hid X6
    have HTT := Lib.hid TT
    have HS6 := Lib.hid so6
    have hq6 : w.heap.size + 1 < W6.heap.size := by have := HRV.out.2.2.2.2; omega
    have HR5 := Lib.hid R5
    clear X6 TT so6 R5 b6
    go_wp2_with fail
    refine bodyPost_ret (v := .tuple #[.agg #[.int .i64 (c.e + 1), .int .i64 p, .slice A6 ms.length c6], .int .i64 0]) (by simp [results, Try.results10, go_sem, r0, r1, r2]) rfl ⟨h9, c9, A6, c6, W5.heap.size, rfl, ?_, by omega, by omega, by have := HX5.out.lt.2.1; omega, ?_, ?_⟩
    · rw [HSF.out]
      exact HX6.out.tn (((Tn.setCell _ (w.heap.size + 1) 0 _).then (Tn.setCell _ (w.heap.size + 1) 1 _)).then (Tn.setCell _ (w.heap.size + 1) 2 _)) (by have := HLT0.out; omega) (by have := HRV.out.2.2.2.2; omega) (by have := HLT0.out; omega)
    · exact HS6.out.tn (((Tn.setCell _ (w.heap.size + 1) 0 _).then (Tn.setCell _ (w.heap.size + 1) 1 _)).then (Tn.setCell _ (w.heap.size + 1) 2 _)) (fun k e h => by have := (HS6.out.lt k e).1; have := HRV.out.2.2.2.2; omega)
    · refine (((HTT.out.thenNew (Tn.setCell _ (w.heap.size + 1) 0 _) ?_).thenNew (Tn.setCell _ (w.heap.size + 1) 1 _) ?_).thenNew (Tn.setCell _ (w.heap.size + 1) 2 _) ?_)
      all_goals (intro k hk e; omega)
end
end Go.Proofs.Ytcgkbpjfbahleaa
namespace Go.Proofs.Ytcgkbpjfbahleaa
open Go.RowKit

def Ok0 (w : World) (e : Ending) (w' : World) : Prop := e = .returned (.bool true) ∧ Below w.heap.size w w'
end Go.Proofs.Ytcgkbpjfbahleaa
namespace Go.Proofs.Ytcgkbpjfbahleaa
open Go.RowKit Go.BigFrame

set_option maxHeartbeats 800000 in
theorem change_nil (p : Int) (A : Option Addr) (n cp : Nat) (w : World) : Calls Try.prog 10 #[.pointer none, .int .i64 p, .slice A n cp] w (ChNo w 2) := by
  go_enter Try.func10, Try.ntmps10
  go_wp2_with fail
  exact bodyPost_ret (v := .tuple #[.agg #[.int .i64 0, .int .i64 0, .slice none 0 0], .int .i64 2]) (by simp [results, Try.results10, go_sem]) rfl ⟨rfl, by go_grown⟩
theorem active_nil (n : Int) (w : World) : Calls Try.prog 15 #[.pointer none, .int .i64 n] w fun e w' => e = .returned (.int .i64 2) ∧ w = w' := by
  go_enter Try.func15, Try.ntmps15
  go_wp2_with fail
  go_ret
  exact ⟨rfl, rfl⟩
theorem now_nil (w : World) : Calls Try.prog 16 #[.pointer none] w fun e w' => e = .returned (.agg #[.int .i64 0, .int .i64 0, .slice none 0 0]) ∧ Below w.heap.size w w' := by
  go_enter Try.func16, Try.ntmps16
  go_wp2_with fail
  exact bodyPost_ret (v := .agg #[.int .i64 0, .int .i64 0, .slice none 0 0]) (by simp [results, Try.results16, go_sem]) rfl ⟨rfl, by go_grown⟩
theorem safe_nil (w : World) : Calls Try.prog 18 #[.pointer none] w fun e w' => e = .returned (.slice none 0 0) ∧ w = w' := by
  go_enter Try.func18, Try.ntmps18
  go_wp2_with fail
  go_ret
  exact ⟨rfl, rfl⟩

set_option maxRecDepth 100000 in
set_option maxHeartbeats 1600000 in
theorem awake_any (w : World) : Calls Try.prog 9 #[] w (Ok0 w) := by
  have s0 : ∀ W, So encI 1 (World.alloc W (.cells #[.int .i64 0, .int .i64 1, .int .i64 2] 3)) W.heap.size 3 (.slice (some ⟨W.heap.size, 0, none⟩) 3 3) [0, 1, 2] := fun W => lit_so W _ _ _ rfl (Nat.le_refl _) _ 3 _ encI_len rfl rfl (by decide)
  have s1 : ∀ W H, W.heap.size = H → So encI 1 (World.alloc W (.cells #[.int .i64 1, .int .i64 3] 3)) H 3 (.slice (some ⟨H, 0, none⟩) 2 2) [1, 3] := fun W H hH => lit_so W _ _ H hH (Nat.le_refl _) _ 2 _ encI_len rfl rfl (by decide)
  have H0 := Lib.hid s0
  have H1 := Lib.hid s1
  clear s0 s1
  go_enter Try.func9, Try.ntmps9
  go_wp2_with fail
  go_at_call 7
  refine (new_ok_any _ ⟨w.heap.size, 0, none⟩ 3 [0, 1, 2] 0 _ ((H0.out w).sr encI_len).1 (Nat.le_refl _) (by decide) rfl).mono ?_
  rintro e w1 ⟨b, rfl, h, g, mc, sc, x1, k1, b1⟩
  have HB1 : Hid (Below w.heap.size w w1) := Lib.hid (((Below.refl _ _).alloc (Nat.le_refl _) _).trans (b1.mono (by simp)))
  have HX := Lib.hid x1
  have HK := Lib.hid k1
  have hlt1 := x1.lt
  have hz1 := HB1.out.size
  clear x1 k1 b1
  go_wp2_with fail
  go_at_call 10
  refine (change_yes (HX.out.below ((Below.refl _ _).alloc (Nat.le_refl _) _)) ((H1.out w1 w1.heap.size rfl).sr encI_len).1 (Nat.le_refl _) (fun _ ad e => by cases e; exact ⟨by show w1.heap.size ≠ b; omega, by show w1.heap.size ≠ g; omega⟩) (by decide) (by decide) (by decide) (by decide)).mono ?_
  rintro e w2 ⟨h2, mc2, A2, c2, K2, rfl, x2, kh2, kk2, hk2, so2, t2⟩
  have HB2 : Hid (Below w.heap.size w w2) := Lib.hid ((HB1.out.alloc HB1.out.size _).trans (t2.below (Nat.le_trans HB1.out.size (by simp)) (fun k _ e => by have h9 := HK.out; simp at h9; rcases e with rfl | rfl <;> omega)))
  have hf : ([0, 1, 2] : List Int).filter (fun n => hasB [1, 3] n) = [1] := by decide
  have HX2 : Hid (Ct w2 b h2 g mc2 sc ⟨2, 1, [1, 3], [1]⟩) := Lib.hid (by have x9 := x2; rw [hf] at x9; exact x9)
  clear hf
  have hlt2 := x2.lt
  have hz2 := HB2.out.size
  clear x2 so2 t2
  go_wp2_with fail
  go_at_call 10
  refine (change_no (r := 111) (c' := ⟨2, 1, [1, 3], [1]⟩) (p := 3) (HX2.out.below (by go_grown)) ((H1.out (w2.alloc _) (w2.heap.size + 1) (by simp)).sr encI_len).1 (Nat.le_refl _) (by unfold chV; rw [if_neg (by decide), if_pos (by decide)]) (by decide)).mono ?_
  rintro e w4 ⟨rfl, b4⟩
  have HB4 : Hid (Below w2.heap.size w2 w4) := Lib.hid ((show Below w2.heap.size w2 _ by go_grown).trans (b4.mono (by simp; omega)))
  have y4 := kept b4 (p := ⟨w2.heap.size, 0, none⟩) (v := .int .i64 2) (by simp [go_sem])
  have hz4 : w2.heap.size < w4.heap.size := by have := b4.size; simp at this; omega
  have HBE : Hid (Below w.heap.size w w4) := Lib.hid (HB2.out.trans (HB4.out.mono hz2))
  clear b4
  go_wp2_with fail
  go_ret
  exact ⟨rfl, (HBE.out.alloc HBE.out.size _)⟩
end Go.Proofs.Ytcgkbpjfbahleaa
namespace Go.Proofs.Ytcgkbpjfbahleaa
open Go.RowKit Go.BigFrame

set_option maxHeartbeats 800000 in
theorem rhas_any (K : Nat) (A : Option Addr) (n cap : Nat) (l : List Int) (v : Int) (w : World) (hn : l.length = n) (hp : Sr encI 1 w K A cap l) :
    Calls Try.prog 21 #[.slice A n cap, .int .i64 v] w fun e w' => e = .returned (.bool (hasB l v)) ∧ w = w' := by
  subst hn
  have hle := hp.le
  have hmax := hp.max
  unfold maxLen at hmax
  have HP := Lib.hid hp
  clear hp
  go_enter Try.func21, Try.ntmps21
  go_wp2
  go_loop [5] (fun iv => ∃ (k : Nat), k ≤ l.length ∧ iv = .int .i64 k ∧ Hid (v ∉ l.take k)) (fun i => l.length - (intOf i).toNat)
  case atStart => exact ⟨0, Nat.zero_le _, rfl, Lib.hid (by simp)⟩
  case round =>
    obtain ⟨k, hk, rfl, HR⟩ := hrel
    by_cases hlt : k < l.length
    · obtain ⟨ad, rfl, hadK, hc⟩ := HP.out.int hlt
      have HS := Lib.hid (take_snocI l k hlt)
      have HM : Hid (l[k] ∈ l) := Lib.hid (List.getElem_mem hlt)
      generalize l[k] = x at *
      by_cases c1 : x = v
      · subst c1
        have HZ : Hid (hasB l x = true) := Lib.hid (by unfold hasB; simp [HM.out])
        go_wp2
        go_ret
        exact ⟨by rw [HZ.out]; rfl, rfl⟩
      · have d1 : (x == v) = false := by simpa using c1
        have HZ : Hid (v ∉ l.take (k + 1)) := Lib.hid (by rw [HS.out]; simp only [List.mem_append, List.mem_singleton, not_or]; exact ⟨HR.out, fun e => c1 e.symm⟩)
        clear c1
        go_wp2
        go_round
        case rel => exact ⟨k + 1, by omega, by go_num, Lib.hid HZ.out⟩
        case measure => simp [intOf]; omega
    · have hkl : k = l.length := by omega
      subst hkl
      have HZ : Hid (hasB l v = false) := Lib.hid (by
        have := HR.out
        rw [List.take_length] at this
        unfold hasB; simp [this])
      go_wp2
      go_ret
      exact ⟨by rw [HZ.out]; rfl, rfl⟩
end Go.Proofs.Ytcgkbpjfbahleaa
namespace Go.Proofs.Ytcgkbpjfbahleaa
open Go.RowKit Go.BigFrame

theorem below_dN {B : Nat} {a w : World} (h : Below B a w) (n : Nat) : Below B a (w.drewN n) := ⟨h.os, h.tape, h.output, h.size, h.block⟩
theorem sr_dN {k K cap : Nat} {α : Type} {enc : α → List Value} {A : Option Addr} {l : List α} {w : World} (h : Sr enc k w K A cap l) (n : Nat) : Sr enc k (w.drewN n) K A cap l := h.drewN n
/-- A view's box, and its members, behind what only drew or made memory. -/
structure Rb (w wr : World) (b : Nat) (e p : Int) (A : Option Addr) (cap : Nat) (l : List Int) : Prop where
  x0 : wr.cell? ⟨b, 0, none⟩ = some (.int .i64 e)
  x1 : wr.cell? ⟨b, 1, none⟩ = some (.int .i64 p)
  x2 : wr.cell? ⟨b, 2, none⟩ = some (.slice A l.length cap)
  sr : Sr encI 1 wr w.heap.size A cap l
  bl : Below w.heap.size w wr
theorem Rb.dN {w wr : World} {b : Nat} {e p : Int} {A : Option Addr} {cap : Nat} {l : List Int} (h : Rb w wr b e p A cap l) (n : Nat) : Rb w (wr.drewN n) b e p A cap l := ⟨h.x0, h.x1, h.x2, h.sr.drewN n, below_dN h.bl n⟩
set_option maxRecDepth 100000 in
set_option maxHeartbeats 3200000 in
theorem rright_any (e p : Int) (K : Nat) (A : Option Addr) (n cap : Nat) (l : List Int) (w : World) (hn : l.length = n) (hp : Sr encI 1 w K A cap l) (hK : K ≤ w.heap.size) :
    Calls Try.prog 20 #[.agg #[.int .i64 e, .int .i64 p, .slice A n cap]] w fun r w' => r = .returned (.bool (rightV e p l)) ∧ Below w.heap.size w w' := by
  subst hn
  have hle := hp.le
  have hmax := hp.max
  unfold maxLen at hmax
  have HB0 : Hid (Rb w (w.alloc (.cells #[.int .i64 e, .int .i64 p, .slice A l.length cap] 29)) w.heap.size e p A cap l) := Lib.hid ⟨by simp [go_sem], by simp [go_sem], by simp [go_sem], (hp.more hK).alloc (Nat.le_refl _) _, (Below.refl _ _).alloc (Nat.le_refl _) _⟩
  clear hp hK
  go_enter Try.func20, Try.ntmps20
  go_wp2_with fail
  go_loopw [3] (fun iv wr => ∃ k : Nat, k ≤ l.length ∧ iv = .int .i64 (k : Int) ∧ Hid (riseB (-1) (l.take k) = true) ∧ Rb w wr w.heap.size e p A cap l) (fun iv _ => l.length - (intOf iv).toNat)
  case atStart => exact ⟨0, Nat.zero_le _, rfl, Lib.hid rfl, HB0.out⟩
  case round =>
    obtain ⟨k, hk, rfl, HR, hb⟩ := hrel
    rename World => W0
    have x0 := hb.x0
    have x1 := hb.x1
    have x2 := hb.x2
    have hz := World.block_lt_of_cell? W0 _ x0
    replace hz : w.heap.size < W0.heap.size := hz
    have HB := Lib.hid hb
    clear hb
    have hk0 : (0 : Int) ≤ (k : Int) := by omega
    by_cases hlt : k < l.length
    · obtain ⟨ad, rfl, hadK, hc⟩ := HB.out.sr.int hlt
      have hlI : (k : Int) < (l.length : Int) := by omega
      have HS := Lib.hid (take_snocI l k hlt)
      have hprev : 0 < k → W0.cell? (ad.add (k - 1)) = some (.int .i64 (l.getD (k - 1) 0)) := by
        intro h0
        obtain ⟨ad', e', _, h3⟩ := HB.out.sr.int (show k - 1 < l.length by omega)
        cases e'
        rw [h3, List.getD_eq_getElem?_getD, List.getElem?_eq_getElem (by omega)]; rfl
      have HPV : Hid ((l.take k).getLastD (-1) = if k = 0 then -1 else l.getD (k - 1) 0) := Lib.hid (by
        by_cases h0 : k = 0
        · subst h0; rfl
        · rw [if_neg h0, List.getLastD_eq_getLast?, List.getLast?_eq_getElem?, List.length_take, Nat.min_eq_left hk, List.getElem?_take, if_pos (by omega), List.getD_eq_getElem?_getD, List.getElem?_eq_getElem (by omega)]; rfl)
      have HF : Hid (∀ m, riseB (-1) (l.take m) = false → rightV e p l = false) := Lib.hid (fun m h => by
        have : riseB (-1) l = false := by
          cases hr : riseB (-1) l with
          | false => rfl
          | true => rw [riseB_take hr m] at h; cases h
        unfold rightV memsB; rw [this]; simp)
      have HX : Hid (riseB (-1) (l.take (k + 1)) = (decide ((if k = 0 then -1 else l.getD (k - 1) 0) < l[k]) && decide (l[k] < 8))) := Lib.hid (by rw [HS.out, riseB_snoc, HR.out, HPV.out]; simp)
      have HALL : Hid (0 < k → 0 ≤ l.getD (k - 1) 0) := Lib.hid (fun h0 => by
        have h1 := riseB_all HR.out (l.getD (k - 1) 0) (by
          rw [List.getD_eq_getElem?_getD, List.getElem?_eq_getElem (by omega)]
          exact List.mem_take_iff_getElem.2 ⟨k - 1, by omega, rfl⟩)
        omega)
      generalize l[k] = x at *
      generalize l.getD (k - 1) 0 = y at *
      by_cases c1 : x < 0
      · have HZ : Hid (rightV e p l = false) := Lib.hid (HF.out (k + 1) (by
          rw [HX.out]
          by_cases h0 : k = 0
          · rw [if_pos h0]; simp; omega
          · rw [if_neg h0]; have := HALL.out (by omega); simp; omega))
        have d1 : decide (x < 0) = true := by simpa using c1
        clear c1 hprev
        go_wp2_with fail
        go_big_quiet (fail)
        go_wp2
        go_ret
        exact ⟨ret_bool HZ.out.symm, below_dN HB.out.bl _⟩
      have d1 : decide (x < 0) = false := by simpa using c1
      by_cases c2 : 8 ≤ x
      · have HZ : Hid (rightV e p l = false) := Lib.hid (HF.out (k + 1) (by rw [HX.out]; simp; omega))
        have d2 : decide (8 ≤ x) = true := by simpa using c2
        clear c1 c2 hprev
        go_wp2_with fail
        go_big_quiet (fail)
        go_wp2
        go_ret
        exact ⟨ret_bool HZ.out.symm, below_dN HB.out.bl _⟩
      have d2 : decide (8 ≤ x) = false := by simpa using c2
      by_cases h0 : k = 0
      · have HN : Hid (riseB (-1) (l.take (k + 1)) = true) := Lib.hid (by rw [HX.out, if_pos h0]; simp; omega)
        have hg0 : decide (0 < k) = false := by simp; omega
        have hg1 : decide ((0 : Int) < (k : Int)) = false := by simp; omega
        have HK0 := Lib.hid h0
        clear h0 c1 c2 hprev
        go_wp2_with fail
        go_big_quiet (fail)
        go_wp2
        go_roundw
        case rel => exact ⟨k + 1, by omega, by go_num, HN, HB.out.dN _⟩
        case measure => simp [intOf]; omega
      · have hg0 : decide (0 < k) = true := by simp; omega
        have hg1 : decide ((0 : Int) < (k : Int)) = true := by simp; omega
        have h3 := hprev (by omega)
        have i0 : (0 : Int) ≤ (k : Int) - 1 := by omega
        have i1 : (k : Int) - 1 < l.length := by omega
        have iw : IntKind.i64.wrap ((k : Int) - 1) = (k : Int) - 1 := IntWalk.i64_in _ (by omega)
        have it : ((k : Int) - 1).toNat = k - 1 := by omega
        by_cases c3 : x ≤ y
        · have HZ : Hid (rightV e p l = false) := Lib.hid (HF.out (k + 1) (by rw [HX.out, if_neg h0]; simp; omega))
          have d3 : decide (x ≤ y) = true := by simpa using c3
          clear c1 c2 c3 hprev
          go_wp2_with fail
          go_big_quiet (fail)
          clear iw it
          go_wp2
          go_ret
          exact ⟨ret_bool HZ.out.symm, below_dN HB.out.bl _⟩
        · have HN : Hid (riseB (-1) (l.take (k + 1)) = true) := Lib.hid (by rw [HX.out, if_neg h0]; simp; omega)
          have d3 : decide (x ≤ y) = false := by simpa using c3
          clear c1 c2 c3 hprev
          go_wp2_with fail
          go_big_quiet (fail)
          clear iw it
          go_wp2
          go_roundw
          case rel => exact ⟨k + 1, by omega, by go_num, HN, HB.out.dN _⟩
          case measure => simp [intOf]; omega
    · have hkl : k = l.length := by omega
      have HM : Hid (memsB l = decide (0 < l.length)) := Lib.hid (by
        have := HR.out
        rw [hkl, List.take_length] at this
        unfold memsB; rw [this]; rfl)
      have HQ : ∀ (b1 b2 b3 : Bool), decide (1 ≤ e) = b1 → decide (e ≤ 4611686018427387904) = b2 → hasB l p = b3 → Hid (rightV e p l = (b1 && b2 && b3)) := by
        rintro b1 b2 b3 rfl rfl rfl
        refine Lib.hid ?_
        unfold rightV
        rw [HM.out]
        cases l with
        | nil => simp [hasB]
        | cons m l => simp
      have HH := Lib.hid (rhas_any w.heap.size A l.length cap l p W0 rfl HB.out.sr)
      have HKL := Lib.hid hkl
      clear hkl
      cases h1 : decide (1 ≤ e) with
      | false =>
        have HZ := Lib.hid (HQ _ _ _ h1 rfl rfl).out
        clear HQ
        go_wp2_with fail
        go_ret
        exact ⟨ret_bool (by rw [HZ.out]; rfl), HB.out.bl⟩
      | true =>
        cases h2 : decide (e ≤ 4611686018427387904) with
        | false =>
          have HZ := Lib.hid (HQ _ _ _ h1 h2 rfl).out
          clear HQ
          go_wp2_with fail
          go_ret
          exact ⟨ret_bool (by rw [HZ.out]; rfl), HB.out.bl⟩
        | true =>
          have HZ := Lib.hid (HQ _ _ _ h1 h2 rfl).out
          clear HQ
          go_wp2_with (go_at_call 21; refine HH.out.mono ?_; rintro r w9 ⟨rfl, rfl⟩)
          go_ret
          exact ⟨ret_bool (by rw [HZ.out]; rfl), HB.out.bl⟩
set_option maxRecDepth 100000 in
set_option maxHeartbeats 1600000 in
theorem samelist_any {K K' : Nat} {A B : Option Addr} {n cap cap' : Nat} {l : List Int} {w : World} (hn : l.length = n) (hp : Sr encI 1 w K A cap l) (hq : Sr encI 1 w K' B cap' l) :
    Calls Try.prog 17 #[.slice A n cap, .slice B n cap'] w fun r w' => r = .returned (.bool true) ∧ Below w.heap.size w w' := by
  subst hn
  have hle := hp.le
  have hmax := hp.max
  unfold maxLen at hmax
  have hle2 := hq.le
  have hmax2 := hq.max
  unfold maxLen at hmax2
  have HP := Lib.hid hp
  have HQ := Lib.hid hq
  clear hp hq
  go_enter Try.func17, Try.ntmps17
  go_wp2_with fail
  go_loopw [5] (fun iv wr => ∃ k : Nat, k ≤ l.length ∧ iv = .int .i64 (k : Int) ∧ Below w.heap.size w wr ∧ Sr encI 1 wr K A cap l ∧ Sr encI 1 wr K' B cap' l) (fun iv _ => l.length - (intOf iv).toNat)
  case atStart => exact ⟨0, Nat.zero_le _, rfl, Below.refl _ _, HP.out, HQ.out⟩
  case round =>
    obtain ⟨k, hk, rfl, hb, hp, hq⟩ := hrel
    rename World => W0
    have HB := Lib.hid hb
    have HP' := Lib.hid hp
    have HQ' := Lib.hid hq
    clear hb hp hq
    by_cases hlt : k < l.length
    · obtain ⟨ad, rfl, _, hc⟩ := HP'.out.int hlt
      obtain ⟨ad', rfl, _, hc'⟩ := HQ'.out.int hlt
      have hlI : (k : Int) < (l.length : Int) := by omega
      have hk0 : (0 : Int) ≤ (k : Int) := by omega
      generalize l[k] = x at *
      have dx : (x != x) = false := by simp
      go_wp2_with fail
      go_quiet (fail)
      go_wp2
      go_roundw
      case rel => exact ⟨k + 1, by omega, by go_num, below_dN HB.out _, HP'.out.drewN _, HQ'.out.drewN _⟩
      case measure => simp [intOf]; omega
    · obtain rfl : k = l.length := by omega
      go_wp2
      go_ret
      exact ⟨rfl, HB.out⟩
set_option maxHeartbeats 1600000 in
theorem same_any (e p : Int) {K K' : Nat} {A B : Option Addr} {cap cap' : Nat} {l : List Int} {w : World} (hp : Sr encI 1 w K A cap l) (hq : Sr encI 1 w K' B cap' l) (hK : K ≤ w.heap.size) (hK' : K' ≤ w.heap.size) :
    Calls Try.prog 12 #[.agg #[.int .i64 e, .int .i64 p, .slice A l.length cap], .agg #[.int .i64 e, .int .i64 p, .slice B l.length cap']] w fun r w' => r = .returned (.bool true) ∧ Below w.heap.size w w' := by
  have HS := Lib.hid (fun W (h : Sr encI 1 W K A cap l) (h' : Sr encI 1 W K' B cap' l) => samelist_any rfl h h')
  have HP := Lib.hid hp
  have HQ := Lib.hid hq
  clear hp hq
  have de : (e == e) = true := by simp
  have dp : (p == p) = true := by simp
  go_enter Try.func12, Try.ntmps12
  go_wp2_with fail
  go_at_call 17
  refine (HS.out _ (HP.out.below (((Below.refl _ _).alloc hK _).alloc (by simp; omega) _)) (HQ.out.below (((Below.refl _ _).alloc hK' _).alloc (by simp; omega) _))).mono ?_
  rintro r w1 ⟨rfl, b1⟩
  have HB : Hid (Below w.heap.size w w1) := Lib.hid ((show Below w.heap.size w _ by go_grown).trans (b1.mono (by simp; omega)))
  clear b1
  go_wp2_with fail
  go_ret
  exact ⟨rfl, HB.out⟩
set_option maxHeartbeats 800000 in
theorem from_any (e p : Int) (A : Option Addr) (n cap : Nat) (w : World) :
    Calls Try.prog 13 #[.agg #[.int .i64 e, .int .i64 p, .slice A n cap]] w fun r w' => r = .returned (.agg #[.int .i64 e, .int .i64 p, .slice A n cap]) ∧ Below w.heap.size w w' := by
  go_enter Try.func13, Try.ntmps13
  go_wp2_with fail
  exact bodyPost_ret (v := .agg #[.int .i64 e, .int .i64 p, .slice A n cap]) (by simp [results, Try.results13, go_sem]) rfl ⟨rfl, by go_grown⟩
def RNewP (A : Option Addr) (n cap : Nat) (l : List Int) (w : World) (r : Ending) (w' : World) : Prop :=
  r = .returned (if memsB l = true then .tuple #[.agg #[.int .i64 1, .int .i64 (l.headD 0), .slice A n cap, .slice A n cap], .int .i64 0] else .tuple #[.agg #[.int .i64 0, .int .i64 0, .slice none 0 0, .slice none 0 0], .int .i64 1]) ∧ Below w.heap.size w w'
set_option maxRecDepth 100000 in
set_option maxHeartbeats 1600000 in
theorem rnew_any (K : Nat) (A : Option Addr) (n cap : Nat) (l : List Int) (w : World) (hn : l.length = n) (hp : Sr encI 1 w K A cap l) (hK : K ≤ w.heap.size) :
    Calls Try.prog 8 #[.slice A n cap] w (RNewP A n cap l w) := by
  subst hn
  have hle := hp.le
  have hmax := hp.max
  unfold maxLen at hmax
  cases l with
  | nil =>
    go_enter Try.func8, Try.ntmps8
    go_wp2_with fail
    exact bodyPost_ret (v := .tuple #[.agg #[.int .i64 0, .int .i64 0, .slice none 0 0, .slice none 0 0], .int .i64 1]) (by simp [results, Try.results8, go_sem]) rfl ⟨rfl, by go_grown⟩
  | cons m l =>
    obtain ⟨ad, rfl, hadK, hc⟩ := hp.int (i := 0) (by simp)
    rw [el_add_zero] at hc
    simp only [List.getElem_cons_zero] at hc
    have HR := Lib.hid (fun W (h : Sr encI 1 W K (some ad) cap (m :: l)) (hW : K ≤ W.heap.size) => rright_any 1 m K (some ad) (m :: l).length cap (m :: l) W rfl h hW)
    have HM : Hid (rightV 1 m (m :: l) = memsB (m :: l)) := Lib.hid (by unfold rightV hasB; simp)
    have HP := Lib.hid hp
    have hl0 : ((m :: l).length : Int) ≠ 0 := by simp; omega
    have hlb : (((m :: l).length : Int) == 0) = false := by simpa using hl0
    have hlI : (0 : Int) < ((m :: l).length : Int) := by simp
    have hlN : 0 < (m :: l).length := by simp
    have hadw : ad.block < w.heap.size := by omega
    have hH : Hid ((m :: l).headD 0 = m) := Lib.hid rfl
    clear hp hl0
    generalize (m :: l) = L at *
    cases hm : memsB L with
    | false =>
      rw [HM.out, hm] at HR
      have HMM := Lib.hid hm
      clear hm
      go_enter Try.func8, Try.ntmps8
      go_wp2_with fail
      go_at_call 20
      refine (HR.out _ (HP.out.below ((show Below w.heap.size w _ by go_grown).mono hK)) (by simp; omega)).mono ?_
      rintro r w1 ⟨rfl, b1⟩
      have z0 := kept b1 (p := ⟨w.heap.size, 0, none⟩) (v := .int .i64 0) (by simp [go_sem])
      have z1 := kept b1 (p := ⟨w.heap.size, 1, none⟩) (v := .int .i64 0) (by simp [go_sem])
      have z2 := kept b1 (p := ⟨w.heap.size, 2, none⟩) (v := .slice none 0 0) (by simp [go_sem])
      have z3 := kept b1 (p := ⟨w.heap.size, 3, none⟩) (v := .slice none 0 0) (by simp [go_sem])
      have hz : w.heap.size < w1.heap.size := by have := b1.size; simp at this; omega
      have f0 : ∀ j, w1.frozen? ⟨w.heap.size, j, none⟩ = false := fun j => (b1.frozen (p := ⟨w.heap.size, j, none⟩) (by show w.heap.size < _; simp; omega)).trans (by simp [go_sem])
      have HB : Hid (Below w.heap.size w w1) := Lib.hid ((show Below w.heap.size w _ by go_grown).trans (b1.mono (by simp; omega)))
      clear b1
      go_wp2_with fail
      refine bodyPost_ret (v := .tuple #[.agg #[.int .i64 0, .int .i64 0, .slice none 0 0, .slice none 0 0], .int .i64 1]) (by simp [results, Try.results8, go_sem, z0, z1, z2, z3]) rfl ⟨by rw [if_neg (by rw [HMM.out]; decide)], ?_⟩
      exact (((HB.out.setCell (p := ⟨w.heap.size, 0, none⟩) (Nat.le_refl _) _).setCell (p := ⟨w.heap.size, 1, none⟩) (Nat.le_refl _) _).setCell (p := ⟨w.heap.size, 2, none⟩) (Nat.le_refl _) _).setCell (p := ⟨w.heap.size, 3, none⟩) (Nat.le_refl _) _
    | true =>
      rw [HM.out, hm] at HR
      have HMM := Lib.hid hm
      clear hm
      go_enter Try.func8, Try.ntmps8
      go_wp2_with fail
      go_at_call 20
      refine (HR.out _ (HP.out.below ((show Below w.heap.size w _ by go_grown).mono hK)) (by simp; omega)).mono ?_
      rintro r w1 ⟨rfl, b1⟩
      have z0 := kept b1 (p := ⟨w.heap.size, 0, none⟩) (v := .int .i64 0) (by simp [go_sem])
      have z1 := kept b1 (p := ⟨w.heap.size, 1, none⟩) (v := .int .i64 0) (by simp [go_sem])
      have z2 := kept b1 (p := ⟨w.heap.size, 2, none⟩) (v := .slice none 0 0) (by simp [go_sem])
      have z3 := kept b1 (p := ⟨w.heap.size, 3, none⟩) (v := .slice none 0 0) (by simp [go_sem])
      have y0 := kept b1 (p := ⟨w.heap.size + 1, 0, none⟩) (v := .int .i64 1) (by simp [go_sem])
      have y1 := kept b1 (p := ⟨w.heap.size + 1, 1, none⟩) (v := .int .i64 m) (by simp [go_sem])
      have y2 := kept b1 (p := ⟨w.heap.size + 1, 2, none⟩) (v := .slice (some ad) L.length cap) (by simp [go_sem])
      have hz : w.heap.size + 1 < w1.heap.size := by have := b1.size; simp at this; omega
      have f0 : ∀ j, w1.frozen? ⟨w.heap.size, j, none⟩ = false := fun j => (b1.frozen (p := ⟨w.heap.size, j, none⟩) (by show w.heap.size < _; simp; omega)).trans (by simp [go_sem])
      have HB : Hid (Below w.heap.size w w1) := Lib.hid ((show Below w.heap.size w _ by go_grown).trans (b1.mono (by simp; omega)))
      clear b1
      go_wp2_with fail
      refine bodyPost_ret (v := .tuple #[.agg #[.int .i64 1, .int .i64 m, .slice (some ad) L.length cap, .slice (some ad) L.length cap], .int .i64 0]) (by simp [results, Try.results8, go_sem, z0, z1, z2, z3]) rfl ⟨by rw [hH.out, if_pos HMM.out], ?_⟩
      exact (((HB.out.setCell (p := ⟨w.heap.size, 0, none⟩) (Nat.le_refl _) _).setCell (p := ⟨w.heap.size, 1, none⟩) (Nat.le_refl _) _).setCell (p := ⟨w.heap.size, 2, none⟩) (Nat.le_refl _) _).setCell (p := ⟨w.heap.size, 3, none⟩) (Nat.le_refl _) _
end Go.Proofs.Ytcgkbpjfbahleaa
