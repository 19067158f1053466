/- slices.DeleteFunc over ints, with the closure of Change: who is no member goes. -/
import Derived.Test.YtpnhdocimjkakaaPn8
import Derived.Test.YtpnhdocimjkakaaPn3
namespace Go.Proofs.Ytpnhdocimjkakaa
open Go.RowKit Go.BigFrame

theorem eq_i64_sizeOf : ∀ w, (sizeOf (Try.prog.elem 29)).run Try.prog w = .ok 1 w := fun w => by kernel_rfl
theorem und_isl : Try.prog.underlying 29 = some (.slice (Try.prog.elem 29)) := by kernel_rfl
theorem So.to {w : World} {K : Nat} {T : TypeId} {g n cap : Nat} {l : List Int} (h : So encI 1 w K T (.slice (some ⟨g, 0, none⟩) n cap) l) {i : Nat} (hi : i ≤ n) : So encI 1 w K T (.slice (some ⟨g, 0, none⟩) i cap) (l.take i) := by
  obtain ⟨A', c', e⟩ := h.form
  injection e with _ e _
  rcases h.2 with ⟨he, _⟩ | ⟨g', cap', cur, he, hb, hg, hn, hc, hs, ht⟩
  · cases he
  · injection he with e1 e2 e3
    injection e1 with e1
    injection e1 with e1
    subst e1 e3
    have hl : (l.take i).length = i := by rw [List.length_take]; omega
    have hf : ∀ l : List Int, l.flatMap encI = l.map (fun n => Value.int .i64 n) := fun l => by
      induction l with
      | nil => rfl
      | cons x l ih => rw [List.flatMap_cons, ih]; rfl
    refine ⟨by rw [hf, List.length_map]; omega, .inr ⟨g, cap, cur, by rw [hl], hb, hg, by omega, hc, hs, ?_⟩⟩
    rw [hf, List.map_take, ← hf, ← ht, List.take_take, hl]
    congr 1; omega
theorem So.zeros {K : Nat} {T : TypeId} {g n cap : Nat} : ∀ (m i : Nat) {w : World} {l : List Int}, So encI 1 w K T (.slice (some ⟨g, 0, none⟩) n cap) l → i + m ≤ n → ∃ l2, So encI 1 (w.setCells g i (List.replicate m (.int .i64 0))) K T (.slice (some ⟨g, 0, none⟩) n cap) l2 ∧ ∀ j, j ≤ i → l2.take j = l.take j
  | 0, i, w, l, h, _ => ⟨l, h, fun _ _ => rfl⟩
  | m + 1, i, w, l, h, hi => by
    obtain ⟨A', c', e⟩ := h.form
    injection e with _ e _
    have hx : l[i]? = some l[i] := List.getElem?_eq_getElem (by omega)
    have h1 := h.set1 encI_len (i := i) (j := 0) (by decide) (u := .int .i64 0) (y := 0) hx rfl
    rw [Nat.mul_one, Nat.add_zero] at h1
    obtain ⟨l2, h2, h3⟩ := So.zeros m (i + 1) h1 (by omega)
    exact ⟨l2, h2, fun j hj => by rw [h3 j (by omega), List.take_set_of_le (by omega)]⟩
theorem Tn.setCells (g : Nat) : ∀ (vs : List Value) (o : Nat) (w : World), Tn (· = g) w (w.setCells g o vs)
  | [], _, w => Tn.refl _ w
  | v :: vs, o, w => (Tn.setCell w g o v).then (Tn.setCells g vs (o + 1) (w.setCell ⟨g, o, none⟩ v))
theorem So.cellI {w : World} {K : Nat} {T : TypeId} {g n cap : Nat} {l : List Int} (h : So encI 1 w K T (.slice (some ⟨g, 0, none⟩) n cap) l) {i : Nat} (hi : i < l.length) : w.cell? ⟨g, i, none⟩ = some (.int .i64 l[i]) := by
  obtain ⟨ad, e, _, hc⟩ := (h.sr encI_len).1.int hi
  cases e
  rwa [Addr.add_lit, Nat.zero_add] at hc
theorem So.lenI {w : World} {K : Nat} {T : TypeId} {n cap : Nat} {A : Option Addr} {l : List Int} (h : So encI 1 w K T (.slice A n cap) l) : l.length = n := (h.sr encI_len).2
theorem So.froI {w : World} {K : Nat} {T : TypeId} {g n cap : Nat} {l : List Int} (h : So encI 1 w K T (.slice (some ⟨g, 0, none⟩) n cap) l) (j : Nat) : w.frozen? ⟨g, j, none⟩ = false := by
  obtain rfl := h.lenI
  exact World.ownsRow.frozenAt h j

set_option maxHeartbeats 400000 in
theorem gone_any (b : Nat) (K : Nat) (A : Option Addr) (c : Nat) (ms : List Int) (n : Int) (w : World) (hc : w.cell? ⟨b, 0, none⟩ = some (.slice A ms.length c)) (hp : Sr encI 1 w K A c ms) :
    Calls Try.prog 119 #[.int .i64 n, .pointer (some ⟨b, 0, none⟩)] w fun e w' => e = .returned (.bool (!hasB ms n)) ∧ w = w' := by
  have HP := Lib.hid (has_any K A ms.length c ms n w rfl hp)
  clear hp
  go_enter Try.func119, Try.ntmps119
  go_wp2_with fail
  refine HP.out.mono ?_
  rintro e w' ⟨rfl, rfl⟩
  go_wp2_with fail
  go_ret
  exact ⟨rfl, rfl⟩

/-- How many stand ahead of the first who goes. -/
def stayN (ms l : List Int) : Nat := (l.takeWhile fun n => hasB ms n).length
theorem stay_at {ms : List Int} : ∀ {l : List Int} {k : Nat} (hk : k < l.length), (∀ j (hj : j < l.length), j < k → hasB ms l[j] = true) → hasB ms l[k] = false → stayN ms l = k
  | x :: l, 0, _, _, h0 => by
    unfold stayN
    simp only [List.getElem_cons_zero] at h0
    rw [List.takeWhile_cons, h0]; rfl
  | x :: l, k + 1, hk, h, h0 => by
    have hx := h 0 (by simp) (by omega)
    simp only [List.getElem_cons_zero] at hx
    have := stay_at (l := l) (k := k) (by simpa using hk) (fun j hj hjk => by have := h (j + 1) (by simp; omega) (by omega); simpa using this) (by simpa using h0)
    unfold stayN at this ⊢
    rw [List.takeWhile_cons, hx]
    simp [this]
theorem stay_all {ms : List Int} {l : List Int} (h : ∀ j (hj : j < l.length), hasB ms l[j] = true) : l.filter (fun n => hasB ms n) = l :=
  List.filter_eq_self.2 fun x hx => by
    obtain ⟨j, hj, rfl⟩ := List.getElem_of_mem hx
    exact h j hj
def GoneP (ms l : List Int) (w : World) (e : Ending) (w' : World) : Prop :=
  w = w' ∧ ((e = .returned (.int .i64 (-1)) ∧ l.filter (fun n => hasB ms n) = l) ∨ ∃ k : Nat, e = .returned (.int .i64 (k : Int)) ∧ k < l.length ∧ (l.take k).filter (fun n => hasB ms n) = l.take k ∧ (l.take (k + 1)).filter (fun n => hasB ms n) = l.take k)
set_option maxRecDepth 100000 in
set_option maxHeartbeats 1600000 in
theorem firstgone_any (b : Nat) (K' : Nat) (M : Option Addr) (mc : Nat) (ms : List Int) (K : Nat) (A : Option Addr) (n cap : Nat) (l : List Int) (w : World) (hn : l.length = n) (hp : Sr encI 1 w K A cap l)
    (hc : w.cell? ⟨b, 0, none⟩ = some (.slice M ms.length mc)) (hm : Sr encI 1 w K' M mc ms) :
    Calls Try.prog 130 #[.slice A n cap, .func (.func 119) #[] #[.pointer (some ⟨b, 0, none⟩)]] w (GoneP ms l w) := by
  subst hn
  have hle := hp.le
  have hmax := hp.max
  unfold maxLen at hmax
  have HP := Lib.hid hp
  have HG := Lib.hid (fun n => gone_any b K' M mc ms n w hc hm)
  clear hp hc hm
  go_enter Try.func130, Try.ntmps130
  go_wp2
  go_loop [8] (fun i => ∃ (k : Nat), k ≤ l.length ∧ i = .int .i64 k ∧ Hid (∀ j (hj : j < l.length), j < k → hasB ms l[j] = true)) (fun i => l.length - (intOf i).toNat)
  case atStart => exact ⟨0, Nat.zero_le _, rfl, Lib.hid (fun j _ h => absurd h (by omega))⟩
  case round =>
    obtain ⟨k, hk, rfl, HJ⟩ := hrel
    by_cases hlt : k < l.length
    · obtain ⟨ad, rfl, hadK, hcell⟩ := HP.out.int hlt
      have HX : Hid (∀ x, l[k] = x → (hasB ms x = true → ∀ j (hj : j < l.length), j < k + 1 → hasB ms l[j] = true) ∧ (hasB ms x = false → (l.take k).filter (fun n => hasB ms n) = l.take k ∧ (l.take (k + 1)).filter (fun n => hasB ms n) = l.take k)) := Lib.hid (fun x hx => ⟨fun hT j hj hjk => by
          by_cases e : j = k
          · subst e; rw [hx]; exact hT
          · exact HJ.out j hj (by omega), fun hF => by
          have e1 : (l.take k).filter (fun n => hasB ms n) = l.take k := stay_all fun j hj => by
            rw [List.getElem_take]
            exact HJ.out j (by rw [List.length_take] at hj; omega) (by rw [List.length_take] at hj; omega)
          refine ⟨e1, ?_⟩
          rw [take_snocI l k hlt, List.filter_append, e1, hx]
          simp [hF]⟩)
      generalize hxx : l[k] = x at *
      have HXX := Lib.hid (HX.out x rfl)
      clear HX hxx
      have HA := Lib.hid (HG.out x)
      cases hd : hasB ms x with
      | true =>
        rw [hd] at HA
        have HI := Lib.hid (HXX.out.1 hd)
        clear hd HXX
        go_wp2_with (go_at_call 119; refine HA.out.mono ?_; rintro e w1 ⟨rfl, rfl⟩)
        go_round
        case rel => exact ⟨k + 1, by omega, by go_num, Lib.hid HI.out⟩
        case measure => simp [intOf]; omega
      | false =>
        rw [hd] at HA
        have HI := Lib.hid (HXX.out.2 hd)
        clear hd HXX
        go_wp2_with (go_at_call 119; refine HA.out.mono ?_; rintro e w1 ⟨rfl, rfl⟩)
        go_ret
        exact ⟨rfl, .inr ⟨k, rfl, hlt, HI.out⟩⟩
    · have hkl : k = l.length := by omega
      subst hkl
      have HI : Hid (l.filter (fun n => hasB ms n) = l) := Lib.hid (stay_all fun j hj => HJ.out j hj hj)
      go_wp2
      go_ret
      exact ⟨rfl, .inl ⟨rfl, HI.out⟩⟩

def DelP (ms l : List Int) (K g cap : Nat) (w : World) (e : Ending) (w' : World) : Prop :=
  ∃ m, e = .returned (.slice (some ⟨g, 0, none⟩) m cap) ∧ So encI 1 w' K 3 (.slice (some ⟨g, 0, none⟩) m cap) (l.filter fun n => hasB ms n) ∧ Tn (· = g) w w'
set_option maxRecDepth 100000 in
set_option maxHeartbeats 3200000 in
theorem delgone_any (b : Nat) (K' : Nat) (M : Option Addr) (mc : Nat) (ms : List Int) (K g n cap : Nat) (l : List Int) (w : World) (so : So encI 1 w K 3 (.slice (some ⟨g, 0, none⟩) n cap) l)
    (hc : w.cell? ⟨b, 0, none⟩ = some (.slice M ms.length mc)) (hm : Sr encI 1 w K' M mc ms) (hbg : b ≠ g) (hmg : 0 < ms.length → ∀ ad : Addr, M = some ad → ad.block ≠ g) :
    Calls Try.prog 118 #[.slice (some ⟨g, 0, none⟩) n cap, .func (.func 119) #[] #[.pointer (some ⟨b, 0, none⟩)]] w (DelP ms l K g cap w) := by
  obtain rfl := so.lenI
  have hle := (so.sr encI_len).1.le
  have hmax := (so.sr encI_len).1.max
  unfold maxLen at hmax
  have HS := Lib.hid so
  have HF := Lib.hid (firstgone_any b K' M mc ms w.heap.size (some ⟨g, 0, none⟩) l.length cap l w rfl (so.sr encI_len).1 hc hm)
  have HG : Hid (∀ W, Tn (· = g) w W → ∀ n, Calls Try.prog 119 #[.int .i64 n, .pointer (some ⟨b, 0, none⟩)] W fun e w' => e = .returned (.bool (!hasB ms n)) ∧ W = w') :=
    Lib.hid (fun W t n => gone_any b K' M mc ms n W (t.cell hc hbg) (hm.tn t hmg))
  clear so hc hm hmg
  go_enter Try.func118, Try.ntmps118
  go_wp2_with fail
  refine HF.out.mono ?_
  rintro e w1 ⟨rfl, ⟨rfl, hall⟩ | ⟨k, rfl, hk, hk1, hk2⟩⟩
  · have HA := Lib.hid hall
    clear hall
    go_wp2_with fail
    go_ret
    exact ⟨_, rfl, by rw [HA.out]; exact HS.out, Tn.refl _ _⟩
  · have h1 : ((k : Int) == -1) = false := by simp
    have HK1 := Lib.hid hk1
    have HK2 := Lib.hid hk2
    clear hk1 hk2
    go_wp2_with fail
    go_loopw [5, 6] (fun iv jv wr => ∃ (i j : Nat) (L : List Int), iv = .int .i64 (i : Int) ∧ jv = .int .i64 (j : Int) ∧ i < j ∧ j ≤ l.length ∧ L.length = l.length ∧ So encI 1 wr K 3 (.slice (some ⟨g, 0, none⟩) l.length cap) L ∧ Hid (L.take i = (l.take j).filter fun n => hasB ms n) ∧ Hid (∀ q, j ≤ q → L[q]? = l[q]?) ∧ Tn (· = g) w wr) (fun _ jv _ => l.length - (intOf jv).toNat)
    case atStart => exact ⟨k, k + 1, l, rfl, by go_num, by omega, by omega, rfl, HS.out, Lib.hid HK2.out.symm, Lib.hid fun _ _ => rfl, Tn.refl _ _⟩
    case round =>
      obtain ⟨i, j, L, rfl, rfl, hij, hj, hL, hso, HT, HD, htn⟩ := hrel
      rename World => W0
      have HSO := Lib.hid hso
      have HTN := Lib.hid htn
      clear hso htn
      have hi0 : 0 ≤ (i : Int) := by omega
      have hj0 : 0 ≤ (j : Int) := by omega
      by_cases hlt : j < l.length
      · have hcell := HSO.out.cellI (i := j) (by omega)
        have hcelli := HSO.out.cellI (i := i) (by omega)
        have hfro := HSO.out.froI i
        have HX : Hid (L[j] = l[j]) := Lib.hid (by have := HD.out j (Nat.le_refl _); rw [List.getElem?_eq_getElem (by omega), List.getElem?_eq_getElem hlt] at this; simpa using this)
        have HY := Lib.hid (take_snocI l j hlt)
        rw [HX.out] at hcell
        generalize l[j] = x at *
        have HA := Lib.hid (HG.out W0 HTN.out x)
        have hig : i < l.length := by omega
        cases hd : hasB ms x with
        | true =>
          rw [hd] at HA
          have HT2 : Hid ((L.set i x).take (i + 1) = (l.take (j + 1)).filter fun n => hasB ms n) := Lib.hid (by
            rw [HY.out, List.filter_append, ← HT.out, List.take_succ_eq_append_getElem (by rw [List.length_set]; omega), List.take_set_of_le (Nat.le_refl i)]
            simp [hd])
          have HD2 : Hid (∀ q, j + 1 ≤ q → (L.set i x)[q]? = l[q]?) := Lib.hid (fun q hq => by rw [List.getElem?_set_ne (by omega)]; exact HD.out q (by omega))
          clear hd
          have HSET : Hid (So encI 1 (W0.setCell ⟨g, i, none⟩ (.int .i64 x)) K 3 (.slice (some ⟨g, 0, none⟩) l.length cap) (L.set i x)) := Lib.hid (by
            have := HSO.out.set1 encI_len (i := i) (j := 0) (by decide) (u := .int .i64 x) (y := x) (List.getElem?_eq_getElem (by omega)) rfl
            rwa [Nat.mul_one, Nat.add_zero] at this)
          have HTS := Lib.hid (HTN.out.then (Tn.setCell W0 g i (.int .i64 x)))
          have hsz : (L.set i x).length = l.length := by rw [List.length_set]; exact hL
          have HSZ := Lib.hid hsz
          clear hsz
          go_wp2_with (go_at_call 119; refine HA.out.mono ?_; rintro e w1 ⟨rfl, rfl⟩)
          go_roundw
          case rel => exact ⟨i + 1, j + 1, L.set i x, by go_num, by go_num, by omega, by omega, HSZ.out, HSET.out, Lib.hid HT2.out, Lib.hid HD2.out, HTS.out⟩
          case measure => simp [intOf]; omega
        | false =>
          rw [hd] at HA
          have HT2 : Hid (L.take i = (l.take (j + 1)).filter fun n => hasB ms n) := Lib.hid (by
            rw [HY.out, List.filter_append, ← HT.out]
            simp [hd])
          clear hd
          go_wp2_with (go_at_call 119; refine HA.out.mono ?_; rintro e w1 ⟨rfl, rfl⟩)
          go_roundw
          case rel => exact ⟨i, j + 1, L, rfl, by go_num, by omega, by omega, hL, HSO.out, Lib.hid HT2.out, Lib.hid fun q hq => HD.out q (by omega), HTN.out⟩
          case measure => simp [intOf]; omega
      · have hjl : j = l.length := by omega
        subst hjl
        have hsl := slice_fromK und_isl eq_i64_sizeOf (some ⟨g, 0, none⟩) l.length cap i (by omega) W0
        have hsl2 := fun W => slice_toK und_isl eq_i64_sizeOf (some ⟨g, 0, none⟩) l.length cap i (by omega) W
        have hic : ¬ cap = i := by omega
        rw [if_neg hic] at hsl
        simp only [Option.map_some, Addr.add_lit, Nat.mul_one, Nat.zero_add] at hsl
        have hz : ∀ ty, (Builtin.clear_ #[29] ty #[.slice (some ⟨g, i, none⟩) (l.length - i) (cap - i)]).run Try.prog W0 = .ok (.tuple #[]) (W0.setCells g i (List.replicate (l.length - i) (.int .i64 0))) := fun ty =>
          Lib.run_clear_slice W0 29 3 ty (.int .i64 0) Try.underlying29 (fun w => by kernel_rfl) rfl rfl g i (l.length - i) (cap - i) (by omega) (fun q hq => by rw [HSO.out.cellI (i := i + q) (by omega)]; rfl) (fun q _ => HSO.out.froI _)
        obtain ⟨L2, hs2, ht2⟩ := So.zeros (l.length - i) i HSO.out (by omega)
        have HE : Hid (So encI 1 (W0.setCells g i (List.replicate (l.length - i) (.int .i64 0))) K 3 (.slice (some ⟨g, 0, none⟩) i cap) (l.filter fun n => hasB ms n)) := Lib.hid (by
          have := hs2.to (i := i) (by omega)
          rwa [ht2 i (Nat.le_refl _), HT.out, List.take_length] at this)
        have HTS := Lib.hid (HTN.out.then (Tn.setCells g (List.replicate (l.length - i) (.int .i64 0)) i W0))
        clear hs2 ht2
        go_wp2
        go_ret
        exact ⟨i, rfl, HE.out, HTS.out⟩
end Go.Proofs.Ytpnhdocimjkakaa
