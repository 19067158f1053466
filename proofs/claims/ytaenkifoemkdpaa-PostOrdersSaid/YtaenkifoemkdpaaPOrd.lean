/- The law PostOrders: its walk. -/
import Derived.Test.YtaenkifoemkdpaaPMr
import Derived.LoopTactic
import Derived.Deep.RegionHeld3
namespace Go.Proofs.Ytaenkifoemkdpaa
open Go.RowKit Go.Conc

/-- The post's messages are these of the document's. -/
def Alike (l : List Mg) (ms : List Rm) : Prop := l.length = ms.length ∧ ∀ (i : Nat) (m : Mg) (x : Rm), l[i]? = some m → ms[i]? = some x → m.f = x.f ∧ m.t = x.t
/-- A post with these messages; the blocks that its methods turn lie below N. -/
structure PoL (w : World) (K p ch room : Nat) (ms : List Rm) (N : Nat) : Prop where
  out : ∃ v l, Po w K p ch room v l (ms.map Rm.b) ∧ Alike l ms ∧ ∀ k, TP p ch v k → k < N
/-- What its methods turn. -/
abbrev TN (K N : Nat) : Nat → Prop := fun k => K ≤ k ∧ k < N
theorem Po.tN {w w' : World} {K p ch room N : Nat} {v : Value} {l : List Mg} {B : List (List UInt8)} (h : Po w K p ch room v l B) (hN : ∀ k, TP p ch v k → k < N) (t : Tn (TP p ch v) w w') : Tn (TN K N) w w' :=
  t.mono fun k _ e => ⟨by
    have h1 := h.kp
    have h2 := h.kc
    rcases e with e | e | e
    · omega
    · omega
    · exact (h.so.lt k e).1, hN k e⟩
theorem Tn.belN {w w' : World} {K N : Nat} (t : Tn (TN K N) w w') (hK : K ≤ w.heap.size) : Below K w w' := t.below hK fun _ _ e => e.1
theorem Po.top {w : World} {K p ch room : Nat} {v : Value} {l : List Mg} {B : List (List UInt8)} (h : Po w K p ch room v l B) : ∀ k, TP p ch v k → k < w.heap.size := fun k e => by
  have h1 := h.lt
  have h2 := h.ltc
  rcases e with e | e | e
  · omega
  · omega
  · exact (h.so.lt k e).2
section
variable {w w' : World} {K p ch room N : Nat} {ms : List Rm}
theorem PoL.below (h : PoL w K p ch room ms N) (hb : Below w.heap.size w w') : PoL w' K p ch room ms N := by
  obtain ⟨v, l, hp, ha, hN⟩ := h.out
  exact ⟨v, l, hp.below hb, ha, hN⟩
theorem PoL.alloc (h : PoL w K p ch room ms N) (o : Obj) : PoL (w.alloc o) K p ch room ms N := h.below ((Below.refl _ _).alloc (Nat.le_refl _) _)
theorem PoL.drew (h : PoL w K p ch room ms N) : PoL w.drew K p ch room ms N := h.below ((Tn.drew (P := fun _ => False) w).below (Nat.le_refl _) (fun _ _ h => h.elim))
theorem PoL.lt (h : PoL w K p ch room ms N) : K ≤ w.heap.size := by
  obtain ⟨v, l, hp, _⟩ := h.out
  have := hp.lt
  have := hp.kp
  omega
/-- Send, Take, Len of such a post. -/
theorem sendL (h : PoL w K p ch room ms N) (x : Rm) (A : Option Addr) (c K' : Nat) (hb : Bs w K' A c x.b) (hK' : K' ≤ K) (hsz : x.b.length ≤ 1048576) (hroom : ms.length < room) (hmax : room ≤ 4096) :
    Calls Try.prog 29 #[.pointer (some ⟨p, 0, none⟩), .agg #[.int .i64 x.f, .int .i64 x.t, .slice A x.b.length c]] w fun e w' => e = .returned (.int .i64 0) ∧ PoL w' K p ch room (ms ++ [x]) w'.heap.size ∧ Tn (TN K N) w w' := by
  have hKw := h.lt
  obtain ⟨v, l, hp, ha, hN⟩ := h.out
  refine (send_ok K p ch room v l _ x.f x.t A c x.b w hp ⟨rfl, hb.more (by omega), fun hl ad e hbad => ?_⟩ hsz (by rw [ha.1]; exact hroom) hmax).mono ?_
  · obtain ⟨ad', e', hlt, _⟩ := hb.at_ hl
    have e3 : A = some ad := e
    rw [e3] at e'; cases e'
    have h1 := hp.kp
    have h2 := hp.kc
    rcases hbad with h | h | h
    · omega
    · omega
    · have := (hp.so.lt _ h).1; omega
  · rintro e w' ⟨rfl, v', A', c', hp', ht, _, _⟩
    refine ⟨rfl, ⟨v', _, by rw [List.map_append]; exact hp', ⟨by simp [ha.1], fun i m y hm hy => ?_⟩, hp'.top⟩, hp.tN hN ht⟩
    by_cases hi : i < l.length
    · rw [List.getElem?_append_left hi] at hm
      rw [List.getElem?_append_left (by rw [← ha.1]; exact hi)] at hy
      exact ha.2 i m y hm hy
    · rw [List.getElem?_append_right (by omega)] at hm
      rw [List.getElem?_append_right (by rw [← ha.1]; omega), ← ha.1] at hy
      have h0 : i - l.length = 0 := by
        rcases Nat.eq_zero_or_pos (i - l.length) with h0 | h0
        · exact h0
        · rw [List.getElem?_eq_none (by simp; omega)] at hm; cases hm
      rw [h0] at hm hy
      simp at hm hy
      subst hm hy
      exact ⟨rfl, rfl⟩
theorem takeL {x : Rm} (h : PoL w K p ch room (x :: ms) N) (hsz : x.b.length ≤ 140737488355328) (hmax : room ≤ 4096) :
    Calls Try.prog 31 #[.pointer (some ⟨p, 0, none⟩), .int .i64 0] w fun e w' => ∃ A c, e = .returned (.tuple #[.agg #[.int .i64 x.f, .int .i64 x.t, .slice A x.b.length c], .int .i64 0]) ∧ Ob w' w.heap.size (.slice A x.b.length c) x.b ∧ PoL w' K p ch room ms w'.heap.size ∧ Tn (TN K N) w w' := by
  obtain ⟨v, l, hp, ha, hN⟩ := h.out
  match l, ha, hp with
  | [], ha, _ => exact absurd ha.1 (by simp)
  | m :: l, ha, hp =>
    refine (take_ok K p ch room v (m :: l) _ 0 m x.b w hp rfl rfl hsz hmax).mono ?_
    rintro e w' ⟨A, c, v', rfl, ho, hp', ht, _⟩
    have hm := ha.2 0 m x rfl rfl
    refine ⟨A, c, by rw [hm.1, hm.2], ho, ⟨v', l, hp', ⟨by have := ha.1; simpa using this, fun i m' y h1 h2 => ha.2 (i + 1) m' y h1 h2⟩, hp'.top⟩, hp.tN hN ht⟩
theorem lenL (h : PoL w K p ch room ms N) :
    Calls Try.prog 39 #[.pointer (some ⟨p, 0, none⟩)] w fun e w' => e = .returned (.int .i64 (ms.length : Int)) ∧ w = w' := by
  obtain ⟨v, l, hp, ha, _⟩ := h.out
  rw [← ha.1]
  exact len_any K p ch room v l _ w hp
end
theorem newL (n : Nat) (hn : n ≤ 4096) (w : World) : Calls Try.prog 26 #[.int .i64 (n : Int)] w fun e w' => e = .returned (.tuple #[.pointer (some ⟨w.heap.size + 1, 0, none⟩), .int .i64 0]) ∧ PoL w' w.heap.size (w.heap.size + 1) w.heap.size n [] w'.heap.size ∧ Below w.heap.size w w' := by
  refine (new_ok n hn w).mono ?_
  rintro e w' ⟨rfl, hp, hb⟩
  exact ⟨rfl, ⟨_, [], hp, ⟨rfl, fun i m x hm _ => by simp at hm⟩, hp.top⟩, hb⟩
theorem PoL.upto {w : World} {K p ch room N : Nat} {ms : List Rm} (h : PoL w K p ch room ms N) : PoL w K p ch room ms w.heap.size := by
  obtain ⟨v, l, hp, ha, _⟩ := h.out
  exact ⟨v, l, hp, ha, hp.top⟩

theorem wrap_in {x : Int} (h1 : -9223372036854775808 ≤ x) (h2 : x ≤ 9223372036854775807) : IntKind.i64.wrap x = x := by
  simp [IntKind.wrap, IntKind.signed, IntKind.bits]
  omega
theorem lenL' {w : World} {K p ch room N : Nat} {ms : List Rm} {n : Int} (hn : (ms.length : Int) = n) (h : PoL w K p ch room ms N) :
    Calls Try.prog 39 #[.pointer (some ⟨p, 0, none⟩)] w fun e w' => e = .returned (.int .i64 n) ∧ w = w' := hn ▸ lenL h
theorem sameM_refl (f t : Int) (A A' : Option Addr) (c c' K K' : Nat) (b : List UInt8) (w : World) (hb : Bs w K A c b) (hb' : Bs w K' A' c' b) (hK : K ≤ w.heap.size) (hK' : K' ≤ w.heap.size) :
    Calls Try.prog 33 #[.agg #[.int .i64 f, .int .i64 t, .slice A b.length c], .agg #[.int .i64 f, .int .i64 t, .slice A' b.length c']] w fun e w' => e = .returned (.bool true) ∧ Below w.heap.size w w' := by
  have := sameM_any f t f t A A' c c' K K' b b w hb hb' hK hK'
  simpa using this
structure HBs (w : World) (K : Nat) (A : Option Addr) (c : Nat) (b : List UInt8) : Prop where
  out : Bs w K A c b
  le : K ≤ w.heap.size
theorem hbs_keep {w w' : World} {K c : Nat} {A : Option Addr} {b : List UInt8} (h : HBs w K A c b) (hb : Below w.heap.size w w') : HBs w' K A c b := ⟨h.out.below (hb.mono h.le), Nat.le_trans h.le hb.size⟩
theorem hbs_drew {w : World} {K c : Nat} {A : Option Addr} {b : List UInt8} (h : HBs w K A c b) : HBs w.drew K A c b := ⟨h.out.drew, h.le⟩

set_option maxRecDepth 100000 in
set_option maxHeartbeats 3200000 in
theorem pord_any (A : Option Addr) (cap : Nat) (ms : List Rm) (w : World) (hm : Mr w w.heap.size A cap ms) :
    Calls Try.prog 11 #[.slice A ms.length cap] w fun e w' => e = .returned (.bool true) ∧ Below w.heap.size w w' := by
  have hn := newL 4096 (by decide)
  have HM := Lib.hid hm
  clear hm
  by_cases hlen : (ms.length : Int) > 200
  · go_enter Try.func11, Try.ntmps11
    go_wp2_with fail
    refine (hn w).mono ?_
    rintro e w1 ⟨rfl, P1, b1⟩
    go_wp2_with fail
    refine (pawake_any _).mono ?_
    rintro e w2 ⟨rfl, b2⟩
    go_wp2_with fail
    refine (pawake_any _).mono ?_
    rintro e w3 ⟨rfl, b3⟩
    go_wp2_with fail
    go_ret
    have z1 := b1.size
    have z2 := b2.size
    exact ⟨rfl, (b1.trans (b2.mono (by omega))).trans (b3.mono (by omega))⟩
  · go_enter Try.func11, Try.ntmps11
    go_wp2_with fail
    refine (hn w).mono ?_
    rintro e w1 ⟨rfl, P1, b1⟩
    go_wp2_with fail
    refine (pawake_any _).mono ?_
    rintro e w2 ⟨rfl, b2⟩
    go_wp2_with fail
    have P2 := P1.below b2
    have z1 := b1.size
    have z2 := b2.size
    have B2 : Below w.heap.size w w2 := b1.trans (b2.mono (by omega))
    clear P1 b1 b2 hn
    have hlen' : ms.length ≤ 200 := by omega
    go_loopw [33] (fun iv wr => ∃ k : Nat, k ≤ ms.length ∧ iv = .int .i64 (k : Int) ∧ PoL wr w.heap.size (w.heap.size + 1) w.heap.size 4096 (ms.take k) wr.heap.size ∧ Below w.heap.size w wr ∧ ∀ j, j < k → ∀ x : Rm, ms[j]? = some x → x.b.length ≤ 3000) (fun iv _ => ms.length - (intOf iv).toNat)
    case atStart => exact ⟨0, by omega, rfl, by simpa using P2.upto, B2, fun j hj => by omega⟩
    case round =>
      obtain ⟨k, hk, rfl, hP, hB, hS⟩ := hrel
      have zr := hB.size
      by_cases hlt : k < ms.length
      · obtain ⟨ad, hA, hadb, h0, h1, A', c', h2, hbs⟩ := (HM.out.below hB).get hlt
        have hx : ms[k]? = some ms[k] := List.getElem?_eq_getElem hlt
        have hle := HM.out.le
        have hmx := HM.out.max
        unfold maxLen at hmx
        have htk : ms.take k ++ [ms[k]] = ms.take (k + 1) := by rw [List.take_add_one, hx]; rfl
        have hlk : (ms.take k).length = k := by simp; omega
        subst hA
        generalize ms[k] = x at *
        obtain ⟨xf, xt, xb⟩ := x
        simp only at h0 h1 h2 hbs
        have HTK := Lib.hid htk
        have HX := Lib.hid hx
        have HLK := Lib.hid hlk
        have HBS := Lib.hid hbs
        have HSS := Lib.hid hS
        have HPP := Lib.hid hP
        clear htk hx hlk hbs hS hP P2
        by_cases hbig : (xb.length : Int) > 3000
        · go_wp2
          go_ret
          exact ⟨rfl, by go_grown⟩
        · have hb3 : xb.length ≤ 3000 := by omega
          go_wp2_with fail
          refine (sendL (HPP.out.alloc _) ⟨xf, xt, xb⟩ A' c' w.heap.size (HBS.out.alloc (by omega) _) (Nat.le_refl _) (by show xb.length ≤ _; omega) (by rw [HLK.out]; omega) (by decide)).mono ?_
          rintro e w3 ⟨rfl, hP3, ht3⟩
          rw [HTK.out] at hP3
          have hB3 : Below w.heap.size w w3 := hB.trans (((Below.refl _ _).alloc zr _).trans (ht3.belN (by simp; omega)))
          go_wp2
          go_roundw
          case rel => exact ⟨k + 1, by omega, by simp, hP3, hB3, fun j hj x hx' => by
            rcases Nat.lt_or_ge j k with h | h
            · exact HSS.out j h x hx'
            · have e : j = k := by omega
              subst e
              rw [HX.out] at hx'
              cases hx'
              exact hb3⟩
          case measure => simp [intOf]; omega
      · have hkl : k = ms.length := by omega
        subst hkl
        rw [List.take_length] at hP
        have HSS := Lib.hid hS
        clear hS P2
        go_wp2
        go_loopw [54] (fun iv wr => ∃ k : Nat, k ≤ ms.length ∧ iv = .int .i64 (k : Int) ∧ PoL wr w.heap.size (w.heap.size + 1) w.heap.size 4096 (ms.drop k) wr.heap.size ∧ Below w.heap.size w wr) (fun iv _ => ms.length - (intOf iv).toNat)
        case atStart => exact ⟨0, by omega, rfl, by simpa using hP, hB⟩
        case round =>
          clear hP hB zr
          obtain ⟨k, hk, rfl, hP, hB⟩ := hrel
          rename World => W1
          have zr := hB.size
          by_cases hlt : k < ms.length
          · obtain ⟨ad, hA, hadb, h0, h1, A', c', h2, hbs⟩ := (HM.out.below hB).get hlt
            have hx : ms[k]? = some ms[k] := List.getElem?_eq_getElem hlt
            have hle := HM.out.le
            have hmx := HM.out.max
            unfold maxLen at hmx
            have hdk : ms.drop k = ms[k] :: ms.drop (k + 1) := List.drop_eq_getElem_cons hlt
            rw [hdk] at hP
            have hs3 := HSS.out k hlt _ hx
            have hld : ((ms.drop (k + 1)).length : Int) = (ms.length : Int) - 1 - (k : Int) := by simp; omega
            subst hA
            generalize ms[k] = x at *
            obtain ⟨xf, xt, xb⟩ := x
            simp only at h0 h1 h2 hbs hs3
            have HLD := Lib.hid hld
            have HBS := Lib.hid hbs
            have HPP := Lib.hid hP
            clear hdk hx hld hbs hP
            go_wp2_with fail
            refine (takeL (HPP.out.alloc _) (by show xb.length ≤ _; omega) (by decide)).mono ?_
            rintro e w4 ⟨A4, c4, rfl, ho4, hP4, ht4⟩
            have n1 : ¬ TN w.heap.size W1.heap.size W1.heap.size := by unfold TN; omega
            have y0 : w4.cell? ⟨W1.heap.size, 0, none⟩ = some (.int .i64 xf) := ht4.cell (by simp) n1
            have y1 : w4.cell? ⟨W1.heap.size, 1, none⟩ = some (.int .i64 xt) := ht4.cell (by simp) n1
            have y2 : w4.cell? ⟨W1.heap.size, 2, none⟩ = some (.slice A' xb.length c') := ht4.cell (by simp) n1
            have hB14 : Below w.heap.size W1 w4 := ((Below.refl _ _).alloc zr _).trans (ht4.belN (by simp; omega))
            have hB4 : Below w.heap.size w w4 := hB.trans hB14
            have HBS4 := Lib.hid (HBS.out.below hB14)
            have z4 : W1.heap.size + 1 ≤ w4.heap.size := by simpa using ht4.size
            have HO4 := Lib.hid ho4
            have HP4 := Lib.hid hP4
            clear ho4 hP4 ht4
            go_wp2_with fail
            have hk1 : (k : Int) + 1 ≤ (ms.length : Int) := by omega
            have hk0 : (0 : Int) ≤ (k : Int) := by omega
            have o1 := HBs.mk ((HO4.out.alloc (.cells #[.int .i64 xf, .int .i64 xt, .slice A4 xb.length c4] 62)).bs.1) (Nat.le_refl _)
            have o2 := HBs.mk (HBS4.out.alloc (by omega) (.cells #[.int .i64 xf, .int .i64 xt, .slice A4 xb.length c4] 62)) (by simp; omega)
            have P5 := (HP4.out.alloc (.cells #[.int .i64 xf, .int .i64 xt, .slice A4 xb.length c4] 62)).drew
            go_region_held3 (fun w' => w'.cell? ⟨w4.heap.size, 0, none⟩ = some (.int .i64 xf) ∧ w'.cell? ⟨w4.heap.size, 1, none⟩ = some (.int .i64 xt) ∧ w'.cell? ⟨w4.heap.size, 2, none⟩ = some (.slice A4 xb.length c4) ∧ w'.cell? ⟨W1.heap.size, 0, none⟩ = some (.int .i64 xf) ∧ w'.cell? ⟨W1.heap.size, 1, none⟩ = some (.int .i64 xt) ∧ w'.cell? ⟨W1.heap.size, 2, none⟩ = some (.slice A' xb.length c') ∧ HBs w' (w4.alloc (.cells #[.int .i64 xf, .int .i64 xt, .slice A4 xb.length c4] 62)).heap.size A4 c4 xb ∧ HBs w' w.heap.size A' c' xb ∧ PoL w' w.heap.size (w.heap.size + 1) w.heap.size 4096 (ms.drop (k + 1)) w4.heap.size ∧ Below w.heap.size w w')
              (((try dsimp only); go_split_ands; (repeat' apply And.intro) <;> first | assumption | (apply hbs_drew; assumption) | (apply hbs_keep; assumption; assumption) | (apply PoL.below; assumption; assumption) | (apply kept; assumption; assumption) | (apply via; assumption; assumption; apply Below.size; assumption) | (go_grown; done) | (repeat' first | assumption | (simp; done) | apply keptD | apply keptA)))
              (first
                | (go_at_call 34; refine (fromM_any _ _ _ _ _ _).mono ?_; rintro e w6 ⟨rfl, hb6⟩)
                | (go_at_call 33; go_split_ands; refine (sameM_refl xf xt A4 A' c4 c' _ _ xb _ (HBs.out (by assumption)) (HBs.out (by assumption)) (HBs.le (by assumption)) (HBs.le (by assumption))).mono ?_; rintro e w7 ⟨rfl, hb7⟩)
                | (go_at_call 39; go_split_ands; refine (lenL' HLD.out (by assumption)).mono ?_; rintro e w' ⟨rfl, rfl⟩))
            go_split_ands
            rename PoL _ _ _ _ _ _ _ => P7
            rename Below w.heap.size w _ => B7
            have hw1 : IntKind.i64.wrap ((ms.length : Int) - 1) = (ms.length : Int) - 1 := wrap_in (by omega) (by omega)
            have hw2 : IntKind.i64.wrap ((ms.length : Int) - 1 - (k : Int)) = (ms.length : Int) - 1 - (k : Int) := wrap_in (by omega) (by omega)
            have hne : ((ms.length : Int) - 1 - (k : Int) != IntKind.i64.wrap (IntKind.i64.wrap ((ms.length : Int) - 1) - (k : Int))) = false := by rw [hw1, hw2]; simp
            clear hw1 hw2
            go_wp2
            go_roundw
            case rel => exact ⟨k + 1, by omega, by simp, P7.upto, B7⟩
            case measure => simp [intOf]; omega
          · have hkl : k = ms.length := by omega
            subst hkl
            have P8 : PoL W1 w.heap.size (w.heap.size + 1) w.heap.size 4096 [] W1.heap.size := by simpa using hP
            clear hP
            go_wp2_with fail
            refine (lenL' (n := 0) rfl P8).mono ?_
            rintro e w' ⟨rfl, rfl⟩
            go_wp2_with fail
            go_ret
            exact ⟨rfl, hB⟩
end Go.Proofs.Ytaenkifoemkdpaa
