/- The law DiskKeeps: its walk. -/
import Derived.Test.YtclejjofoagmfaaDkW
import Derived.Test.YtclejjofoagmfaaDkOp
namespace Go.Proofs.Ytclejjofoagmfaa
open Go.RowKit Go.Maps Go.BigFrame

/-- append of bytes, at a step of a region that draws. -/
theorem step_app {ops : Array Oper} {o : Oper} {a : Act} {w : World} {Kk : Act → World → Prop} {Q : Exit → Act → World → Prop} {E : Prop} (hgd : o.guard = none) (s x : Operand)
    (ho : o.op = .call { callee := .builtin .append, args := #[s, x], argTypes := #[30, 30] })
    (K : Nat) (v : Value) (l : List UInt8) (hs : a.eval s = v) (hown : Ob w K v l) (A : Option Addr) (M cap : Nat) (m : List UInt8) (hx : a.eval x = .slice A M cap) (hM : m.length = M) (K' : Nat) (hsrc : Bs w K' A cap m)
    (N : Nat) (hN : l.length + m.length = N) (hsz : l.length + m.length ≤ 140737488355328) (hbase : K ≤ w.heap.size)
    (h : ∀ A' cap' w', Ob w' K (.slice A' N cap') (l ++ m) → w.grownBy w' v.ownBlock → ((Value.slice A' N cap').ownBlock = v.ownBlock ∨ (Value.slice A' N cap').ownBlock = some w.heap.size) → Kk (a.put o.dst (.slice A' N cap')) w') :
    if Region.wanted o (yielded ops a.tmps) = true then Oper.wp Try.prog o a w Kk Q else E := by
  subst hN hM
  have hw : Region.wanted o (yielded ops a.tmps) = true := by simp [Region.wanted, hgd]
  rw [if_pos hw]
  obtain ⟨A', cap', w', hr, h2, h3, h4⟩ := run_app w o.type hown hsrc hsz hbase
  unfold Oper.wp execOp
  simp only [ho, resolve, invoke, builtin, Sem.run_bind, Sem.run_pure, Result.andThen_ok, List.map_toArray, List.map_cons, List.map_nil, hs, hx, hr]
  exact h A' cap' w' h2 h3 h4
theorem not_inS {w : World} {K c : Nat} {A : Option Addr} {p : List Int} {B : Nat → Prop} (h : Sr encI 1 w K A c p) (hB : ∀ k, B k → K ≤ k) : 0 < p.length → ∀ ad : Addr, A = some ad → ¬ B ad.block := fun hl ad e hb => by
  obtain ⟨ad', e', hk, _⟩ := h.at_ hl
  rw [e] at e'
  cases e'
  have := hB _ hb
  omega
theorem not_in {w : World} {K c : Nat} {A : Option Addr} {p : List UInt8} {B : Nat → Prop} (h : Bs w K A c p) (hB : ∀ k, B k → K ≤ k) : 0 < p.length → ∀ ad : Addr, A = some ad → ¬ B ad.block := fun hl ad e hb => by
  obtain ⟨ad', e', hk, _⟩ := h.at_ hl
  rw [e] at e'
  cases e'
  have := hB _ hb
  omega
/-- The only segment has these bytes, of which so many last. -/
def Ks (L : List As) (all : List UInt8) (sure : Nat) : Prop := (L = [] ∧ all = [] ∧ sure = 0) ∨ ∃ k, L = [⟨1, all, sure, k⟩] ∧ sure ≤ all.length ∧ (k = false → sure = 0)
theorem Ks.sum {L : List As} {all : List UInt8} {sure : Nat} (h : Ks L all sure) : sumA L = all.length := by
  rcases h with ⟨rfl, rfl, rfl⟩ | ⟨k, rfl, _⟩ <;> simp [sumA]
theorem Ks.le {L : List As} {all : List UInt8} {sure : Nat} (h : Ks L all sure) : sure ≤ all.length := by
  rcases h with ⟨rfl, rfl, rfl⟩ | ⟨k, rfl, h, _⟩
  · simp
  · exact h
theorem ks_app {a : Ad} {all : List UInt8} {sure : Nat} (h : Ks a.L all sure) (p : List UInt8) : ∃ r a', appD a 1 p = (r, a') ∧ a'.room = a.room ∧ ((r = 0 ∧ Ks a'.L (all ++ p) sure) ∨ (r ≠ 0 ∧ Ks a'.L all sure)) := by
  unfold appD
  by_cases hd : a.down = true
  · exact ⟨5, a, by rw [if_pos hd], rfl, .inr ⟨by decide, h⟩⟩
  rw [if_neg hd]
  by_cases c1 : (1 : Int) < 1
  · omega
  rw [if_neg c1]
  by_cases c2 : a.room - (sumA a.L : Nat) < (p.length : Nat)
  · exact ⟨4, a, by rw [if_pos c2], rfl, .inr ⟨by decide, h⟩⟩
  rw [if_neg c2]
  by_cases c3 : hasA a.L 1 = false ∧ 1024 ≤ a.L.length
  · exact ⟨4, a, by rw [if_pos c3], rfl, .inr ⟨by decide, h⟩⟩
  rw [if_neg c3]
  by_cases c4 : a.fuse = 0
  · exact ⟨5, ⟨a.room, 0, true, a.L⟩, by rw [if_pos c4], rfl, .inr ⟨by decide, h⟩⟩
  · refine ⟨0, ⟨a.room, fz a.fuse, false, putA 1 p a.L⟩, by rw [if_neg c4], rfl, .inl ⟨rfl, ?_⟩⟩
    show Ks (putA 1 p a.L) (all ++ p) sure
    rcases h with ⟨e, rfl, rfl⟩ | ⟨k, e, h1, h2⟩
    · rw [e]
      exact .inr ⟨false, rfl, Nat.zero_le _, fun _ => rfl⟩
    · rw [e]
      exact .inr ⟨k, rfl, by simp; omega, h2⟩
theorem ks_sync {a : Ad} {all : List UInt8} {sure : Nat} (h : Ks a.L all sure) : ∃ r a', opD syncA a 1 = (r, a') ∧ a'.room = a.room ∧ ((r = 0 ∧ Ks a'.L all all.length) ∨ (r ≠ 0 ∧ Ks a'.L all sure)) := by
  unfold opD
  by_cases hd : a.down = true
  · exact ⟨5, a, by rw [if_pos hd], rfl, .inr ⟨by decide, h⟩⟩
  rw [if_neg hd]
  by_cases c3 : hasA a.L 1 = false
  · exact ⟨6, a, by rw [if_pos c3], rfl, .inr ⟨by decide, h⟩⟩
  rw [if_neg c3]
  by_cases c4 : a.fuse = 0
  · exact ⟨5, ⟨a.room, 0, true, a.L⟩, by rw [if_pos c4], rfl, .inr ⟨by decide, h⟩⟩
  · refine ⟨0, ⟨a.room, fz a.fuse, false, syncA 1 a.L⟩, by rw [if_neg c4], rfl, .inl ⟨rfl, ?_⟩⟩
    show Ks (syncA 1 a.L) all all.length
    rcases h with ⟨e, rfl, rfl⟩ | ⟨k, e, h1, h2⟩
    · rw [e] at c3
      exact absurd rfl c3
    · rw [e]
      exact .inr ⟨true, rfl, Nat.le_refl _, fun h => by cases h⟩
theorem ks_fuse {a : Ad} {all : List UInt8} {sure : Nat} (h : Ks a.L all sure) (n : Int) : ∃ r a', fuseD a n = (r, a') ∧ a'.room = a.room ∧ Ks a'.L all sure := by
  unfold fuseD
  by_cases hd : a.down = true
  · exact ⟨5, a, by rw [if_pos hd], rfl, h⟩
  · exact ⟨0, ⟨a.room, max n (-1), false, a.L⟩, by rw [if_neg hd], rfl, h⟩
theorem ks_crash {L : List As} {all : List UInt8} {sure : Nat} (h : Ks L all sure) (ks : List Int) : ∃ j, sure ≤ j ∧ j ≤ all.length ∧ (crashA L ks = [⟨1, all.take j, j, true⟩] ∨ (crashA L ks = [] ∧ j = 0 ∧ sure = 0)) := by
  rcases h with ⟨rfl, rfl, rfl⟩ | ⟨k, rfl, h1, h2⟩
  · exact ⟨0, Nat.le_refl _, Nat.le_refl _, .inr ⟨rfl, rfl, rfl⟩⟩
  · obtain ⟨q, hq⟩ : ∃ q, q = kq ⟨1, all, sure, k⟩ (ks.headD 0) := ⟨_, rfl⟩
    have hqle : q ≤ all.length := by rw [hq]; exact Nat.min_le_right _ _
    have hqs : sure ≤ q := by rw [hq]; unfold kq; simp only; omega
    have e : crashA [⟨1, all, sure, k⟩] ks = if k = true ∨ 0 < q then [⟨1, all.take q, q, true⟩] else [] := by
      rw [hq]
      show tornA _ _ ++ [] = _
      rw [List.append_nil]
      rfl
    by_cases hk : k = true ∨ 0 < q
    · exact ⟨q, hqs, hqle, .inl (by rw [e, if_pos hk])⟩
    · have hk2 := not_or.1 hk
      exact ⟨q, hqs, hqle, .inr ⟨by rw [e, if_neg hk], by omega, h2 (by simpa using hk2.1)⟩⟩
/-- Behind i rounds. -/
structure Kp (w wr : World) (d : Nat) (a : Ad) (all : List UInt8) (sure : Nat) (A : Option Addr) (c : Nat) : Prop where
  out : ∃ B, DD wr B d a ∧ (∀ k, B k → w.heap.size ≤ k) ∧ (0 < all.length → ∀ ad : Addr, A = some ad → ¬ B ad.block)
  bs : Bs wr wr.heap.size A c all
  st : Ks a.L all sure
  room : a.room = 1048576
  dw : d < wr.heap.size
  below : Below w.heap.size w wr
theorem DD.drewN {w : World} {B : Nat → Prop} {d : Nat} {a : Ad} (h : DD w B d a) (n : Nat) : DD (w.drewN n) B d a := h.below (below_drewN _ _ n)
theorem two_app {W X w3 : World} {n c : Nat} (hX : Below W.heap.size W X) (g3 : X.grownBy w3 (Value.slice (some ⟨W.heap.size, 0, none⟩) n c).ownBlock) : Below W.heap.size W w3 :=
  hX.trans ((Tn.ofGrown g3).below hX.size fun k _ e => by simp [Value.ownBlock] at e; omega)
theorem two_app2 {W w3 w4 : World} {v : Value} {l : List UInt8} (h3 : Below W.heap.size W w3) (ob : Ob w3 W.heap.size v l) (g4 : w3.grownBy w4 v.ownBlock) : Below W.heap.size W w4 :=
  h3.trans ((Tn.ofGrown g4).below h3.size fun k _ e => (ob.lt k e.symm).1)
theorem grown_drew {w w' : World} {r : Option Nat} (h : w.drew.grownBy w' r) : w.grownBy w' r := ⟨h.os, h.tape, h.output, h.size, h.block⟩
theorem bs_nil (w : World) (K : Nat) : Bs w K none 0 [] := ⟨Nat.le_refl _, Nat.zero_le _, fun _ => rfl, fun h => absurd h (by simp)⟩
theorem ob_far {w : World} {K n c : Nat} {A : Option Addr} {l : List UInt8} (h : Ob w K (.slice A n c) l) {B : Nat → Prop} (hB : ∀ k, B k → k < K) : 0 < l.length → ∀ ad : Addr, A = some ad → ¬ B ad.block := fun hl ad e hb => by
  obtain ⟨g, e2, hg, _⟩ := h.addr (by rw [h.bs.2]; exact hl)
  rw [e] at e2
  cases e2
  have := hB _ hb
  simp at this
  omega

set_option maxRecDepth 100000 in
set_option maxHeartbeats 6400000 in
theorem dkeeps_any (A : Option Addr) (cap : Nat) (os : List Op7) (w : World) (ho : Os7 w w.heap.size A cap os) : Calls Try.prog 4 #[.slice A os.length cap] w (Ok0 w) := by
  have HO := Lib.hid ho
  have hcl := ho.le
  have hcm := ho.max
  unfold maxLen at hcm
  clear ho
  go_enter Try.func4, Try.ntmps4
  go_wp2_with fail
  refine (new_DD 1048576 (by decide) (by decide) w).mono ?_
  rintro e w1 ⟨rfl, ⟨B1, D1, hB1⟩, b1⟩
  have z1 := D1.lt.1
  have zz := b1.size
  go_wp2_with fail
  refine (dawake_any w1).mono ?_
  rintro e w2 ⟨rfl, b2⟩
  have D2 := D1.below b2
  have C0 : Kp w w2 (w.heap.size + 1) ⟨1048576, -1, false, []⟩ [] 0 none 0 := ⟨⟨B1, D2, hB1, fun h => absurd h (by simp)⟩, bs_nil _ _, .inl ⟨rfl, rfl, rfl⟩, rfl, D2.lt.1, b1.trans (b2.mono zz)⟩
  clear D1 D2 hB1 b1 b2 z1 zz
  go_wp2_with fail
  go_loopw [23, 5, 6] (fun iv av sv wr => ∃ (i : Nat) (a : Ad) (all : List UInt8) (sure : Nat) (Aa : Option Addr) (ca : Nat), iv = .int .i64 (i : Int) ∧ av = .slice Aa all.length ca ∧ sv = .int .i64 (sure : Int) ∧ i ≤ os.length ∧ Kp w wr (w.heap.size + 1) a all sure Aa ca) (fun iv _ _ _ => os.length - (intOf iv).toNat)
  case atStart => exact ⟨0, _, [], 0, none, 0, rfl, rfl, rfl, Nat.zero_le _, C0⟩
  case round =>
    obtain ⟨i, a, all, sure, Aa, ca, rfl, rfl, rfl, hi, C⟩ := hrel
    rename World => W0
    have hz := C.dw
    obtain ⟨B, D, hB, hAB⟩ := C.out
    have hal : all.length ≤ 1048576 := by have := D.le; rw [C.room, C.st.sum] at this; omega
    have hsl := C.st.le
    have hacl := C.bs.le
    have hacm := C.bs.max
    unfold maxLen at hacm
    have HC := Lib.hid C
    have HB := Lib.hid hB
    have HAB := Lib.hid hAB
    have HD := Lib.hid D
    have HBB := Lib.hid C.below
    clear C hB D hAB
    by_cases hlt : i < os.length
    · obtain ⟨ad, A1, c1, A2, c2, hA, X⟩ := (HO.out.below HBB.out).get (List.getElem?_eq_getElem hlt)
      subst hA
      generalize os[i] = o at X
      have x0 := X.x0
      have x1 := X.x1
      have x2 := X.x2
      have x3 := X.x3
      have hpl := X.bs.le
      have hpm := X.bs.max
      unfold maxLen at hpm
      have hi0 : 0 ≤ (i : Int) := by omega
      have HX := Lib.hid X
      clear X
      by_cases h60 : i < 60
      · by_cases hp : o.p.length ≤ 3000
        · have HWX := Lib.hid ((Below.refl _ _).alloc (Nat.le_refl _) (.cells #[.int .i64 o.k, .int .i64 o.n, .slice A1 o.p.length c1, .slice A2 o.ks.length c2] 33) : Below W0.heap.size W0 _)
          have HBX := Lib.hid (HBB.out.trans (HWX.out.mono HBB.out.size))
          have HDX := Lib.hid (HD.out.below HWX.out)
          have HAX := Lib.hid (HC.out.bs.below HWX.out)
          by_cases k0 : o.k = 0
          · have e0 : (o.k == (0 : Int)) = true := by simpa using k0
            clear k0
            obtain ⟨r, a', hr, hroom, hs⟩ := ks_app HC.out.st o.p
            have HR := Lib.hid (app_DD HDX.out (by decide) (HX.out.bs.below (HWX.out.mono HBB.out.size)) rfl (not_in HX.out.bs HB.out) hr)
            have HRM := Lib.hid (hroom.trans HC.out.room)
            clear hr hroom
            go_wp2_with fail
            refine HR.out.mono ?_
            rintro e W2 ⟨rfl, B', D', T', hB'⟩
            have hz2 := D'.lt.1
            have HD2 := Lib.hid D'
            have HA2 := Lib.hid (T'.bs HAX.out HAB.out)
            have HB2 := Lib.hid (up hB' HB.out HBX.out.size)
            have HBB2 := Lib.hid (T'.bel HBX.out HB.out (Nat.le_refl _))
            have HZ := Lib.hid T'.size
            have hzs : W0.heap.size < W2.heap.size := by have := T'.size; simp at this; omega
            have HN2 : Hid (0 < all.length → ∀ ad : Addr, Aa = some ad → ¬ B' ad.block) := Lib.hid fun hl ad e hb => by
              rcases hB' _ hb with h | h
              · exact HAB.out hl ad e h
              · obtain ⟨ad', e', hk, _⟩ := HC.out.bs.at_ hl
                rw [e] at e'
                cases e'
                have := HWX.out.size
                omega
            have y2 : W2.cell? ⟨W0.heap.size, 2, none⟩ = some (.slice A1 o.p.length c1) := T'.cell (by simp) (fun hb => Nat.lt_irrefl _ (HD.out.bt _ hb))
            have HP2 := Lib.hid (T'.bs (HX.out.bs.below (HWX.out.mono HBB.out.size)) (not_in HX.out.bs HB.out))
            clear D' T' hB'
            rcases hs with ⟨rfl, hs⟩ | ⟨hr0, hs⟩
            · have HS := Lib.hid hs
              clear hs
              go_wp2_with fail
              go_region_law (first
                | (refine step_app rfl (.tmp 45) (.tmp 46) rfl W2.heap.size (.slice (some ⟨W2.heap.size, 0, none⟩) 0 0) [] rfl (by first | exact lit_ob W2 W2.heap.size W2.heap.size rfl (Nat.le_refl _) #[] 0 [] rfl rfl (by decide) | exact (lit_ob W2 W2.heap.size W2.heap.size rfl (Nat.le_refl _) #[] 0 [] rfl rfl (by decide)).drew) Aa all.length ca all rfl rfl W0.heap.size (by first | exact HA2.out.alloc (Nat.le_trans HWX.out.size HZ.out) _ | exact (HA2.out.alloc (Nat.le_trans HWX.out.size HZ.out) _).drew) all.length (by simp) (by simp; omega) (by simp) ?_; intro A3 c3 w3 ob3 gr3 at3; have y3 := (Tn.ofGrown gr3).cell (show World.cell? _ ⟨W0.heap.size, 2, none⟩ = some (.slice A1 o.p.length c1) from keptA y2) (fun e => by simp [Value.ownBlock] at e; omega); have hp3 := (Tn.ofGrown gr3).bs (show Bs _ w.heap.size A1 c1 o.p from by first | exact HP2.out.alloc HBB2.out.size _ | exact (HP2.out.alloc HBB2.out.size _).drew) (fun hl ad e e2 => by obtain ⟨ad', e', hk, _⟩ := HP2.out.at_ hl; rw [e] at e'; cases e'; simp [Value.ownBlock] at e2; have := HBB2.out.size; omega); have hX3 := two_app (X := _) (by first | exact (Below.refl _ _).alloc (Nat.le_refl _) _ | exact ((Below.refl _ _).alloc (Nat.le_refl _) _).trans (below_drewN _ _ 1)) gr3; have hz3 := hX3.size)
                | (refine step_app rfl (.tmp 47) (.tmp 49) rfl W2.heap.size (.slice A3 all.length c3) all rfl ob3 A1 o.p.length c1 o.p rfl rfl w.heap.size (by first | exact hp3 | exact hp3.drew) (all.length + o.p.length) rfl (by omega) (by first | exact hz3 | simpa using hz3) ?_; intro A4 c4 w4 ob4 gr4 at4; have hX4 := two_app2 hX3 ob3 (by first | exact gr4 | exact grown_drew gr4)))
              all_goals
                have HC2 := Lib.hid (⟨⟨B', HD2.out.below hX4, HB2.out, fun hl ad e hb => by have := HD2.out.bt _ hb; obtain ⟨g, e2, hg, _⟩ := ob4.addr (by rw [ob4.bs.2]; exact hl); rw [e] at e2; cases e2; simp at this; omega⟩, ob4.bs.1, HS.out, HRM.out, Nat.lt_of_lt_of_le HD2.out.lt.1 hX4.size, HBB2.out.trans (hX4.mono HBB2.out.size)⟩ : Kp w w4 _ a' (all ++ o.p) sure A4 c4)
                clear ob3 gr3 at3 ob4 gr4 at4 hX3 hX4 hp3 hz3
                go_wp2
                go_roundw
                case rel => exact ⟨i + 1, _, all ++ o.p, sure, A4, c4, by go_num, by rw [List.length_append], rfl, hlt, HC2.out⟩
                case measure => simp [intOf]; omega
            · have q0 : (r == (0 : Int)) = false := by simpa using hr0
              have HC2 := Lib.hid (⟨⟨B', HD2.out, HB2.out, HN2.out⟩, HA2.out.more (Nat.le_trans HWX.out.size HZ.out), hs, HRM.out, HD2.out.lt.1, HBB2.out⟩ : Kp w _ _ a' all sure Aa ca)
              clear hr0 hs
              go_wp2
              go_roundw
              case rel => exact ⟨i + 1, _, all, sure, Aa, ca, by go_num, rfl, rfl, hlt, HC2.out⟩
              case measure => simp [intOf]; omega
          · by_cases k1 : o.k = 1
            · have e0 : (o.k == (0 : Int)) = false := by simpa using k0
              have e1 : (o.k == (1 : Int)) = true := by simpa using k1
              clear k0 k1
              obtain ⟨r, a', hr, hroom, hs⟩ := ks_sync HC.out.st
              have HR := Lib.hid (sync_DD HDX.out (by decide) (by decide) hr)
              have HRM := Lib.hid (hroom.trans HC.out.room)
              clear hr hroom
              go_wp2_with fail
              refine HR.out.mono ?_
              rintro e W2 ⟨rfl, B', D', T', hB'⟩
              have hz2 := D'.lt.1
              have HD2 := Lib.hid D'
              have HA2 := Lib.hid (T'.bs HAX.out HAB.out)
              have HB2 := Lib.hid (up hB' HB.out HBX.out.size)
              have HBB2 := Lib.hid (T'.bel HBX.out HB.out (Nat.le_refl _))
              have HZ := Lib.hid T'.size
              have hzs : W0.heap.size < W2.heap.size := by have := T'.size; simp at this; omega
              have HN2 : Hid (0 < all.length → ∀ ad : Addr, Aa = some ad → ¬ B' ad.block) := Lib.hid fun hl ad e hb => by
                rcases hB' _ hb with h | h
                · exact HAB.out hl ad e h
                · obtain ⟨ad', e', hk, _⟩ := HC.out.bs.at_ hl
                  rw [e] at e'
                  cases e'
                  have := HWX.out.size
                  omega
              clear D' T' hB'
              rcases hs with ⟨rfl, hs⟩ | ⟨hr0, hs⟩
              · have HC2 := Lib.hid (⟨⟨B', HD2.out, HB2.out, HN2.out⟩, HA2.out.more (Nat.le_trans HWX.out.size HZ.out), hs, HRM.out, HD2.out.lt.1, HBB2.out⟩ : Kp w _ _ a' all all.length Aa ca)
                clear hs
                go_wp2
                go_roundw
                case rel => exact ⟨i + 1, _, all, all.length, Aa, ca, by go_num, rfl, rfl, hlt, HC2.out⟩
                case measure => simp [intOf]; omega
              · have q0 : (r == (0 : Int)) = false := by simpa using hr0
                have HC2 := Lib.hid (⟨⟨B', HD2.out, HB2.out, HN2.out⟩, HA2.out.more (Nat.le_trans HWX.out.size HZ.out), hs, HRM.out, HD2.out.lt.1, HBB2.out⟩ : Kp w _ _ a' all sure Aa ca)
                clear hr0 hs
                go_wp2
                go_roundw
                case rel => exact ⟨i + 1, _, all, sure, Aa, ca, by go_num, rfl, rfl, hlt, HC2.out⟩
                case measure => simp [intOf]; omega
            · by_cases k3 : o.k = 3
              · have e0 : (o.k == (0 : Int)) = false := by simpa using k0
                have e1 : (o.k == (1 : Int)) = false := by simpa using k1
                have e3 : (o.k == (3 : Int)) = true := by simpa using k3
                clear k0 k1 k3
                obtain ⟨r, a', hr, hroom, hs⟩ := ks_fuse HC.out.st o.n
                have HR := Lib.hid (fuse_DD HDX.out HX.out.n2 hr)
                have HRM := Lib.hid (hroom.trans HC.out.room)
                clear hr hroom
                go_wp2_with fail
                refine HR.out.mono ?_
                rintro e W2 ⟨rfl, B', D', T', hB'⟩
                have hz2 := D'.lt.1
                have HD2 := Lib.hid D'
                have HA2 := Lib.hid (T'.bs HAX.out HAB.out)
                have HB2 := Lib.hid (up hB' HB.out HBX.out.size)
                have HBB2 := Lib.hid (T'.bel HBX.out HB.out (Nat.le_refl _))
                have HZ := Lib.hid T'.size
                have hzs : W0.heap.size < W2.heap.size := by have := T'.size; simp at this; omega
                have HN2 : Hid (0 < all.length → ∀ ad : Addr, Aa = some ad → ¬ B' ad.block) := Lib.hid fun hl ad e hb => by
                  rcases hB' _ hb with h | h
                  · exact HAB.out hl ad e h
                  · obtain ⟨ad', e', hk, _⟩ := HC.out.bs.at_ hl
                    rw [e] at e'
                    cases e'
                    have := HWX.out.size
                    omega
                clear D' T' hB'
                have HC2 := Lib.hid (⟨⟨B', HD2.out, HB2.out, HN2.out⟩, HA2.out.more (Nat.le_trans HWX.out.size HZ.out), hs, HRM.out, HD2.out.lt.1, HBB2.out⟩ : Kp w _ _ a' all sure Aa ca)
                clear hs
                go_wp2
                go_roundw
                case rel => exact ⟨i + 1, _, all, sure, Aa, ca, by go_num, rfl, rfl, hlt, HC2.out⟩
                case measure => simp [intOf]; omega
              · by_cases k4 : o.k = 4
                · have e0 : (o.k == (0 : Int)) = false := by simpa using k0
                  have e1 : (o.k == (1 : Int)) = false := by simpa using k1
                  have e3 : (o.k == (3 : Int)) = false := by simpa using k3
                  have e4 : (o.k == (4 : Int)) = true := by simpa using k4
                  clear k0 k1 k3 k4
                  obtain ⟨j, hj1, hj2, hs⟩ := ks_crash HC.out.st o.ks
                  have HR := Lib.hid (crash_DD HDX.out (HX.out.sr.below (HWX.out.mono HBB.out.size)) (Nat.le_trans HBB.out.size HWX.out.size) rfl (not_inS HX.out.sr HB.out))
                  go_wp2_with fail
                  refine HR.out.mono ?_
                  rintro e W2 ⟨rfl, B', D', T', hB'⟩
                  have hz2 := D'.lt.1
                  have HD2 := Lib.hid D'
                  have HA2 := Lib.hid (T'.bs HAX.out HAB.out)
                  have HB2 := Lib.hid (up hB' HB.out HBX.out.size)
                  have HBB2 := Lib.hid (T'.bel HBX.out HB.out (Nat.le_refl _))
                  have HZ := Lib.hid T'.size
                  have hzs : W0.heap.size < W2.heap.size := by have := T'.size; simp at this; omega
                  have HN2 : Hid (0 < all.length → ∀ ad : Addr, Aa = some ad → ¬ B' ad.block) := Lib.hid fun hl ad e hb => by
                    rcases hB' _ hb with h | h
                    · exact HAB.out hl ad e h
                    · obtain ⟨ad', e', hk, _⟩ := HC.out.bs.at_ hl
                      rw [e] at e'
                      cases e'
                      have := HWX.out.size
                      omega
                  have HRM : Hid ((crashD a o.ks).room = 1048576) := Lib.hid HC.out.room
                  clear D' T' hB'
                  rcases hs with hs | ⟨hs, hj0, hs0⟩
                  · have hrd := read_DD HD2.out rfl (x := ⟨1, all.take j, j, true⟩) (by show _ ∈ crashA a.L o.ks; rw [hs]; simp)
                    have hbl : (all.take j).length = j := by simp; omega
                    simp only [hbl] at hrd
                    have HRD := Lib.hid hrd
                    have HS : Hid (Ks (crashD a o.ks).L (all.take j) j) := Lib.hid (by show Ks (crashA a.L o.ks) _ _; rw [hs]; exact .inr ⟨true, rfl, by omega, fun h => by cases h⟩)
                    have HBL := Lib.hid hbl
                    clear hrd hs hbl
                    go_wp2_with fail
                    refine HRD.out.mono ?_
                    rintro e W3 ⟨A3, c3, rfl, ob3, b3⟩
                    have hq1 := fun k => bs_str (ob3.bs.1.drewN k) HBL.out
                    have hq2 := fun k => bs_str (((HA2.out.below (b3.mono (Nat.le_trans HWX.out.size HZ.out))).to hj2).drewN k) HBL.out
                    have g1 : decide (j < sure) = false := by simp; omega
                    have g2 : decide (all.length < j) = false := by simp; omega
                    have HJ1 := Lib.hid hj1
                    have HC2 := Lib.hid (fun k => (⟨⟨B', HD2.out.below (b3.trans (below_drewN _ _ k)), HB2.out, ob_far ob3 HD2.out.bt⟩, (ob3.bs.1.drewN k), HS.out, HRM.out, (HD2.out.below (b3.trans (below_drewN _ _ k))).lt.1, HBB2.out.trans ((b3.trans (below_drewN _ _ k)).mono HBB2.out.size)⟩ : Kp w (W3.drewN k) _ (crashD a o.ks) (all.take j) j A3 c3))
                    clear ob3 b3
                    go_wp2_with fail
                    go_big_quiet (fail)
                    go_wp2
                    go_roundw
                    case rel => exact ⟨i + 1, _, all.take j, j, A3, c3, by go_num, by rw [HBL.out], rfl, hlt, HC2.out nq⟩
                    case measure => simp [intOf]; omega
                  · have HRD := Lib.hid (read_DDn HD2.out (n := 1) (v := 6) (by decide) (by decide) (.inr ⟨rfl, by show hasA (crashA a.L o.ks) 1 = false; rw [hs]; rfl, rfl⟩))
                    have HS : Hid (Ks (crashD a o.ks).L [] 0) := Lib.hid (.inl ⟨hs, rfl, rfl⟩)
                    have g0 : decide (0 < sure) = false := by simp; omega
                    have g3 : decide ((0 : Int) < (sure : Int)) = false := by simp; omega
                    have g4 : decide ((all.length : Int) < 0) = false := by simp
                    have HJ := Lib.hid (And.intro hj0 (And.intro hs0 (And.intro hj1 hj2)))
                    clear hs hj0 hs0 hj1 hj2
                    go_wp2_with fail
                    refine HRD.out.mono ?_
                    rintro e W3 ⟨rfl, rfl⟩
                    have hq1 : ∀ k, (convert 30 9 (.slice none 0 0)).run Try.prog (W3.drewN k) = .ok (.string (strB [])) (W3.drewN k) := fun k => bs_str (bs_nil (W3.drewN k) 0) rfl
                    have hq2 : ∀ k, (convert 30 9 (.slice Aa 0 ca)).run Try.prog (W3.drewN k) = .ok (.string (strB [])) (W3.drewN k) := fun k => bs_str (by have := (HA2.out.to (j := 0) (Nat.zero_le _)).drewN k; rwa [List.take_zero] at this) rfl
                    have HC2 := Lib.hid (fun k => (⟨⟨B', HD2.out.drewN k, HB2.out, fun h => absurd h (by simp)⟩, bs_nil _ _, HS.out, HRM.out, (HD2.out.drewN k).lt.1, HBB2.out.trans ((below_drewN _ _ k))⟩ : Kp w (W3.drewN k) _ (crashD a o.ks) [] 0 none 0))
                    go_wp2_with fail
                    go_big_quiet (fail)
                    go_wp2
                    go_roundw
                    case rel => exact ⟨i + 1, _, [], 0, none, 0, by go_num, rfl, rfl, hlt, HC2.out nq⟩
                    case measure => simp [intOf]; omega
                · have e0 : (o.k == (0 : Int)) = false := by simpa using k0
                  have e1 : (o.k == (1 : Int)) = false := by simpa using k1
                  have e3 : (o.k == (3 : Int)) = false := by simpa using k3
                  have e4 : (o.k == (4 : Int)) = false := by simpa using k4
                  clear k0 k1 k3 k4
                  have HC2 := Lib.hid (⟨⟨B, HDX.out, HB.out, HAB.out⟩, HAX.out.more HWX.out.size, HC.out.st, HC.out.room, HDX.out.lt.1, HBX.out⟩ : Kp w _ _ a all sure Aa ca)
                  go_wp2
                  go_roundw
                  case rel => exact ⟨i + 1, _, all, sure, Aa, ca, by go_num, rfl, rfl, hlt, HC2.out⟩
                  case measure => simp [intOf]; omega
        · have hp2 : 3000 < o.p.length := by omega
          have HWX := Lib.hid ((Below.refl _ _).alloc (Nat.le_refl _) (.cells #[.int .i64 o.k, .int .i64 o.n, .slice A1 o.p.length c1, .slice A2 o.ks.length c2] 33) : Below W0.heap.size W0 _)
          clear hp
          go_wp2
          go_ret
          exact ⟨rfl, HBB.out.trans (HWX.out.mono HBB.out.size)⟩
      · have HWX := Lib.hid ((Below.refl _ _).alloc (Nat.le_refl _) (.cells #[.int .i64 o.k, .int .i64 o.n, .slice A1 o.p.length c1, .slice A2 o.ks.length c2] 33) : Below W0.heap.size W0 _)
        go_wp2
        go_ret
        exact ⟨rfl, HBB.out.trans (HWX.out.mono HBB.out.size)⟩
    · obtain rfl : i = os.length := by omega
      go_wp2
      go_ret
      exact ⟨rfl, HBB.out⟩
end Go.Proofs.Ytclejjofoagmfaa
