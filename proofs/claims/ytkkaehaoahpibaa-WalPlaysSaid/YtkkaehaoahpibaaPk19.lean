/- The document's Open of a log. -/
import Derived.Test.YtkkaehaoahpibaaPk14
import Derived.Test.YtkkaehaoahpibaaPk17
import Derived.Test.YtkkaehaoahpibaaPk18
namespace Go.Proofs.Ytkkaehaoahpibaa
open Go.RowKit Go.BigFrame

theorem info_int9 : (Try.prog.info? 3).map (fun i => (i.zero, i.size, i.bytes)) = some (some (.int .i64 0), 1, 8) := by kernel_rfl
/-- The document's log in memory: its disk, its segment, its base, its records. -/
structure Wq (w : World) (q m : Nat) (seg : Int) (A1 : Option Addr) (n1 c1 : Nat) (A2 : Option Addr) (n2 c2 : Nat) : Prop where
  x0 : w.cell? ⟨q, 0, none⟩ = some (rP m)
  x1 : w.cell? ⟨q, 1, none⟩ = some (.int .i64 seg)
  x2 : w.cell? ⟨q, 2, none⟩ = some (.slice A1 n1 c1)
  x3 : w.cell? ⟨q, 3, none⟩ = some (.slice A2 n2 c2)
  fr : ∀ j, w.frozen? ⟨q, j, none⟩ = false
section
variable {P : Nat → Prop} {w wx wy : World} {q m n1 c1 n2 c2 : Nat} {seg : Int} {A1 A2 : Option Addr}
theorem Wq.lt (h : Wq w q m seg A1 n1 c1 A2 n2 c2) : q < w.heap.size := World.block_lt_of_cell? _ _ h.x0
theorem Wq.tn (h : Wq wx q m seg A1 n1 c1 A2 n2 c2) (t : Tn P wx wy) (hp : ¬ P q) : Wq wy q m seg A1 n1 c1 A2 n2 c2 :=
  ⟨t.cell h.x0 hp, t.cell h.x1 hp, t.cell h.x2 hp, t.cell h.x3 hp, fun j => (t.frozen (p := ⟨q, j, none⟩) h.lt hp).trans (h.fr j)⟩
theorem Wq.below (h : Wq wx q m seg A1 n1 c1 A2 n2 c2) (hb : Below wx.heap.size wx wy) : Wq wy q m seg A1 n1 c1 A2 n2 c2 := h.tn (Tn.ofNew (P := fun _ => False) hb) fun h => h
end
theorem Bk.mono {w : World} {K K' c : Nat} {A : Option Addr} {p : List UInt8} (h : Bk w K A c p) (hK : K' ≤ K) : Bk w K' A c p := ⟨h.bs, fun ad e hl => Nat.le_trans hK (h.ge ad e hl)⟩
/-- The document's disk, seen from the world w, in which its blocks were C. -/
def Ew (w : World) (C : Nat → Prop) (m : Nat) (a : Ad) (wr : World) : Prop := ∃ C', RD wr C' m a ∧ Tn C w wr ∧ ∀ k, C' k → C k ∨ w.heap.size ≤ k
section
variable {w wx wy : World} {C : Nat → Prop} {m : Nat} {a a' : Ad} {r : Int} {f : Nat} {args : Array Value}
theorem Ew.start (h : RD w C m a) : Ew w C m a w := ⟨C, h, Tn.refl _ _, fun _ h => .inl h⟩
theorem Ew.tn (h : Ew w C m a wx) : Tn C w wx := by obtain ⟨C', D, t, _⟩ := h; exact t
theorem Ew.below (h : Ew w C m a wx) (hb : Below wx.heap.size wx wy) : Ew w C m a wy := by
  obtain ⟨C', D, t, hC⟩ := h
  exact ⟨C', D.below hb, t.then (Tn.ofNew hb), hC⟩
theorem Ew.step (h : Ew w C m a wx) (H : ∀ C', RD wx C' m a → (∀ k, C' k → C k ∨ w.heap.size ≤ k) → Calls Try.prog f args wx (Rn wx C' m r a')) : Calls Try.prog f args wx fun e w' => e = .returned (.int .i64 r) ∧ Ew w C m a' w' := by
  obtain ⟨C', D, t, hC⟩ := h
  refine (H C' D hC).mono ?_
  rintro e w' ⟨rfl, C2, D2, t2, hC2⟩
  have hs := t.size
  exact ⟨rfl, C2, D2, t.thenQ t2 fun k hk hb => (hC k hb).elim id fun h => absurd hk (by omega), fun k hk => (hC2 k hk).elim (hC k) fun h => .inr (by omega)⟩
theorem Ew.of (hb : Below w.heap.size w wx) (h : Calls Try.prog f args wx (Rn wx C m r a')) : Calls Try.prog f args wx fun e w' => e = .returned (.int .i64 r) ∧ Ew w C m a' w' := by
  refine h.mono ?_
  rintro e w' ⟨rfl, C', D', t, hC⟩
  exact ⟨rfl, C', D', (Tn.ofNew hb).then t, fun k hk => (hC k hk).elim .inl fun h => .inr (Nat.le_trans hb.size h)⟩
end
/-- All that stands beside the disk where the log is laid. -/
structure Wt (w : World) (C : Nat → Prop) (m q : Nat) (s : Int) (base : List UInt8) (rs : List (List UInt8)) (Ah : Option Addr) (ch : Nat) (hd : List Int) (a : Ad) (A1 : Option Addr) (c1 : Nat) (A2 : Option Addr) (c2 : Nat) (wx : World) : Prop where
  wq : Wq wx q m s A1 base.length c1 A2 rs.length c2
  bk : Bk wx w.heap.size A1 c1 base
  rw_ : Rw wx w.heap.size 32 (.slice A2 rs.length c2) rs
  had : So encI 1 wx w.heap.size 3 (.slice Ah hd.length ch) hd
  rd : RD wx C m a
  bel : Below w.heap.size w wx
  hq : w.heap.size ≤ q
section
variable {w wx wy : World} {C : Nat → Prop} {m q ch c1 c2 : Nat} {s : Int} {base : List UInt8} {rs : List (List UInt8)} {Ah A1 A2 : Option Addr} {hd : List Int} {a : Ad}
theorem Wt.below (h : Wt w C m q s base rs Ah ch hd a A1 c1 A2 c2 wx) (hb : Below wx.heap.size wx wy) : Wt w C m q s base rs Ah ch hd a A1 c1 A2 c2 wy :=
  ⟨h.wq.below hb, h.bk.below hb, h.rw_.below hb, h.had.below hb, h.rd.below hb, h.bel.trans (hb.mono h.bel.size), h.hq⟩
end
/-- What the document's Open leaves. -/
def ROut (w : World) (C : Nat → Prop) (m : Nat) (s : Int) (base : List UInt8) (rs : List (List UInt8)) (r : Int) (a' : Ad) (e : Ending) (w' : World) : Prop :=
  Ew w C m a' w' ∧ ((r = 0 ∧ ∃ q A1 c1 A2 c2, e = .returned (.tuple #[.pointer (some ⟨q, 0, none⟩), .int .i64 0]) ∧ Wq w' q m s A1 base.length c1 A2 rs.length c2 ∧ w.heap.size ≤ q ∧ Bk w' w.heap.size A1 c1 base ∧ Rw w' w.heap.size 32 (.slice A2 rs.length c2) rs ∧ ∃ C', RD w' C' m a' ∧ (∀ k, C' k → C k ∨ w.heap.size ≤ k) ∧ ¬ C' q) ∨
  (r ≠ 0 ∧ e = .returned (.tuple #[.pointer none, .int .i64 r])))
def rsA (a : Ad) : Int × Ad × Int := if aloneA a.L = true then (0, a, grA a.L) else ((layA a (abv (grA a.L)) (framesB (lgA a.L).1 (lgA a.L).2) (a.L.map As.n)).1, (layA a (abv (grA a.L)) (framesB (lgA a.L).1 (lgA a.L).2) (a.L.map As.n)).2, abv (grA a.L))
/-- Where the log goes on, by the first i segments. -/
def segAt (L : List As) (i : Nat) : Int := if i = 0 then 1 else IntKind.i64.wrap (grA (L.take i) + 1)
theorem seg_lay (a : Ad) (hn : ∀ x ∈ a.L, 1 ≤ x.n ∧ x.n ≤ 9223372036854775807) (F : List UInt8) (os : List Int) : layA a (segAt a.L a.L.length) F os = layA a (abv (grA a.L)) F os ∧ ((layA a (abv (grA a.L)) F os).1 = 0 → abv (grA a.L) = segAt a.L a.L.length) := by
  have key : segAt a.L a.L.length = abv (grA a.L) ∨ (segAt a.L a.L.length < 1 ∧ abv (grA a.L) < 1) := by
    unfold segAt
    rw [List.take_length]
    by_cases h0 : a.L.length = 0
    · left
      rw [if_pos h0]
      have : a.L = [] := List.eq_nil_of_length_eq_zero h0
      rw [this]
      rfl
    · rw [if_neg h0]
      obtain ⟨x, hx⟩ : ∃ x, a.L[a.L.length - 1]? = some x := ⟨_, List.getElem?_eq_getElem (by omega)⟩
      have hg : grA a.L = x.n := by unfold grA; rw [List.getElem?_map, hx]; rfl
      have hr := hn x (List.mem_of_getElem? hx)
      rw [hg]
      by_cases hm : x.n = 9223372036854775807
      · right
        rw [hm]
        exact ⟨by decide, by decide⟩
      · left
        rw [wrap_in (by omega) (by omega)]
        unfold abv
        rw [if_neg hm]
  rcases key with h | ⟨h1, h2⟩
  · rw [h]
    exact ⟨rfl, fun _ => rfl⟩
  · have e1 : ∀ s : Int, s < 1 → appD a s F = (if a.down = true then 5 else 1, a) := fun s hs => by
      unfold appD
      by_cases hd : a.down = true
      · rw [if_pos hd, if_pos hd]
      · rw [if_neg hd, if_pos hs, if_neg hd]
    have hne : ¬ (if a.down = true then (5 : Int) else 1) = 0 := by split <;> decide
    unfold layA
    rw [e1 _ h1, e1 _ h2]
    simp only [if_neg hne]
    exact ⟨trivial, fun h => absurd h hne⟩
set_option maxRecDepth 100000 in
set_option maxHeartbeats 6400000 in
theorem ropen_any {w : World} {C : Nat → Prop} {m : Nat} {a : Ad} (R : RD w C m a) (hL : Lim a) (hn : ∀ x ∈ a.L, 1 ≤ x.n ∧ x.n ≤ 9223372036854775807) (hd : a.down = false) :
    ∀ {r s : Int} {a' : Ad}, rsA a = (r, a', s) → Calls Try.prog 9 #[rP m] w (ROut w C m s (lgA a.L).1 (lgA a.L).2 r a') := by
  intro r s a' hrs
  obtain ⟨A, cap, qs, K0, e0, hC⟩ := R.ex
  obtain ⟨room, fuse, down, L⟩ := a
  simp only at hd e0 K0 hn
  subst hd e0
  have hlim := hL
  have hln : qs.length ≤ 1024 := by have := hlim.ln; simpa using this
  have hsm : sumA (qs.map Rq.x) ≤ 67108864 := by have h1 := hlim.le; have h2 := hlim.rm; simp only at h1 h2; omega
  have HK0 := Lib.hid K0
  have HR := Lib.hid R
  have HL := Lib.hid hL
  have HN := Lib.hid hn
  have HRS := Lib.hid hrs
  have HCW : Hid (∀ k, C k → k < w.heap.size) := Lib.hid R.bt
  have hml : m < w.heap.size := World.block_lt_of_cell? _ _ K0.c0
  have hql := (K0.so.sr encQ_len).1.le
  have hqm := (K0.so.sr encQ_len).1.max
  unfold maxLen at hqm
  have k3 := K0.c3
  clear R hL hn hlim K0 hrs
  go_enter Try.func9, Try.ntmps9
  go_wp2_with fail
  have HB1 : Hid (Below w.heap.size w (w.alloc (.cells #[rP m, .int .i64 1, .slice none 0 0, .slice none 0 0] 45))) := Lib.hid ((Below.refl _ _).alloc (Nat.le_refl _) _)
  have HW1 : Hid (Wq (w.alloc (.cells #[rP m, .int .i64 1, .slice none 0 0, .slice none 0 0] 45)) w.heap.size m 1 none 0 0 none 0 0) := Lib.hid ⟨by simp [go_sem], by simp [go_sem], by simp [go_sem], by simp [go_sem], fun j => by simp [go_sem]⟩
  obtain ⟨q, hq⟩ : ∃ q, q = w.heap.size := ⟨_, rfl⟩
  have HQ := Lib.hid hq
  generalize w.alloc (.cells #[rP m, .int .i64 1, .slice none 0 0, .slice none 0 0] 45) = W1 at HB1 HW1 ⊢
  rw [← hq] at HW1 ⊢
  clear hq k3
  go_loopw [6, 5] (fun iv hv wr => ∃ (i : Nat) (Ah : Option Addr) (ch : Nat), iv = .int .i64 (i : Int) ∧ hv = .slice Ah i ch ∧ i ≤ qs.length ∧ Hid (So encI 1 wr (q + 1) 3 (.slice Ah i ch) (((qs.map Rq.x).take i).map As.n)) ∧ Hid (Wq wr q m (segAt (qs.map Rq.x) i) none 0 0 none 0 0) ∧ Hid (Below w.heap.size w wr)) (fun iv _ _ => qs.length - (intOf iv).toNat)
  case atStart => exact ⟨0, none, 0, rfl, rfl, Nat.zero_le _, Lib.hid (So.empty _ _ _ _ _), HW1, HB1⟩
  case round =>
    obtain ⟨i, Ah, ch, rfl, rfl, hi, HSO, HW, HB⟩ := hrel
    rename World => wr
    have K1 := HK0.out.below HB.out
    have k1 := K1.c1
    have y0 := HW.out.x0
    have y1 := HW.out.x1
    have y2 := HW.out.x2
    have y3 := HW.out.x3
    have yf := HW.out.fr
    have hyl := HW.out.lt
    have hws := HB.out.size
    have hqw1 : w.heap.size ≤ q := by have := HQ.out; omega
    have hqw2 : q ≤ w.heap.size := by have := HQ.out; omega
    clear HW1 HB1
    by_cases hlt : i < qs.length
    · obtain ⟨g, rfl⟩ := K1.addr (by omega)
      obtain ⟨x, hx⟩ : ∃ x, qs[i]? = some x := ⟨_, List.getElem?_eq_getElem hlt⟩
      have gs : wr.cell? ⟨g, i * 4, none⟩ = some (.int .i64 x.x.n) := (K1.slot hx).1 0 _ rfl
      have hgl : g < wr.heap.size := World.block_lt_of_cell? _ _ gs
      have hgw : g < w.heap.size := (HK0.out.so.lt g rfl).2
      have hgq : g ≠ q := by omega
      have hmq : m ≠ q := by omega
      have hxr := HN.out x.x (List.mem_map_of_mem (List.mem_of_getElem? hx))
      have i1 : (i : Int) < qs.length := by omega
      obtain ⟨nv, hwn⟩ : ∃ nv, IntKind.i64.wrap (x.x.n + 1) = nv := ⟨_, rfl⟩
      have hlen9 : (((qs.map Rq.x).take i).map As.n).length = i := by simp; omega
      have HNX : Hid (((qs.map Rq.x).take (i + 1)).map As.n = ((qs.map Rq.x).take i).map As.n ++ [x.x.n]) := Lib.hid (by rw [List.take_add_one, List.getElem?_map, hx]; simp)
      have HSG : Hid (segAt (qs.map Rq.x) (i + 1) = nv) := Lib.hid (by
        rw [← hwn]
        unfold segAt
        rw [if_neg (by omega)]
        unfold grA
        have e1 : ((qs.map Rq.x).take (i + 1)).length = i + 1 := by simp; omega
        rw [e1, HNX.out, List.getElem?_append_right (by rw [hlen9]; omega), hlen9]
        have e2 : i + 1 - 1 - i = 0 := by omega
        rw [e2]
        simp only [List.getElem?_cons_zero, Option.getD_some])
      have HL9 := Lib.hid hlen9
      clear K1 hx hlen9
      generalize segAt (qs.map Rq.x) i = sg at *
      go_wp2_with (at_builtin; refine wpList_pushE Try.underlying33 info_int9 rfl (by decide) wr rfl (.tmp 31) (.tmp 40) rfl (q + 1) (.slice Ah i ch) _ rfl HSO.out x.x.n _ rfl rfl (by intro u hu; simp [encI] at hu; subst hu; rfl) _ wr.heap.size rfl rfl (i + 1) (by rw [HL9.out]) (by unfold maxLen; omega) (by omega) (by omega) ?_; intro A8 c8 w8 so8 gr8 at8; have hown8 : ¬ (Value.slice Ah i ch).ownBlock = some q := (fun e => by have := (HSO.out.lt q e).1; omega); have t8 : Tn (fun k => (Value.slice Ah i ch).ownBlock = some k) wr w8 := (Tn.ofGrown gr8).mono (fun k _ e => e.symm); have B8 : Below w.heap.size w w8 := t8.bel HB.out (fun k hk => by have := (HSO.out.lt k hk).1; omega) (Nat.le_refl _); have z0 := t8.cell y0 hown8; have z1 := t8.cell y1 hown8; have z2 := t8.cell y2 hown8; have z3 := t8.cell y3 hown8; have zf : ∀ j, w8.frozen? ⟨q, j, none⟩ = false := (fun j => (t8.frozen (p := ⟨q, j, none⟩) hyl hown8).trans (yf j)); have zl := World.block_lt_of_cell? _ _ z0; have j1 := (HK0.out.below B8).c1; have js := (HB.out.cell (p := ⟨g, i * 4, none⟩) hgw).symm.trans gs; have js8 := (B8.cell (p := ⟨g, i * 4, none⟩) hgw).trans js; have hg8 : g < w8.heap.size := Nat.lt_of_lt_of_le hgl t8.size; have HFIN : Hid (∀ v, v = Value.int .i64 nv → Below w.heap.size w (w8.setCell ⟨q, 1, none⟩ v) ∧ Wq (w8.setCell ⟨q, 1, none⟩ v) q m nv none 0 0 none 0 0 ∧ So encI 1 (w8.setCell ⟨q, 1, none⟩ v) (q + 1) 3 (.slice A8 (i + 1) c8) ((((qs.map Rq.x).take i).map As.n) ++ [x.x.n])) := Lib.hid (fun v hv => by subst hv; exact ⟨B8.setCell (p := ⟨q, 1, none⟩) (by simp only; omega) _, ⟨by simp [go_sem, z0], by simp [go_sem, z1], by simp [go_sem, z2], by simp [go_sem, z3], fun j => by simp [go_sem, zf]⟩, so8.tn (Tn.setCell w8 q 1 _) fun g9 hg9 e9 => by have := (so8.lt g9 hg9).1; omega⟩); clear B8 t8 so8 gr8 at8)
      go_roundw
      case rel => exact ⟨i + 1, A8, c8, by go_num, rfl, hlt, Lib.hid (by rw [HNX.out]; exact (HFIN.out _ rfl).2.2), Lib.hid (by rw [HSG.out]; exact (HFIN.out _ rfl).2.1), Lib.hid (HFIN.out _ rfl).1⟩
      case measure => simp [intOf]; omega
    · obtain rfl : i = qs.length := by omega
      have HAD : Hid (So encI 1 wr (q + 1) 3 (.slice Ah ((qs.map Rq.x).map As.n).length ch) ((qs.map Rq.x).map As.n)) := Lib.hid (by
        have h := HSO.out
        rw [List.take_of_length_le (by simp)] at h
        simpa using h)
      obtain ⟨s0, hss⟩ : ∃ s0, s0 = segAt (qs.map Rq.x) (qs.map Rq.x).length := ⟨_, rfl⟩
      have hss2 : segAt (qs.map Rq.x) qs.length = s0 := by rw [hss, List.length_map]
      rw [hss2] at HW
      have HS0 := Lib.hid hss
      have hadc := HAD.out.sr encI_len |>.1.le
      have hadm := HAD.out.sr encI_len |>.1.max
      unfold maxLen at hadm
      rw [List.length_map, List.length_map] at hadc
      have i1 : ¬ ((qs.length : Int) < (qs.length : Int)) := by omega
      generalize wr = wb at *
      clear hss2 hss HSO
      go_wp2_with fail
      go_loopw [7] (fun iv wr => ∃ k : Nat, k ≤ qs.length ∧ iv = .int .i64 ((qs.length : Int) - 1 - (k : Int)) ∧ Hid (∀ (j : Nat) x, qs.length - k ≤ j → (qs.map Rq.x)[j]? = some x → readB x.b = none) ∧ Hid (Below wb.heap.size wb wr)) (fun iv _ => (intOf iv + 1).toNat)
      case atStart => exact ⟨0, Nat.zero_le _, by simp, Lib.hid (fun j x hj hx => by have := (List.getElem?_eq_some_iff.1 hx).1; simp at this; omega), Lib.hid (Below.refl _ _)⟩
      case round =>
        obtain ⟨k, hk, rfl, HNO, HB2⟩ := hrel
        rename World => wc
        by_cases hlt : k < qs.length
        · obtain ⟨j, hj⟩ : ∃ j, j = qs.length - 1 - k := ⟨_, rfl⟩
          have hqi : (qs.length : Int) - 1 - (k : Int) = (j : Int) := by omega
          have hjl : j < qs.length := by omega
          have hjk : qs.length - k = j + 1 := by omega
          rw [hqi]
          obtain ⟨x, hxq⟩ : ∃ x, qs[j]? = some x := ⟨_, List.getElem?_eq_getElem hjl⟩
          have hxm : (qs.map Rq.x)[j]? = some x.x := by rw [List.getElem?_map, hxq]; rfl
          have hbl : x.x.b.length ≤ 67108864 := Nat.le_trans (sum_mem (List.mem_of_getElem? hxm)) hsm
          have HQI := Lib.hid hqi
          have HJK := Lib.hid hjk
          have HXM := Lib.hid hxm
          have hwb := HB.out.size
          have HBC : Hid (Below w.heap.size w wc) := Lib.hid (HB.out.trans (HB2.out.mono hwb))
          have HCB := Lib.hid (rbytes_any (HK0.out.below HBC.out) hxq (by omega) hbl)
          have j0 : (0 : Int) ≤ (j : Int) := by omega
          have hj1 := hjl
          clear hj hqi hjk hxm hxq hjl
          go_wp2_with fail
          refine HCB.out.mono ?_
          rintro e w3 ⟨A3, c3, rfl, ob3, b3⟩
          have HO3 := Lib.hid ob3
          have HB3 := Lib.hid b3
          have hoc := ob3.bs.1.le
          clear ob3 b3 HCB
          go_wp2_with fail
          refine (stands_any w3.heap.size A3 c3 x.x.b w3 HO3.out.bs.1 (Nat.le_refl _) (by omega)).mono ?_
          rintro e w4 ⟨b4, hcase⟩
          have hz3 := HB3.out.size
          have hz2 := HB2.out.size
          have HB24 : Hid (Below wb.heap.size wb w4) := Lib.hid (HB2.out.trans ((HB3.out.trans (b4.mono hz3)).mono hz2))
          have HBE : Hid (Below w.heap.size w w4) := Lib.hid (HB.out.trans (HB24.out.mono hwb))
          rcases hcase with ⟨hn9, rfl⟩ | ⟨base, rs, n, A1, c1, A2, c2, hn9, rfl, bk, rw_⟩
          · have HNO2 : Hid (∀ (j2 : Nat) x, qs.length - (k + 1) ≤ j2 → (qs.map Rq.x)[j2]? = some x → readB x.b = none) := Lib.hid fun j2 y hj2 hy => by
              by_cases e9 : j2 = j
              · subst e9
                rw [HXM.out] at hy
                cases hy
                exact hn9
              · exact HNO.out j2 y (by have := HJK.out; omega) hy
            clear hn9 b4
            go_wp2_with fail
            go_roundw
            case rel => exact ⟨k + 1, by omega, by have := HQI.out; congr 1; push_cast; omega, HNO2, HB24⟩
            case measure => have := HQI.out; simp [intOf]; try omega
          · have wq4 := HW.out.below HB24.out
            have y0 := wq4.x0
            have y1 := wq4.x1
            have y2 := wq4.x2
            have y3 := wq4.x3
            have yf := wq4.fr
            have yl := wq4.lt
            have hnew : newA (qs.map Rq.x) = some (x.x, base, rs, n) := newA_some HXM.out (fun j2 y hj2 hy => HNO.out j2 y (by have := HJK.out; omega) hy) hn9
            have HNEW := Lib.hid hnew
            have hqw2 : q ≤ w.heap.size := by have := HQ.out; omega
            have hqw1 : w.heap.size ≤ q := by have := HQ.out; omega
            have hqb : q < wb.heap.size := HW.out.lt
            have HWQ2 : Hid (Wq ((w4.setCell ⟨q, 2, none⟩ (.slice A1 base.length c1)).setCell ⟨q, 3, none⟩ (.slice A2 rs.length c2)) q m s0 A1 base.length c1 A2 rs.length c2) := Lib.hid ⟨by simpa [go_sem] using y0, by simpa [go_sem] using y1, by simp [go_sem, y2], by simp [go_sem, y3], fun j => by simp [go_sem, yf]⟩
            have t2 : Tn (· = q) w4 ((w4.setCell ⟨q, 2, none⟩ (.slice A1 base.length c1)).setCell ⟨q, 3, none⟩ (.slice A2 rs.length c2)) := (Tn.setCell w4 q 2 _).then (Tn.setCell _ q 3 _)
            have HT2 := Lib.hid t2
            have HBK := Lib.hid (bk.tn t2 fun k hk e => by omega)
            have HRW := Lib.hid (rw_.tn t2 fun k hk e => by omega)
            have HHD := Lib.hid ((HAD.out.below HB24.out).tn t2 fun g hg e => by have := (HAD.out.lt g hg).1; omega)
            have HBT := Lib.hid (t2.bel HBE.out (fun k hk => by omega) (Nat.le_refl _))
            have hc1 := bk.bs.le
            have hc2 := rw_.pr.1.le
            have hws3 : w.heap.size ≤ w3.heap.size := by have := HBC.out.size; omega
            clear wq4 hn9 b4 hnew t2 bk rw_
            by_cases hl1 : qs.length = 1
            · have q1b : ((qs.length : Int) == 1) = true := by simp; omega
              by_cases hnl : n = x.x.b.length
              · have q2b : ((n : Int) == (x.x.b.length : Int)) = true := by simp; omega
                obtain ⟨h, rfl⟩ := so_addr HAD.out (by simp; omega)
                have hj0 : j = 0 := by omega
                have hgr : grA (qs.map Rq.x) = x.x.n := by
                  unfold grA
                  have e1 : (qs.map Rq.x).length - 1 = 0 := by simp; omega
                  rw [e1, List.getElem?_map]
                  have h9 := HXM.out
                  rw [hj0] at h9
                  rw [h9]
                  rfl
                have v1 : ((w4.setCell ⟨q, 2, none⟩ (.slice A1 base.length c1)).setCell ⟨q, 3, none⟩ (.slice A2 rs.length c2)).cell? ⟨h, 0, none⟩ = some (.int .i64 x.x.n) := so_slot HHD.out (by rw [List.getElem?_map]; have h9 := HXM.out; rw [hj0] at h9; rw [h9]; rfl)
                have hhq : h ≠ q := by have := (HAD.out.lt h rfl).1; omega
                have HFIN : Hid (∀ v, v = Value.int .i64 x.x.n → ROut w C m s (lgA (qs.map Rq.x)).1 (lgA (qs.map Rq.x)).2 r a' (.returned (.tuple #[.pointer (some ⟨q, 0, none⟩), .int .i64 0])) (((w4.setCell ⟨q, 2, none⟩ (.slice A1 base.length c1)).setCell ⟨q, 3, none⟩ (.slice A2 rs.length c2)).setCell ⟨q, 1, none⟩ v)) := Lib.hid fun v hv => by
                  subst hv
                  have hal : aloneA (qs.map Rq.x) = true := by unfold aloneA; rw [HNEW.out]; simp [alB, hl1, hnl]
                  have h9 := HRS.out
                  unfold rsA at h9
                  rw [if_pos hal, hgr] at h9
                  simp only [Prod.mk.injEq] at h9
                  obtain ⟨rfl, rfl, rfl⟩ := h9
                  have hlg : lgA (qs.map Rq.x) = (base, rs) := by unfold lgA; rw [HNEW.out]
                  rw [hlg]
                  have t3 := Tn.setCell ((w4.setCell ⟨q, 2, none⟩ (.slice A1 base.length c1)).setCell ⟨q, 3, none⟩ (.slice A2 rs.length c2)) q 1 (.int .i64 x.x.n)
                  have B5 := t3.bel HBT.out (fun k hk => by omega) (Nat.le_refl _)
                  have z0 := HWQ2.out.x0
                  have z1 := HWQ2.out.x1
                  have z2 := HWQ2.out.x2
                  have z3 := HWQ2.out.x3
                  have zf := HWQ2.out.fr
                  have R5 := HR.out.below B5
                  generalize (w4.setCell ⟨q, 2, none⟩ (.slice A1 base.length c1)).setCell ⟨q, 3, none⟩ (.slice A2 rs.length c2) = w5 at *
                  exact ⟨⟨C, R5, (Tn.ofNew B5), fun _ h => .inl h⟩, .inl ⟨rfl, q, A1, c1, A2, c2, rfl, ⟨by simpa [go_sem] using z0, by simp [go_sem, z1], by simpa [go_sem] using z2, by simpa [go_sem] using z3, fun j => by simp [go_sem, zf]⟩, by omega, (HBK.out.tn t3 fun k hk e => by omega).mono hws3, (HRW.out.tn t3 fun k hk e => by omega).more hws3, C, R5, fun _ h => .inl h, fun h => by have := HCW.out _ h; omega⟩⟩
                clear hl1 hnl hgr hj0
                go_wp2_with fail
                (try rw [Exit.noGoto_ret])
                refine bodyPost_ret (v := .tuple #[.pointer (some ⟨q, 0, none⟩), .int .i64 0]) (by simp [results, Try.results9, go_sem]) rfl ?_
                exact HFIN.out _ rfl
              · have q2b : ((n : Int) == (x.x.b.length : Int)) = false := by simp; omega
                have hal : aloneA (qs.map Rq.x) = false := by unfold aloneA; rw [HNEW.out]; simp [alB, hnl]
                obtain ⟨HWT, HRL, HEQ, HBD⟩ : Hid (Wt w C m q s0 base rs Ah ch ((qs.map Rq.x).map As.n) ⟨room, fuse, false, qs.map Rq.x⟩ A1 c1 A2 c2 ((w4.setCell ⟨q, 2, none⟩ (.slice A1 base.length c1)).setCell ⟨q, 3, none⟩ (.slice A2 rs.length c2))) ∧ Hid (layA ⟨room, fuse, false, qs.map Rq.x⟩ s0 (framesB base rs) ((qs.map Rq.x).map As.n) = (r, a')) ∧ Hid ((lgA (qs.map Rq.x)).1 = base ∧ (lgA (qs.map Rq.x)).2 = rs ∧ (r = 0 → s = s0)) ∧ Hid (base.length ≤ 1048576 ∧ (∀ x ∈ rs, x.length ≤ 1048576) ∧ (recsB rs).length ≤ 67108864) := by
                  have h9 := HRS.out
                  have hlg : lgA (qs.map Rq.x) = (base, rs) := by unfold lgA; rw [HNEW.out]
                  unfold rsA at h9
                  rw [if_neg (by rw [hal]; decide), hlg] at h9
                  simp only [Prod.mk.injEq] at h9
                  have hsl := seg_lay ⟨room, fuse, false, qs.map Rq.x⟩ HN.out (framesB base rs) ((qs.map Rq.x).map As.n)
                  simp only [← HS0.out] at hsl
                  have hb9 := readB_bounds (newA_at HNEW.out).2
                  exact ⟨Lib.hid ⟨HWQ2.out, HBK.out.mono hws3, HRW.out.more hws3, HHD.out.more (by omega), HR.out.below HBT.out, HBT.out, hqw1⟩, Lib.hid (by rw [hsl.1]; exact Prod.ext h9.1 h9.2.1), Lib.hid ⟨by rw [hlg], by rw [hlg], fun hr9 => by rw [← h9.2.2]; exact hsl.2 (by rw [h9.1]; exact hr9)⟩, Lib.hid ⟨hb9.1, hb9.2.1, by omega⟩⟩
                clear hal hnl HWQ2 HT2 HBK HRW HHD HBT
                go_wp2_with fail
                generalize (w4.setCell ⟨q, 2, none⟩ (.slice A1 base.length c1)).setCell ⟨q, 3, none⟩ (.slice A2 rs.length c2) = wt at *
                obtain ⟨hads, hhd⟩ : ∃ hads, hads = (qs.map Rq.x).map As.n := ⟨_, rfl⟩
                have HHL : Hid (hads.length = qs.length) := Lib.hid (by rw [hhd]; simp)
                rw [← hhd] at HRL HWT
                obtain ⟨L9, hL9⟩ : ∃ L9, L9 = framesB base rs := ⟨_, rfl⟩
                rw [← hL9] at HRL
                obtain ⟨r0, a0, ha0⟩ : ∃ r0 a0, appD ⟨room, fuse, false, qs.map Rq.x⟩ s0 L9 = (r0, a0) := ⟨_, _, rfl⟩
                have HA := Lib.hid ha0
                have HWH : Hid (∀ wx, (Wt w C m q s0 base rs Ah ch hads ⟨room, fuse, false, qs.map Rq.x⟩ A1 c1 A2 c2) wx → Calls Try.prog 33 #[.slice A1 base.length c1, .slice A2 rs.length c2] wx (NewB wx L9)) := Lib.hid fun wx T => by
                  rw [hL9]
                  exact whole_any wx.heap.size A1 c1 base A2 c2 rs wx T.bk.bs T.rw_.pr.1 (Nat.le_refl _) HBD.out.1 HBD.out.2.1 (by rw [framesB_len]; have h1 := HBD.out.1; have h2 := HBD.out.2.2; omega)
                have t0 := HWT.out.wq.x0
                have hb1 := HWT.out.bk.bs.le
                have hb2 := HWT.out.rw_.pr.1.le
                have hqtl := HWT.out.wq.lt
                clear ha0 hL9 hhd
                apply region_VT (Hb w) (Wt w C m q s0 base rs Ah ch hads ⟨room, fuse, false, qs.map Rq.x⟩ A1 c1 A2 c2) (fun v w' => v = .int .i64 r0 ∧ ∃ wA, (Wt w C m q s0 base rs Ah ch hads ⟨room, fuse, false, qs.map Rq.x⟩ A1 c1 A2 c2) wA ∧ Ew wA C m a0 w') 14 [.inl (rP m), .inl (.pointer (some ⟨q, 0, none⟩)), .inl (.pointer (some ⟨q, 0, none⟩)), .inl (.pointer (some ⟨q, 1, none⟩)), .inl (.int .i64 s0), .inl (.pointer (some ⟨q, 0, none⟩)), .inl (.pointer (some ⟨q, 0, none⟩)), .inl (.pointer (some ⟨q, 2, none⟩)), .inl (.slice A1 base.length c1), .inl (.pointer (some ⟨q, 0, none⟩)), .inl (.pointer (some ⟨q, 0, none⟩)), .inl (.pointer (some ⟨q, 3, none⟩)), .inl (.slice A2 rs.length c2), .inr L9, .inl undef] (.inl undef)
                case mono => exact fun p v w0 w9 h hb => Hb.mono h hb
                case hm => kernel_rfl
                case hf => kernel_rfl
                case hl => kernel_rfl
                case hQ => exact (by intro c x y w e h; exact And.intro (e.symm.trans (And.left h)) (And.right h))
                case hF => intro vs; simp only [putAll, Act.put, List.setIfInBounds_toArray, List.set_cons_zero, List.set_cons_succ, Nat.reduceAdd]; rfl
                case h0 => exact HWT.out.below ⟨rfl, rfl, rfl, Nat.le_refl _, fun _ _ => rfl⟩
                case hstep =>
                  repeat' (first | exact AllOps.nil | apply AllOps.cons)
                  · intro vs wx hG hd K hK
                    replace hK : ∀ (uu : Value) (w' : World), Below wx.heap.size wx w' → ((Wt w C m q s0 base rs Ah ch hads ⟨room, fuse, false, qs.map Rq.x⟩ A1 c1 A2 c2)) w' → (Hb w) (.inl (rP m)) uu w' → K _ w' := hK
                    simp only [Act.put, List.setIfInBounds_toArray, List.set_cons_zero, List.set_cons_succ] at hK ⊢
                    have HK := Lib.hid hK
                    have HG := Lib.hid hG
                    clear hK hd
                    clear hG
                    go_simp
                    exact HK.out _ _ (Below.refl _ _) HG.out rfl
                  · intro vs wx hG hd K hK
                    replace hK : ∀ (uu : Value) (w' : World), Below wx.heap.size wx w' → ((Wt w C m q s0 base rs Ah ch hads ⟨room, fuse, false, qs.map Rq.x⟩ A1 c1 A2 c2)) w' → (Hb w) (.inl (.pointer (some ⟨q, 0, none⟩))) uu w' → K _ w' := hK
                    simp only [Act.put, List.setIfInBounds_toArray, List.set_cons_zero, List.set_cons_succ] at hK ⊢
                    have HK := Lib.hid hK
                    have HG := Lib.hid hG
                    clear hK hd
                    clear hG
                    go_simp
                    exact HK.out _ _ (Below.refl _ _) HG.out rfl
                  · intro vs wx hG hd K hK
                    have e1 : vs 1 = .pointer (some ⟨q, 0, none⟩) := hd.get (j := 1) (by simp [depsOf, Region.binds])
                    replace hK : ∀ (uu : Value) (w' : World), Below wx.heap.size wx w' → ((Wt w C m q s0 base rs Ah ch hads ⟨room, fuse, false, qs.map Rq.x⟩ A1 c1 A2 c2)) w' → (Hb w) (.inl (.pointer (some ⟨q, 0, none⟩))) uu w' → K _ w' := hK
                    simp only [Act.put, List.setIfInBounds_toArray, List.set_cons_zero, List.set_cons_succ, e1] at hK ⊢
                    have HK := Lib.hid hK
                    have HG := Lib.hid hG
                    clear hK hd e1
                    clear hG
                    go_simp
                    exact HK.out _ _ (Below.refl _ _) HG.out rfl
                  · intro vs wx hG hd K hK
                    have e2 : vs 2 = .pointer (some ⟨q, 0, none⟩) := hd.get (j := 2) (by simp [depsOf, Region.binds])
                    replace hK : ∀ (uu : Value) (w' : World), Below wx.heap.size wx w' → ((Wt w C m q s0 base rs Ah ch hads ⟨room, fuse, false, qs.map Rq.x⟩ A1 c1 A2 c2)) w' → (Hb w) (.inl (.pointer (some ⟨q, 1, none⟩))) uu w' → K _ w' := hK
                    simp only [Act.put, List.setIfInBounds_toArray, List.set_cons_zero, List.set_cons_succ, e2] at hK ⊢
                    have HK := Lib.hid hK
                    have HG := Lib.hid hG
                    clear hK hd e2
                    clear hG
                    go_simp
                    exact HK.out _ _ (Below.refl _ _) HG.out rfl
                  · intro vs wx hG hd K hK
                    have e3 : vs 3 = .pointer (some ⟨q, 1, none⟩) := hd.get (j := 3) (by simp [depsOf, Region.binds])
                    replace hK : ∀ (uu : Value) (w' : World), Below wx.heap.size wx w' → ((Wt w C m q s0 base rs Ah ch hads ⟨room, fuse, false, qs.map Rq.x⟩ A1 c1 A2 c2)) w' → (Hb w) (.inl (.int .i64 s0)) uu w' → K _ w' := hK
                    simp only [Act.put, List.setIfInBounds_toArray, List.set_cons_zero, List.set_cons_succ, e3] at hK ⊢
                    have HK := Lib.hid hK
                    have HG := Lib.hid hG
                    clear hK hd e3
                    have gq1 := HG.out.wq.x1
                    have gq2 := HG.out.wq.x2
                    have gq3 := HG.out.wq.x3
                    clear hG
                    go_simp
                    exact HK.out _ _ (Below.refl _ _) HG.out rfl
                  · intro vs wx hG hd K hK
                    replace hK : ∀ (uu : Value) (w' : World), Below wx.heap.size wx w' → ((Wt w C m q s0 base rs Ah ch hads ⟨room, fuse, false, qs.map Rq.x⟩ A1 c1 A2 c2)) w' → (Hb w) (.inl (.pointer (some ⟨q, 0, none⟩))) uu w' → K _ w' := hK
                    simp only [Act.put, List.setIfInBounds_toArray, List.set_cons_zero, List.set_cons_succ] at hK ⊢
                    have HK := Lib.hid hK
                    have HG := Lib.hid hG
                    clear hK hd
                    clear hG
                    go_simp
                    exact HK.out _ _ (Below.refl _ _) HG.out rfl
                  · intro vs wx hG hd K hK
                    have e5 : vs 5 = .pointer (some ⟨q, 0, none⟩) := hd.get (j := 5) (by simp [depsOf, Region.binds])
                    replace hK : ∀ (uu : Value) (w' : World), Below wx.heap.size wx w' → ((Wt w C m q s0 base rs Ah ch hads ⟨room, fuse, false, qs.map Rq.x⟩ A1 c1 A2 c2)) w' → (Hb w) (.inl (.pointer (some ⟨q, 0, none⟩))) uu w' → K _ w' := hK
                    simp only [Act.put, List.setIfInBounds_toArray, List.set_cons_zero, List.set_cons_succ, e5] at hK ⊢
                    have HK := Lib.hid hK
                    have HG := Lib.hid hG
                    clear hK hd e5
                    clear hG
                    go_simp
                    exact HK.out _ _ (Below.refl _ _) HG.out rfl
                  · intro vs wx hG hd K hK
                    have e6 : vs 6 = .pointer (some ⟨q, 0, none⟩) := hd.get (j := 6) (by simp [depsOf, Region.binds])
                    replace hK : ∀ (uu : Value) (w' : World), Below wx.heap.size wx w' → ((Wt w C m q s0 base rs Ah ch hads ⟨room, fuse, false, qs.map Rq.x⟩ A1 c1 A2 c2)) w' → (Hb w) (.inl (.pointer (some ⟨q, 2, none⟩))) uu w' → K _ w' := hK
                    simp only [Act.put, List.setIfInBounds_toArray, List.set_cons_zero, List.set_cons_succ, e6] at hK ⊢
                    have HK := Lib.hid hK
                    have HG := Lib.hid hG
                    clear hK hd e6
                    clear hG
                    go_simp
                    exact HK.out _ _ (Below.refl _ _) HG.out rfl
                  · intro vs wx hG hd K hK
                    have e7 : vs 7 = .pointer (some ⟨q, 2, none⟩) := hd.get (j := 7) (by simp [depsOf, Region.binds])
                    replace hK : ∀ (uu : Value) (w' : World), Below wx.heap.size wx w' → ((Wt w C m q s0 base rs Ah ch hads ⟨room, fuse, false, qs.map Rq.x⟩ A1 c1 A2 c2)) w' → (Hb w) (.inl (.slice A1 base.length c1)) uu w' → K _ w' := hK
                    simp only [Act.put, List.setIfInBounds_toArray, List.set_cons_zero, List.set_cons_succ, e7] at hK ⊢
                    have HK := Lib.hid hK
                    have HG := Lib.hid hG
                    clear hK hd e7
                    have gq1 := HG.out.wq.x1
                    have gq2 := HG.out.wq.x2
                    have gq3 := HG.out.wq.x3
                    clear hG
                    go_simp
                    exact HK.out _ _ (Below.refl _ _) HG.out rfl
                  · intro vs wx hG hd K hK
                    replace hK : ∀ (uu : Value) (w' : World), Below wx.heap.size wx w' → ((Wt w C m q s0 base rs Ah ch hads ⟨room, fuse, false, qs.map Rq.x⟩ A1 c1 A2 c2)) w' → (Hb w) (.inl (.pointer (some ⟨q, 0, none⟩))) uu w' → K _ w' := hK
                    simp only [Act.put, List.setIfInBounds_toArray, List.set_cons_zero, List.set_cons_succ] at hK ⊢
                    have HK := Lib.hid hK
                    have HG := Lib.hid hG
                    clear hK hd
                    clear hG
                    go_simp
                    exact HK.out _ _ (Below.refl _ _) HG.out rfl
                  · intro vs wx hG hd K hK
                    have e9 : vs 9 = .pointer (some ⟨q, 0, none⟩) := hd.get (j := 9) (by simp [depsOf, Region.binds])
                    replace hK : ∀ (uu : Value) (w' : World), Below wx.heap.size wx w' → ((Wt w C m q s0 base rs Ah ch hads ⟨room, fuse, false, qs.map Rq.x⟩ A1 c1 A2 c2)) w' → (Hb w) (.inl (.pointer (some ⟨q, 0, none⟩))) uu w' → K _ w' := hK
                    simp only [Act.put, List.setIfInBounds_toArray, List.set_cons_zero, List.set_cons_succ, e9] at hK ⊢
                    have HK := Lib.hid hK
                    have HG := Lib.hid hG
                    clear hK hd e9
                    clear hG
                    go_simp
                    exact HK.out _ _ (Below.refl _ _) HG.out rfl
                  · intro vs wx hG hd K hK
                    have e10 : vs 10 = .pointer (some ⟨q, 0, none⟩) := hd.get (j := 10) (by simp [depsOf, Region.binds])
                    replace hK : ∀ (uu : Value) (w' : World), Below wx.heap.size wx w' → ((Wt w C m q s0 base rs Ah ch hads ⟨room, fuse, false, qs.map Rq.x⟩ A1 c1 A2 c2)) w' → (Hb w) (.inl (.pointer (some ⟨q, 3, none⟩))) uu w' → K _ w' := hK
                    simp only [Act.put, List.setIfInBounds_toArray, List.set_cons_zero, List.set_cons_succ, e10] at hK ⊢
                    have HK := Lib.hid hK
                    have HG := Lib.hid hG
                    clear hK hd e10
                    clear hG
                    go_simp
                    exact HK.out _ _ (Below.refl _ _) HG.out rfl
                  · intro vs wx hG hd K hK
                    have e11 : vs 11 = .pointer (some ⟨q, 3, none⟩) := hd.get (j := 11) (by simp [depsOf, Region.binds])
                    replace hK : ∀ (uu : Value) (w' : World), Below wx.heap.size wx w' → ((Wt w C m q s0 base rs Ah ch hads ⟨room, fuse, false, qs.map Rq.x⟩ A1 c1 A2 c2)) w' → (Hb w) (.inl (.slice A2 rs.length c2)) uu w' → K _ w' := hK
                    simp only [Act.put, List.setIfInBounds_toArray, List.set_cons_zero, List.set_cons_succ, e11] at hK ⊢
                    have HK := Lib.hid hK
                    have HG := Lib.hid hG
                    clear hK hd e11
                    have gq1 := HG.out.wq.x1
                    have gq2 := HG.out.wq.x2
                    have gq3 := HG.out.wq.x3
                    clear hG
                    go_simp
                    exact HK.out _ _ (Below.refl _ _) HG.out rfl
                  · intro vs wx hG hd K hK
                    have e8 : vs 8 = .slice A1 base.length c1 := hd.get (j := 8) (by simp [depsOf, Region.binds])
                    have e12 : vs 12 = .slice A2 rs.length c2 := hd.get (j := 12) (by simp [depsOf, Region.binds])
                    replace hK : ∀ (uu : Value) (w' : World), Below wx.heap.size wx w' → ((Wt w C m q s0 base rs Ah ch hads ⟨room, fuse, false, qs.map Rq.x⟩ A1 c1 A2 c2)) w' → (Hb w) (.inr L9) uu w' → K _ w' := hK
                    simp only [Act.put, List.setIfInBounds_toArray, List.set_cons_zero, List.set_cons_succ, e8, e12] at hK ⊢
                    have HK := Lib.hid hK
                    have HG := Lib.hid hG
                    clear hK hd e8 e12
                    clear hG
                    go_simp
                    go_at_call 33
                    refine (HWH.out _ HG.out).mono ?_
                    rintro e w9 ⟨A9, c9, rfl, ho, hb⟩
                    exact HK.out _ _ hb (HG.out.below hb) ⟨A9, c9, rfl, ho.more HG.out.bel.size⟩
                  · intro vs wx hG hd K hK
                    have e0 : vs 0 = rP m := hd.get (j := 0) (by simp [depsOf, Region.binds])
                    have e4 : vs 4 = .int .i64 s0 := hd.get (j := 4) (by simp [depsOf, Region.binds])
                    obtain ⟨A13, c13, e13, q13⟩ : ∃ Aq cq, vs 13 = .slice Aq L9.length cq ∧ Ob wx w.heap.size (.slice Aq L9.length cq) L9 := hd.get (j := 13) (by simp [depsOf, Region.binds])
                    replace hK : ∀ (uu : Value) (w' : World), (fun v w' => v = .int .i64 r0 ∧ ∃ wA, (Wt w C m q s0 base rs Ah ch hads ⟨room, fuse, false, qs.map Rq.x⟩ A1 c1 A2 c2) wA ∧ Ew wA C m a0 w') uu w' → K _ w' := hK
                    simp only [Act.put, List.setIfInBounds_toArray, List.set_cons_zero, List.set_cons_succ, e0, e4, e13] at hK ⊢
                    have HK := Lib.hid hK
                    have HG := Lib.hid hG
                    clear hK hd e0 e4 e13
                    clear hG
                    go_simp
                    go_at_call 20
                    refine (rappend_RD (r := r0) (a' := a0) HG.out.rd HL.out q13.bs.1 (Nat.le_refl _) (fun hl ad e hb => by have h5 := (own_block q13 hl e rfl).1; have h6 := HCW.out _ hb; omega) HA.out).mono ?_
                    rintro e w9 ⟨rfl, C9, D9, T9, hC9⟩
                    exact HK.out _ _ ⟨rfl, wx, HG.out, C9, D9, T9, hC9⟩
                  · intro vs wx hE K hK
                    simp only [Act.put, List.setIfInBounds_toArray, List.set_cons_zero, List.set_cons_succ] at hK ⊢
                    have HK := Lib.hid hK
                    clear hK hE
                    go_simp
                    exact HK.out
                case hend =>
                  intro vs wy hE he
                  obtain ⟨e1, wA, T, E9⟩ := hE
                  rw [he, e1]
                  have HWA := Lib.hid T
                  have HE0 := Lib.hid E9
                  have HNC : Hid (∀ k, w.heap.size ≤ k → ¬ C k) := Lib.hid fun k hk hc => by have := HCW.out k hc; omega
                  have HNQ : Hid (¬ C q) := Lib.hid (HNC.out q T.hq)
                  have HQG : Hid (w.heap.size ≤ q) := Lib.hid T.hq
                  have hhc := T.had.sr encI_len |>.1.le
                  rw [HHL.out] at hhc
                  have hhm := T.had.sr encI_len |>.1.max
                  unfold maxLen at hhm
                  have wq9 := T.wq.tn E9.tn HNQ.out
                  have f0 := wq9.x0
                  have f1 := wq9.x1
                  have hql9 := wq9.lt
                  have HL1 := Lib.hid (lim_app HL.out HA.out)
                  clear he e1 T E9 wq9
                  by_cases hr0 : r0 = 0
                  · subst hr0
                    obtain ⟨r3, a3, h3⟩ : ∃ r3 a3, opD syncA a0 s0 = (r3, a3) := ⟨_, _, rfl⟩
                    have HD3 : Hid (dropsA (r3, a3) (hads.drop 0) = (r, a')) := Lib.hid (by
                      have h9 := HRL.out
                      unfold layA at h9
                      rw [HA.out, if_pos rfl] at h9
                      unfold keepA at h9
                      rw [h3] at h9
                      simpa using h9)
                    have HC3 := Lib.hid (HE0.out.step fun C' R' _ => rsync_RD R' HL1.out h3)
                    have HL3 := Lib.hid (lim_sync HL1.out h3)
                    clear h3
                    go_wp2_with (go_at_call 15; refine HC3.out.mono ?_; rintro e w2 ⟨rfl, E2⟩; have HE2 := Lib.hid E2; clear E2)
                    go_loopw [14, 13] (fun iv ev wr => ∃ (i : Nat) (r1 : Int) (a1 : Ad), iv = .int .i64 (i : Int) ∧ ev = .int .i64 r1 ∧ i ≤ qs.length ∧ Hid (dropsA (r1, a1) (hads.drop i) = (r, a')) ∧ Hid (Lim a1) ∧ Hid (Ew wA C m a1 wr)) (fun iv _ _ => qs.length - (intOf iv).toNat)
                    case atStart => exact ⟨0, r3, a3, rfl, rfl, Nat.zero_le _, HD3, HL3, HE2⟩
                    case round =>
                      obtain ⟨i, r1, a1, rfl, rfl, hi, HDR, HLM, HE⟩ := hrel
                      rename World => wr
                      by_cases hlt : i < qs.length
                      · have i1 : (i : Int) < qs.length := by omega
                        by_cases hr1 : r1 = 0
                        · subst hr1
                          have so3 := HWA.out.had.tn HE.out.tn fun g hg hc => HNC.out g (HWA.out.had.lt g hg).1 hc
                          obtain ⟨h, rfl⟩ := so_addr so3 (by have := HHL.out; omega)
                          obtain ⟨o, ho⟩ : ∃ o, hads[i]? = some o := ⟨_, List.getElem?_eq_getElem (by have := HHL.out; omega)⟩
                          have v1 := so_slot so3 ho
                          obtain ⟨r2, a2, h2⟩ : ∃ r2 a2, opD dropA a1 o = (r2, a2) := ⟨_, _, rfl⟩
                          have HN2 : Hid (dropsA (r2, a2) (hads.drop (i + 1)) = (r, a')) := Lib.hid (by
                            have h9 := HDR.out
                            have e9 : hads.drop i = o :: hads.drop (i + 1) := by
                              obtain ⟨hl9, he9⟩ := List.getElem?_eq_some_iff.1 ho
                              rw [List.drop_eq_getElem_cons hl9, he9]
                            rw [e9] at h9
                            simpa [dropsA, h2] using h9)
                          have HC2 := Lib.hid (HE.out.step fun C' R' _ => rdrop_RD R' HLM.out h2)
                          have HL2 := Lib.hid (lim_drop HLM.out h2)
                          clear so3 ho h2 HDR
                          go_wp2_with (go_at_call 23; refine HC2.out.mono ?_; rintro e w2 ⟨rfl, E2⟩; have HE2 := Lib.hid E2; clear E2)
                          go_roundw
                          case rel => exact ⟨i + 1, r2, a2, by go_num, rfl, hlt, HN2, HL2, HE2⟩
                          case measure => simp [intOf]; try omega
                        · have r1b : (r1 == (0 : Int)) = false := by simpa using hr1
                          have HPAIR : Hid ((r1, a1) = (r, a')) := Lib.hid (by rw [← HDR.out, drops_stop hr1])
                          have hz := hr1
                          clear HDR
                          have HROUT : Hid (Ew w C m a1 wr) := Lib.hid (by
                            obtain ⟨C9, D9, T9, h9⟩ := HE.out
                            exact ⟨C9, D9, (Tn.ofNew HWA.out.bel).then T9, fun k hk => (h9 k hk).elim .inl fun h => .inr (Nat.le_trans HWA.out.bel.size h)⟩)
                          obtain ⟨q1, q2, q3⟩ := HEQ.out
                          have zb : (r1 == (0 : Int)) = false := by simpa using hz
                          have HZ := Lib.hid hz
                          have HPR := Lib.hid HPAIR.out
                          clear hz q1 q2 q3 HEQ
                          go_wp2_with fail
                          (try rw [Exit.noGoto_ret])
                          refine bodyPost_ret (v := .tuple #[.pointer none, .int .i64 r1]) (by simp [results, Try.results9, go_sem]) rfl ?_
                          obtain ⟨p1, p2⟩ := Prod.mk.inj HPR.out
                          subst p1 p2
                          exact ⟨HROUT.out, .inr ⟨HZ.out, rfl⟩⟩
                      · obtain rfl : i = qs.length := by omega
                        have HPAIR : Hid ((r1, a1) = (r, a')) := Lib.hid (by rw [← HDR.out, List.drop_eq_nil_of_le (by have := HHL.out; omega)]; rfl)
                        clear HDR
                        have HROUT : Hid (Ew w C m a1 wr) := Lib.hid (by
                          obtain ⟨C9, D9, T9, h9⟩ := HE.out
                          exact ⟨C9, D9, (Tn.ofNew HWA.out.bel).then T9, fun k hk => (h9 k hk).elim .inl fun h => .inr (Nat.le_trans HWA.out.bel.size h)⟩)
                        obtain ⟨q1, q2, q3⟩ := HEQ.out
                        by_cases hz : r1 = 0
                        · have zb : (r1 == (0 : Int)) = true := by simpa using hz
                          have HF := Lib.hid (HWA.out.wq.tn HE.out.tn HNQ.out)
                          have HFB := Lib.hid (HWA.out.bk.tn HE.out.tn HNC.out)
                          have HFR := Lib.hid (HWA.out.rw_.tn HE.out.tn HNC.out)
                          have HFC : Hid (∃ C', RD wr C' m a1 ∧ (∀ k, C' k → C k ∨ w.heap.size ≤ k) ∧ ¬ C' q) := Lib.hid (by
                            obtain ⟨C9, D9, T9, h9⟩ := HE.out
                            exact ⟨C9, D9, fun k hk => (h9 k hk).elim .inl fun h => .inr (Nat.le_trans HWA.out.bel.size h), fun h => (h9 q h).elim HNQ.out fun h => by have := HWA.out.wq.lt; omega⟩)
                          have HZ := Lib.hid hz
                          have HEQ2 := Lib.hid (And.intro q1 (And.intro q2 q3))
                          have HPR := Lib.hid HPAIR.out
                          clear hz q1 q2 q3 HEQ
                          go_wp2_with fail
                          (try rw [Exit.noGoto_ret])
                          refine bodyPost_ret (v := .tuple #[.pointer (some ⟨q, 0, none⟩), .int .i64 0]) (by simp [results, Try.results9, go_sem]) rfl ?_
                          obtain ⟨q1, q2, q3⟩ := HEQ2.out
                          obtain ⟨p1, p2⟩ := Prod.mk.inj HPR.out
                          subst p1 p2
                          have q4 := q3 HZ.out
                          subst q4
                          refine ⟨HROUT.out, .inl ⟨HZ.out, q, A1, c1, A2, c2, rfl, ?_, HQG.out, ?_, ?_, HFC.out⟩⟩
                          · rw [q1, q2]; exact HF.out
                          · rw [q1]; exact HFB.out
                          · rw [q2]; exact HFR.out
                        · have zb : (r1 == (0 : Int)) = false := by simpa using hz
                          have HZ := Lib.hid hz
                          have HPR := Lib.hid HPAIR.out
                          clear hz q1 q2 q3 HEQ
                          go_wp2_with fail
                          (try rw [Exit.noGoto_ret])
                          refine bodyPost_ret (v := .tuple #[.pointer none, .int .i64 r1]) (by simp [results, Try.results9, go_sem]) rfl ?_
                          obtain ⟨p1, p2⟩ := Prod.mk.inj HPR.out
                          subst p1 p2
                          exact ⟨HROUT.out, .inr ⟨HZ.out, rfl⟩⟩
                  · have r0b : (r0 == (0 : Int)) = false := by simpa using hr0
                    have HD3 : Hid (dropsA (r0, a0) (hads.drop 0) = (r, a')) := Lib.hid (by
                      have h9 := HRL.out
                      unfold layA at h9
                      rw [HA.out, if_neg hr0] at h9
                      rw [drops_stop hr0]
                      exact h9)
                    clear hr0
                    go_wp2_with fail
                    go_loopw [14, 13] (fun iv ev wr => ∃ (i : Nat) (r1 : Int) (a1 : Ad), iv = .int .i64 (i : Int) ∧ ev = .int .i64 r1 ∧ i ≤ qs.length ∧ Hid (dropsA (r1, a1) (hads.drop i) = (r, a')) ∧ Hid (Lim a1) ∧ Hid (Ew wA C m a1 wr)) (fun iv _ _ => qs.length - (intOf iv).toNat)
                    case atStart => exact ⟨0, r0, a0, rfl, rfl, Nat.zero_le _, HD3, HL1, HE0⟩
                    case round =>
                      obtain ⟨i, r1, a1, rfl, rfl, hi, HDR, HLM, HE⟩ := hrel
                      rename World => wr
                      by_cases hlt : i < qs.length
                      · have i1 : (i : Int) < qs.length := by omega
                        by_cases hr1 : r1 = 0
                        · subst hr1
                          have so3 := HWA.out.had.tn HE.out.tn fun g hg hc => HNC.out g (HWA.out.had.lt g hg).1 hc
                          obtain ⟨h, rfl⟩ := so_addr so3 (by have := HHL.out; omega)
                          obtain ⟨o, ho⟩ : ∃ o, hads[i]? = some o := ⟨_, List.getElem?_eq_getElem (by have := HHL.out; omega)⟩
                          have v1 := so_slot so3 ho
                          obtain ⟨r2, a2, h2⟩ : ∃ r2 a2, opD dropA a1 o = (r2, a2) := ⟨_, _, rfl⟩
                          have HN2 : Hid (dropsA (r2, a2) (hads.drop (i + 1)) = (r, a')) := Lib.hid (by
                            have h9 := HDR.out
                            have e9 : hads.drop i = o :: hads.drop (i + 1) := by
                              obtain ⟨hl9, he9⟩ := List.getElem?_eq_some_iff.1 ho
                              rw [List.drop_eq_getElem_cons hl9, he9]
                            rw [e9] at h9
                            simpa [dropsA, h2] using h9)
                          have HC2 := Lib.hid (HE.out.step fun C' R' _ => rdrop_RD R' HLM.out h2)
                          have HL2 := Lib.hid (lim_drop HLM.out h2)
                          clear so3 ho h2 HDR
                          go_wp2_with (go_at_call 23; refine HC2.out.mono ?_; rintro e w2 ⟨rfl, E2⟩; have HE2 := Lib.hid E2; clear E2)
                          go_roundw
                          case rel => exact ⟨i + 1, r2, a2, by go_num, rfl, hlt, HN2, HL2, HE2⟩
                          case measure => simp [intOf]; try omega
                        · have r1b : (r1 == (0 : Int)) = false := by simpa using hr1
                          have HPAIR : Hid ((r1, a1) = (r, a')) := Lib.hid (by rw [← HDR.out, drops_stop hr1])
                          have hz := hr1
                          clear HDR
                          have HROUT : Hid (Ew w C m a1 wr) := Lib.hid (by
                            obtain ⟨C9, D9, T9, h9⟩ := HE.out
                            exact ⟨C9, D9, (Tn.ofNew HWA.out.bel).then T9, fun k hk => (h9 k hk).elim .inl fun h => .inr (Nat.le_trans HWA.out.bel.size h)⟩)
                          obtain ⟨q1, q2, q3⟩ := HEQ.out
                          have zb : (r1 == (0 : Int)) = false := by simpa using hz
                          have HZ := Lib.hid hz
                          have HPR := Lib.hid HPAIR.out
                          clear hz q1 q2 q3 HEQ
                          go_wp2_with fail
                          (try rw [Exit.noGoto_ret])
                          refine bodyPost_ret (v := .tuple #[.pointer none, .int .i64 r1]) (by simp [results, Try.results9, go_sem]) rfl ?_
                          obtain ⟨p1, p2⟩ := Prod.mk.inj HPR.out
                          subst p1 p2
                          exact ⟨HROUT.out, .inr ⟨HZ.out, rfl⟩⟩
                      · obtain rfl : i = qs.length := by omega
                        have HPAIR : Hid ((r1, a1) = (r, a')) := Lib.hid (by rw [← HDR.out, List.drop_eq_nil_of_le (by have := HHL.out; omega)]; rfl)
                        clear HDR
                        have HROUT : Hid (Ew w C m a1 wr) := Lib.hid (by
                          obtain ⟨C9, D9, T9, h9⟩ := HE.out
                          exact ⟨C9, D9, (Tn.ofNew HWA.out.bel).then T9, fun k hk => (h9 k hk).elim .inl fun h => .inr (Nat.le_trans HWA.out.bel.size h)⟩)
                        obtain ⟨q1, q2, q3⟩ := HEQ.out
                        by_cases hz : r1 = 0
                        · have zb : (r1 == (0 : Int)) = true := by simpa using hz
                          have HF := Lib.hid (HWA.out.wq.tn HE.out.tn HNQ.out)
                          have HFB := Lib.hid (HWA.out.bk.tn HE.out.tn HNC.out)
                          have HFR := Lib.hid (HWA.out.rw_.tn HE.out.tn HNC.out)
                          have HFC : Hid (∃ C', RD wr C' m a1 ∧ (∀ k, C' k → C k ∨ w.heap.size ≤ k) ∧ ¬ C' q) := Lib.hid (by
                            obtain ⟨C9, D9, T9, h9⟩ := HE.out
                            exact ⟨C9, D9, fun k hk => (h9 k hk).elim .inl fun h => .inr (Nat.le_trans HWA.out.bel.size h), fun h => (h9 q h).elim HNQ.out fun h => by have := HWA.out.wq.lt; omega⟩)
                          have HZ := Lib.hid hz
                          have HEQ2 := Lib.hid (And.intro q1 (And.intro q2 q3))
                          have HPR := Lib.hid HPAIR.out
                          clear hz q1 q2 q3 HEQ
                          go_wp2_with fail
                          (try rw [Exit.noGoto_ret])
                          refine bodyPost_ret (v := .tuple #[.pointer (some ⟨q, 0, none⟩), .int .i64 0]) (by simp [results, Try.results9, go_sem]) rfl ?_
                          obtain ⟨q1, q2, q3⟩ := HEQ2.out
                          obtain ⟨p1, p2⟩ := Prod.mk.inj HPR.out
                          subst p1 p2
                          have q4 := q3 HZ.out
                          subst q4
                          refine ⟨HROUT.out, .inl ⟨HZ.out, q, A1, c1, A2, c2, rfl, ?_, HQG.out, ?_, ?_, HFC.out⟩⟩
                          · rw [q1, q2]; exact HF.out
                          · rw [q1]; exact HFB.out
                          · rw [q2]; exact HFR.out
                        · have zb : (r1 == (0 : Int)) = false := by simpa using hz
                          have HZ := Lib.hid hz
                          have HPR := Lib.hid HPAIR.out
                          clear hz q1 q2 q3 HEQ
                          go_wp2_with fail
                          (try rw [Exit.noGoto_ret])
                          refine bodyPost_ret (v := .tuple #[.pointer none, .int .i64 r1]) (by simp [results, Try.results9, go_sem]) rfl ?_
                          obtain ⟨p1, p2⟩ := Prod.mk.inj HPR.out
                          subst p1 p2
                          exact ⟨HROUT.out, .inr ⟨HZ.out, rfl⟩⟩
            · have q1b : ((qs.length : Int) == 1) = false := by simp; omega
              have hal : aloneA (qs.map Rq.x) = false := by unfold aloneA; rw [HNEW.out]; simp [alB, hl1]
              by_cases hnl : n = x.x.b.length
              · have q2b : ((n : Int) == (x.x.b.length : Int)) = true := by simp; omega
                obtain ⟨HWT, HRL, HEQ, HBD⟩ : Hid (Wt w C m q s0 base rs Ah ch ((qs.map Rq.x).map As.n) ⟨room, fuse, false, qs.map Rq.x⟩ A1 c1 A2 c2 ((w4.setCell ⟨q, 2, none⟩ (.slice A1 base.length c1)).setCell ⟨q, 3, none⟩ (.slice A2 rs.length c2))) ∧ Hid (layA ⟨room, fuse, false, qs.map Rq.x⟩ s0 (framesB base rs) ((qs.map Rq.x).map As.n) = (r, a')) ∧ Hid ((lgA (qs.map Rq.x)).1 = base ∧ (lgA (qs.map Rq.x)).2 = rs ∧ (r = 0 → s = s0)) ∧ Hid (base.length ≤ 1048576 ∧ (∀ x ∈ rs, x.length ≤ 1048576) ∧ (recsB rs).length ≤ 67108864) := by
                  have h9 := HRS.out
                  have hlg : lgA (qs.map Rq.x) = (base, rs) := by unfold lgA; rw [HNEW.out]
                  unfold rsA at h9
                  rw [if_neg (by rw [hal]; decide), hlg] at h9
                  simp only [Prod.mk.injEq] at h9
                  have hsl := seg_lay ⟨room, fuse, false, qs.map Rq.x⟩ HN.out (framesB base rs) ((qs.map Rq.x).map As.n)
                  simp only [← HS0.out] at hsl
                  have hb9 := readB_bounds (newA_at HNEW.out).2
                  exact ⟨Lib.hid ⟨HWQ2.out, HBK.out.mono hws3, HRW.out.more hws3, HHD.out.more (by omega), HR.out.below HBT.out, HBT.out, hqw1⟩, Lib.hid (by rw [hsl.1]; exact Prod.ext h9.1 h9.2.1), Lib.hid ⟨by rw [hlg], by rw [hlg], fun hr9 => by rw [← h9.2.2]; exact hsl.2 (by rw [h9.1]; exact hr9)⟩, Lib.hid ⟨hb9.1, hb9.2.1, by omega⟩⟩
                clear hal hnl HWQ2 HT2 HBK HRW HHD HBT
                go_wp2_with fail
                generalize (w4.setCell ⟨q, 2, none⟩ (.slice A1 base.length c1)).setCell ⟨q, 3, none⟩ (.slice A2 rs.length c2) = wt at *
                obtain ⟨hads, hhd⟩ : ∃ hads, hads = (qs.map Rq.x).map As.n := ⟨_, rfl⟩
                have HHL : Hid (hads.length = qs.length) := Lib.hid (by rw [hhd]; simp)
                rw [← hhd] at HRL HWT
                obtain ⟨L9, hL9⟩ : ∃ L9, L9 = framesB base rs := ⟨_, rfl⟩
                rw [← hL9] at HRL
                obtain ⟨r0, a0, ha0⟩ : ∃ r0 a0, appD ⟨room, fuse, false, qs.map Rq.x⟩ s0 L9 = (r0, a0) := ⟨_, _, rfl⟩
                have HA := Lib.hid ha0
                have HWH : Hid (∀ wx, (Wt w C m q s0 base rs Ah ch hads ⟨room, fuse, false, qs.map Rq.x⟩ A1 c1 A2 c2) wx → Calls Try.prog 33 #[.slice A1 base.length c1, .slice A2 rs.length c2] wx (NewB wx L9)) := Lib.hid fun wx T => by
                  rw [hL9]
                  exact whole_any wx.heap.size A1 c1 base A2 c2 rs wx T.bk.bs T.rw_.pr.1 (Nat.le_refl _) HBD.out.1 HBD.out.2.1 (by rw [framesB_len]; have h1 := HBD.out.1; have h2 := HBD.out.2.2; omega)
                have t0 := HWT.out.wq.x0
                have hb1 := HWT.out.bk.bs.le
                have hb2 := HWT.out.rw_.pr.1.le
                have hqtl := HWT.out.wq.lt
                clear ha0 hL9 hhd
                apply region_VT (Hb w) (Wt w C m q s0 base rs Ah ch hads ⟨room, fuse, false, qs.map Rq.x⟩ A1 c1 A2 c2) (fun v w' => v = .int .i64 r0 ∧ ∃ wA, (Wt w C m q s0 base rs Ah ch hads ⟨room, fuse, false, qs.map Rq.x⟩ A1 c1 A2 c2) wA ∧ Ew wA C m a0 w') 14 [.inl (rP m), .inl (.pointer (some ⟨q, 0, none⟩)), .inl (.pointer (some ⟨q, 0, none⟩)), .inl (.pointer (some ⟨q, 1, none⟩)), .inl (.int .i64 s0), .inl (.pointer (some ⟨q, 0, none⟩)), .inl (.pointer (some ⟨q, 0, none⟩)), .inl (.pointer (some ⟨q, 2, none⟩)), .inl (.slice A1 base.length c1), .inl (.pointer (some ⟨q, 0, none⟩)), .inl (.pointer (some ⟨q, 0, none⟩)), .inl (.pointer (some ⟨q, 3, none⟩)), .inl (.slice A2 rs.length c2), .inr L9, .inl undef] (.inl undef)
                case mono => exact fun p v w0 w9 h hb => Hb.mono h hb
                case hm => kernel_rfl
                case hf => kernel_rfl
                case hl => kernel_rfl
                case hQ => exact (by intro c x y w e h; exact And.intro (e.symm.trans (And.left h)) (And.right h))
                case hF => intro vs; simp only [putAll, Act.put, List.setIfInBounds_toArray, List.set_cons_zero, List.set_cons_succ, Nat.reduceAdd]; rfl
                case h0 => exact HWT.out.below ⟨rfl, rfl, rfl, Nat.le_refl _, fun _ _ => rfl⟩
                case hstep =>
                  repeat' (first | exact AllOps.nil | apply AllOps.cons)
                  · intro vs wx hG hd K hK
                    replace hK : ∀ (uu : Value) (w' : World), Below wx.heap.size wx w' → ((Wt w C m q s0 base rs Ah ch hads ⟨room, fuse, false, qs.map Rq.x⟩ A1 c1 A2 c2)) w' → (Hb w) (.inl (rP m)) uu w' → K _ w' := hK
                    simp only [Act.put, List.setIfInBounds_toArray, List.set_cons_zero, List.set_cons_succ] at hK ⊢
                    have HK := Lib.hid hK
                    have HG := Lib.hid hG
                    clear hK hd
                    clear hG
                    go_simp
                    exact HK.out _ _ (Below.refl _ _) HG.out rfl
                  · intro vs wx hG hd K hK
                    replace hK : ∀ (uu : Value) (w' : World), Below wx.heap.size wx w' → ((Wt w C m q s0 base rs Ah ch hads ⟨room, fuse, false, qs.map Rq.x⟩ A1 c1 A2 c2)) w' → (Hb w) (.inl (.pointer (some ⟨q, 0, none⟩))) uu w' → K _ w' := hK
                    simp only [Act.put, List.setIfInBounds_toArray, List.set_cons_zero, List.set_cons_succ] at hK ⊢
                    have HK := Lib.hid hK
                    have HG := Lib.hid hG
                    clear hK hd
                    clear hG
                    go_simp
                    exact HK.out _ _ (Below.refl _ _) HG.out rfl
                  · intro vs wx hG hd K hK
                    have e1 : vs 1 = .pointer (some ⟨q, 0, none⟩) := hd.get (j := 1) (by simp [depsOf, Region.binds])
                    replace hK : ∀ (uu : Value) (w' : World), Below wx.heap.size wx w' → ((Wt w C m q s0 base rs Ah ch hads ⟨room, fuse, false, qs.map Rq.x⟩ A1 c1 A2 c2)) w' → (Hb w) (.inl (.pointer (some ⟨q, 0, none⟩))) uu w' → K _ w' := hK
                    simp only [Act.put, List.setIfInBounds_toArray, List.set_cons_zero, List.set_cons_succ, e1] at hK ⊢
                    have HK := Lib.hid hK
                    have HG := Lib.hid hG
                    clear hK hd e1
                    clear hG
                    go_simp
                    exact HK.out _ _ (Below.refl _ _) HG.out rfl
                  · intro vs wx hG hd K hK
                    have e2 : vs 2 = .pointer (some ⟨q, 0, none⟩) := hd.get (j := 2) (by simp [depsOf, Region.binds])
                    replace hK : ∀ (uu : Value) (w' : World), Below wx.heap.size wx w' → ((Wt w C m q s0 base rs Ah ch hads ⟨room, fuse, false, qs.map Rq.x⟩ A1 c1 A2 c2)) w' → (Hb w) (.inl (.pointer (some ⟨q, 1, none⟩))) uu w' → K _ w' := hK
                    simp only [Act.put, List.setIfInBounds_toArray, List.set_cons_zero, List.set_cons_succ, e2] at hK ⊢
                    have HK := Lib.hid hK
                    have HG := Lib.hid hG
                    clear hK hd e2
                    clear hG
                    go_simp
                    exact HK.out _ _ (Below.refl _ _) HG.out rfl
                  · intro vs wx hG hd K hK
                    have e3 : vs 3 = .pointer (some ⟨q, 1, none⟩) := hd.get (j := 3) (by simp [depsOf, Region.binds])
                    replace hK : ∀ (uu : Value) (w' : World), Below wx.heap.size wx w' → ((Wt w C m q s0 base rs Ah ch hads ⟨room, fuse, false, qs.map Rq.x⟩ A1 c1 A2 c2)) w' → (Hb w) (.inl (.int .i64 s0)) uu w' → K _ w' := hK
                    simp only [Act.put, List.setIfInBounds_toArray, List.set_cons_zero, List.set_cons_succ, e3] at hK ⊢
                    have HK := Lib.hid hK
                    have HG := Lib.hid hG
                    clear hK hd e3
                    have gq1 := HG.out.wq.x1
                    have gq2 := HG.out.wq.x2
                    have gq3 := HG.out.wq.x3
                    clear hG
                    go_simp
                    exact HK.out _ _ (Below.refl _ _) HG.out rfl
                  · intro vs wx hG hd K hK
                    replace hK : ∀ (uu : Value) (w' : World), Below wx.heap.size wx w' → ((Wt w C m q s0 base rs Ah ch hads ⟨room, fuse, false, qs.map Rq.x⟩ A1 c1 A2 c2)) w' → (Hb w) (.inl (.pointer (some ⟨q, 0, none⟩))) uu w' → K _ w' := hK
                    simp only [Act.put, List.setIfInBounds_toArray, List.set_cons_zero, List.set_cons_succ] at hK ⊢
                    have HK := Lib.hid hK
                    have HG := Lib.hid hG
                    clear hK hd
                    clear hG
                    go_simp
                    exact HK.out _ _ (Below.refl _ _) HG.out rfl
                  · intro vs wx hG hd K hK
                    have e5 : vs 5 = .pointer (some ⟨q, 0, none⟩) := hd.get (j := 5) (by simp [depsOf, Region.binds])
                    replace hK : ∀ (uu : Value) (w' : World), Below wx.heap.size wx w' → ((Wt w C m q s0 base rs Ah ch hads ⟨room, fuse, false, qs.map Rq.x⟩ A1 c1 A2 c2)) w' → (Hb w) (.inl (.pointer (some ⟨q, 0, none⟩))) uu w' → K _ w' := hK
                    simp only [Act.put, List.setIfInBounds_toArray, List.set_cons_zero, List.set_cons_succ, e5] at hK ⊢
                    have HK := Lib.hid hK
                    have HG := Lib.hid hG
                    clear hK hd e5
                    clear hG
                    go_simp
                    exact HK.out _ _ (Below.refl _ _) HG.out rfl
                  · intro vs wx hG hd K hK
                    have e6 : vs 6 = .pointer (some ⟨q, 0, none⟩) := hd.get (j := 6) (by simp [depsOf, Region.binds])
                    replace hK : ∀ (uu : Value) (w' : World), Below wx.heap.size wx w' → ((Wt w C m q s0 base rs Ah ch hads ⟨room, fuse, false, qs.map Rq.x⟩ A1 c1 A2 c2)) w' → (Hb w) (.inl (.pointer (some ⟨q, 2, none⟩))) uu w' → K _ w' := hK
                    simp only [Act.put, List.setIfInBounds_toArray, List.set_cons_zero, List.set_cons_succ, e6] at hK ⊢
                    have HK := Lib.hid hK
                    have HG := Lib.hid hG
                    clear hK hd e6
                    clear hG
                    go_simp
                    exact HK.out _ _ (Below.refl _ _) HG.out rfl
                  · intro vs wx hG hd K hK
                    have e7 : vs 7 = .pointer (some ⟨q, 2, none⟩) := hd.get (j := 7) (by simp [depsOf, Region.binds])
                    replace hK : ∀ (uu : Value) (w' : World), Below wx.heap.size wx w' → ((Wt w C m q s0 base rs Ah ch hads ⟨room, fuse, false, qs.map Rq.x⟩ A1 c1 A2 c2)) w' → (Hb w) (.inl (.slice A1 base.length c1)) uu w' → K _ w' := hK
                    simp only [Act.put, List.setIfInBounds_toArray, List.set_cons_zero, List.set_cons_succ, e7] at hK ⊢
                    have HK := Lib.hid hK
                    have HG := Lib.hid hG
                    clear hK hd e7
                    have gq1 := HG.out.wq.x1
                    have gq2 := HG.out.wq.x2
                    have gq3 := HG.out.wq.x3
                    clear hG
                    go_simp
                    exact HK.out _ _ (Below.refl _ _) HG.out rfl
                  · intro vs wx hG hd K hK
                    replace hK : ∀ (uu : Value) (w' : World), Below wx.heap.size wx w' → ((Wt w C m q s0 base rs Ah ch hads ⟨room, fuse, false, qs.map Rq.x⟩ A1 c1 A2 c2)) w' → (Hb w) (.inl (.pointer (some ⟨q, 0, none⟩))) uu w' → K _ w' := hK
                    simp only [Act.put, List.setIfInBounds_toArray, List.set_cons_zero, List.set_cons_succ] at hK ⊢
                    have HK := Lib.hid hK
                    have HG := Lib.hid hG
                    clear hK hd
                    clear hG
                    go_simp
                    exact HK.out _ _ (Below.refl _ _) HG.out rfl
                  · intro vs wx hG hd K hK
                    have e9 : vs 9 = .pointer (some ⟨q, 0, none⟩) := hd.get (j := 9) (by simp [depsOf, Region.binds])
                    replace hK : ∀ (uu : Value) (w' : World), Below wx.heap.size wx w' → ((Wt w C m q s0 base rs Ah ch hads ⟨room, fuse, false, qs.map Rq.x⟩ A1 c1 A2 c2)) w' → (Hb w) (.inl (.pointer (some ⟨q, 0, none⟩))) uu w' → K _ w' := hK
                    simp only [Act.put, List.setIfInBounds_toArray, List.set_cons_zero, List.set_cons_succ, e9] at hK ⊢
                    have HK := Lib.hid hK
                    have HG := Lib.hid hG
                    clear hK hd e9
                    clear hG
                    go_simp
                    exact HK.out _ _ (Below.refl _ _) HG.out rfl
                  · intro vs wx hG hd K hK
                    have e10 : vs 10 = .pointer (some ⟨q, 0, none⟩) := hd.get (j := 10) (by simp [depsOf, Region.binds])
                    replace hK : ∀ (uu : Value) (w' : World), Below wx.heap.size wx w' → ((Wt w C m q s0 base rs Ah ch hads ⟨room, fuse, false, qs.map Rq.x⟩ A1 c1 A2 c2)) w' → (Hb w) (.inl (.pointer (some ⟨q, 3, none⟩))) uu w' → K _ w' := hK
                    simp only [Act.put, List.setIfInBounds_toArray, List.set_cons_zero, List.set_cons_succ, e10] at hK ⊢
                    have HK := Lib.hid hK
                    have HG := Lib.hid hG
                    clear hK hd e10
                    clear hG
                    go_simp
                    exact HK.out _ _ (Below.refl _ _) HG.out rfl
                  · intro vs wx hG hd K hK
                    have e11 : vs 11 = .pointer (some ⟨q, 3, none⟩) := hd.get (j := 11) (by simp [depsOf, Region.binds])
                    replace hK : ∀ (uu : Value) (w' : World), Below wx.heap.size wx w' → ((Wt w C m q s0 base rs Ah ch hads ⟨room, fuse, false, qs.map Rq.x⟩ A1 c1 A2 c2)) w' → (Hb w) (.inl (.slice A2 rs.length c2)) uu w' → K _ w' := hK
                    simp only [Act.put, List.setIfInBounds_toArray, List.set_cons_zero, List.set_cons_succ, e11] at hK ⊢
                    have HK := Lib.hid hK
                    have HG := Lib.hid hG
                    clear hK hd e11
                    have gq1 := HG.out.wq.x1
                    have gq2 := HG.out.wq.x2
                    have gq3 := HG.out.wq.x3
                    clear hG
                    go_simp
                    exact HK.out _ _ (Below.refl _ _) HG.out rfl
                  · intro vs wx hG hd K hK
                    have e8 : vs 8 = .slice A1 base.length c1 := hd.get (j := 8) (by simp [depsOf, Region.binds])
                    have e12 : vs 12 = .slice A2 rs.length c2 := hd.get (j := 12) (by simp [depsOf, Region.binds])
                    replace hK : ∀ (uu : Value) (w' : World), Below wx.heap.size wx w' → ((Wt w C m q s0 base rs Ah ch hads ⟨room, fuse, false, qs.map Rq.x⟩ A1 c1 A2 c2)) w' → (Hb w) (.inr L9) uu w' → K _ w' := hK
                    simp only [Act.put, List.setIfInBounds_toArray, List.set_cons_zero, List.set_cons_succ, e8, e12] at hK ⊢
                    have HK := Lib.hid hK
                    have HG := Lib.hid hG
                    clear hK hd e8 e12
                    clear hG
                    go_simp
                    go_at_call 33
                    refine (HWH.out _ HG.out).mono ?_
                    rintro e w9 ⟨A9, c9, rfl, ho, hb⟩
                    exact HK.out _ _ hb (HG.out.below hb) ⟨A9, c9, rfl, ho.more HG.out.bel.size⟩
                  · intro vs wx hG hd K hK
                    have e0 : vs 0 = rP m := hd.get (j := 0) (by simp [depsOf, Region.binds])
                    have e4 : vs 4 = .int .i64 s0 := hd.get (j := 4) (by simp [depsOf, Region.binds])
                    obtain ⟨A13, c13, e13, q13⟩ : ∃ Aq cq, vs 13 = .slice Aq L9.length cq ∧ Ob wx w.heap.size (.slice Aq L9.length cq) L9 := hd.get (j := 13) (by simp [depsOf, Region.binds])
                    replace hK : ∀ (uu : Value) (w' : World), (fun v w' => v = .int .i64 r0 ∧ ∃ wA, (Wt w C m q s0 base rs Ah ch hads ⟨room, fuse, false, qs.map Rq.x⟩ A1 c1 A2 c2) wA ∧ Ew wA C m a0 w') uu w' → K _ w' := hK
                    simp only [Act.put, List.setIfInBounds_toArray, List.set_cons_zero, List.set_cons_succ, e0, e4, e13] at hK ⊢
                    have HK := Lib.hid hK
                    have HG := Lib.hid hG
                    clear hK hd e0 e4 e13
                    clear hG
                    go_simp
                    go_at_call 20
                    refine (rappend_RD (r := r0) (a' := a0) HG.out.rd HL.out q13.bs.1 (Nat.le_refl _) (fun hl ad e hb => by have h5 := (own_block q13 hl e rfl).1; have h6 := HCW.out _ hb; omega) HA.out).mono ?_
                    rintro e w9 ⟨rfl, C9, D9, T9, hC9⟩
                    exact HK.out _ _ ⟨rfl, wx, HG.out, C9, D9, T9, hC9⟩
                  · intro vs wx hE K hK
                    simp only [Act.put, List.setIfInBounds_toArray, List.set_cons_zero, List.set_cons_succ] at hK ⊢
                    have HK := Lib.hid hK
                    clear hK hE
                    go_simp
                    exact HK.out
                case hend =>
                  intro vs wy hE he
                  obtain ⟨e1, wA, T, E9⟩ := hE
                  rw [he, e1]
                  have HWA := Lib.hid T
                  have HE0 := Lib.hid E9
                  have HNC : Hid (∀ k, w.heap.size ≤ k → ¬ C k) := Lib.hid fun k hk hc => by have := HCW.out k hc; omega
                  have HNQ : Hid (¬ C q) := Lib.hid (HNC.out q T.hq)
                  have HQG : Hid (w.heap.size ≤ q) := Lib.hid T.hq
                  have hhc := T.had.sr encI_len |>.1.le
                  rw [HHL.out] at hhc
                  have hhm := T.had.sr encI_len |>.1.max
                  unfold maxLen at hhm
                  have wq9 := T.wq.tn E9.tn HNQ.out
                  have f0 := wq9.x0
                  have f1 := wq9.x1
                  have hql9 := wq9.lt
                  have HL1 := Lib.hid (lim_app HL.out HA.out)
                  clear he e1 T E9 wq9
                  by_cases hr0 : r0 = 0
                  · subst hr0
                    obtain ⟨r3, a3, h3⟩ : ∃ r3 a3, opD syncA a0 s0 = (r3, a3) := ⟨_, _, rfl⟩
                    have HD3 : Hid (dropsA (r3, a3) (hads.drop 0) = (r, a')) := Lib.hid (by
                      have h9 := HRL.out
                      unfold layA at h9
                      rw [HA.out, if_pos rfl] at h9
                      unfold keepA at h9
                      rw [h3] at h9
                      simpa using h9)
                    have HC3 := Lib.hid (HE0.out.step fun C' R' _ => rsync_RD R' HL1.out h3)
                    have HL3 := Lib.hid (lim_sync HL1.out h3)
                    clear h3
                    go_wp2_with (go_at_call 15; refine HC3.out.mono ?_; rintro e w2 ⟨rfl, E2⟩; have HE2 := Lib.hid E2; clear E2)
                    go_loopw [14, 13] (fun iv ev wr => ∃ (i : Nat) (r1 : Int) (a1 : Ad), iv = .int .i64 (i : Int) ∧ ev = .int .i64 r1 ∧ i ≤ qs.length ∧ Hid (dropsA (r1, a1) (hads.drop i) = (r, a')) ∧ Hid (Lim a1) ∧ Hid (Ew wA C m a1 wr)) (fun iv _ _ => qs.length - (intOf iv).toNat)
                    case atStart => exact ⟨0, r3, a3, rfl, rfl, Nat.zero_le _, HD3, HL3, HE2⟩
                    case round =>
                      obtain ⟨i, r1, a1, rfl, rfl, hi, HDR, HLM, HE⟩ := hrel
                      rename World => wr
                      by_cases hlt : i < qs.length
                      · have i1 : (i : Int) < qs.length := by omega
                        by_cases hr1 : r1 = 0
                        · subst hr1
                          have so3 := HWA.out.had.tn HE.out.tn fun g hg hc => HNC.out g (HWA.out.had.lt g hg).1 hc
                          obtain ⟨h, rfl⟩ := so_addr so3 (by have := HHL.out; omega)
                          obtain ⟨o, ho⟩ : ∃ o, hads[i]? = some o := ⟨_, List.getElem?_eq_getElem (by have := HHL.out; omega)⟩
                          have v1 := so_slot so3 ho
                          obtain ⟨r2, a2, h2⟩ : ∃ r2 a2, opD dropA a1 o = (r2, a2) := ⟨_, _, rfl⟩
                          have HN2 : Hid (dropsA (r2, a2) (hads.drop (i + 1)) = (r, a')) := Lib.hid (by
                            have h9 := HDR.out
                            have e9 : hads.drop i = o :: hads.drop (i + 1) := by
                              obtain ⟨hl9, he9⟩ := List.getElem?_eq_some_iff.1 ho
                              rw [List.drop_eq_getElem_cons hl9, he9]
                            rw [e9] at h9
                            simpa [dropsA, h2] using h9)
                          have HC2 := Lib.hid (HE.out.step fun C' R' _ => rdrop_RD R' HLM.out h2)
                          have HL2 := Lib.hid (lim_drop HLM.out h2)
                          clear so3 ho h2 HDR
                          go_wp2_with (go_at_call 23; refine HC2.out.mono ?_; rintro e w2 ⟨rfl, E2⟩; have HE2 := Lib.hid E2; clear E2)
                          go_roundw
                          case rel => exact ⟨i + 1, r2, a2, by go_num, rfl, hlt, HN2, HL2, HE2⟩
                          case measure => simp [intOf]; try omega
                        · have r1b : (r1 == (0 : Int)) = false := by simpa using hr1
                          have HPAIR : Hid ((r1, a1) = (r, a')) := Lib.hid (by rw [← HDR.out, drops_stop hr1])
                          have hz := hr1
                          clear HDR
                          have HROUT : Hid (Ew w C m a1 wr) := Lib.hid (by
                            obtain ⟨C9, D9, T9, h9⟩ := HE.out
                            exact ⟨C9, D9, (Tn.ofNew HWA.out.bel).then T9, fun k hk => (h9 k hk).elim .inl fun h => .inr (Nat.le_trans HWA.out.bel.size h)⟩)
                          obtain ⟨q1, q2, q3⟩ := HEQ.out
                          have zb : (r1 == (0 : Int)) = false := by simpa using hz
                          have HZ := Lib.hid hz
                          have HPR := Lib.hid HPAIR.out
                          clear hz q1 q2 q3 HEQ
                          go_wp2_with fail
                          (try rw [Exit.noGoto_ret])
                          refine bodyPost_ret (v := .tuple #[.pointer none, .int .i64 r1]) (by simp [results, Try.results9, go_sem]) rfl ?_
                          obtain ⟨p1, p2⟩ := Prod.mk.inj HPR.out
                          subst p1 p2
                          exact ⟨HROUT.out, .inr ⟨HZ.out, rfl⟩⟩
                      · obtain rfl : i = qs.length := by omega
                        have HPAIR : Hid ((r1, a1) = (r, a')) := Lib.hid (by rw [← HDR.out, List.drop_eq_nil_of_le (by have := HHL.out; omega)]; rfl)
                        clear HDR
                        have HROUT : Hid (Ew w C m a1 wr) := Lib.hid (by
                          obtain ⟨C9, D9, T9, h9⟩ := HE.out
                          exact ⟨C9, D9, (Tn.ofNew HWA.out.bel).then T9, fun k hk => (h9 k hk).elim .inl fun h => .inr (Nat.le_trans HWA.out.bel.size h)⟩)
                        obtain ⟨q1, q2, q3⟩ := HEQ.out
                        by_cases hz : r1 = 0
                        · have zb : (r1 == (0 : Int)) = true := by simpa using hz
                          have HF := Lib.hid (HWA.out.wq.tn HE.out.tn HNQ.out)
                          have HFB := Lib.hid (HWA.out.bk.tn HE.out.tn HNC.out)
                          have HFR := Lib.hid (HWA.out.rw_.tn HE.out.tn HNC.out)
                          have HFC : Hid (∃ C', RD wr C' m a1 ∧ (∀ k, C' k → C k ∨ w.heap.size ≤ k) ∧ ¬ C' q) := Lib.hid (by
                            obtain ⟨C9, D9, T9, h9⟩ := HE.out
                            exact ⟨C9, D9, fun k hk => (h9 k hk).elim .inl fun h => .inr (Nat.le_trans HWA.out.bel.size h), fun h => (h9 q h).elim HNQ.out fun h => by have := HWA.out.wq.lt; omega⟩)
                          have HZ := Lib.hid hz
                          have HEQ2 := Lib.hid (And.intro q1 (And.intro q2 q3))
                          have HPR := Lib.hid HPAIR.out
                          clear hz q1 q2 q3 HEQ
                          go_wp2_with fail
                          (try rw [Exit.noGoto_ret])
                          refine bodyPost_ret (v := .tuple #[.pointer (some ⟨q, 0, none⟩), .int .i64 0]) (by simp [results, Try.results9, go_sem]) rfl ?_
                          obtain ⟨q1, q2, q3⟩ := HEQ2.out
                          obtain ⟨p1, p2⟩ := Prod.mk.inj HPR.out
                          subst p1 p2
                          have q4 := q3 HZ.out
                          subst q4
                          refine ⟨HROUT.out, .inl ⟨HZ.out, q, A1, c1, A2, c2, rfl, ?_, HQG.out, ?_, ?_, HFC.out⟩⟩
                          · rw [q1, q2]; exact HF.out
                          · rw [q1]; exact HFB.out
                          · rw [q2]; exact HFR.out
                        · have zb : (r1 == (0 : Int)) = false := by simpa using hz
                          have HZ := Lib.hid hz
                          have HPR := Lib.hid HPAIR.out
                          clear hz q1 q2 q3 HEQ
                          go_wp2_with fail
                          (try rw [Exit.noGoto_ret])
                          refine bodyPost_ret (v := .tuple #[.pointer none, .int .i64 r1]) (by simp [results, Try.results9, go_sem]) rfl ?_
                          obtain ⟨p1, p2⟩ := Prod.mk.inj HPR.out
                          subst p1 p2
                          exact ⟨HROUT.out, .inr ⟨HZ.out, rfl⟩⟩
                  · have r0b : (r0 == (0 : Int)) = false := by simpa using hr0
                    have HD3 : Hid (dropsA (r0, a0) (hads.drop 0) = (r, a')) := Lib.hid (by
                      have h9 := HRL.out
                      unfold layA at h9
                      rw [HA.out, if_neg hr0] at h9
                      rw [drops_stop hr0]
                      exact h9)
                    clear hr0
                    go_wp2_with fail
                    go_loopw [14, 13] (fun iv ev wr => ∃ (i : Nat) (r1 : Int) (a1 : Ad), iv = .int .i64 (i : Int) ∧ ev = .int .i64 r1 ∧ i ≤ qs.length ∧ Hid (dropsA (r1, a1) (hads.drop i) = (r, a')) ∧ Hid (Lim a1) ∧ Hid (Ew wA C m a1 wr)) (fun iv _ _ => qs.length - (intOf iv).toNat)
                    case atStart => exact ⟨0, r0, a0, rfl, rfl, Nat.zero_le _, HD3, HL1, HE0⟩
                    case round =>
                      obtain ⟨i, r1, a1, rfl, rfl, hi, HDR, HLM, HE⟩ := hrel
                      rename World => wr
                      by_cases hlt : i < qs.length
                      · have i1 : (i : Int) < qs.length := by omega
                        by_cases hr1 : r1 = 0
                        · subst hr1
                          have so3 := HWA.out.had.tn HE.out.tn fun g hg hc => HNC.out g (HWA.out.had.lt g hg).1 hc
                          obtain ⟨h, rfl⟩ := so_addr so3 (by have := HHL.out; omega)
                          obtain ⟨o, ho⟩ : ∃ o, hads[i]? = some o := ⟨_, List.getElem?_eq_getElem (by have := HHL.out; omega)⟩
                          have v1 := so_slot so3 ho
                          obtain ⟨r2, a2, h2⟩ : ∃ r2 a2, opD dropA a1 o = (r2, a2) := ⟨_, _, rfl⟩
                          have HN2 : Hid (dropsA (r2, a2) (hads.drop (i + 1)) = (r, a')) := Lib.hid (by
                            have h9 := HDR.out
                            have e9 : hads.drop i = o :: hads.drop (i + 1) := by
                              obtain ⟨hl9, he9⟩ := List.getElem?_eq_some_iff.1 ho
                              rw [List.drop_eq_getElem_cons hl9, he9]
                            rw [e9] at h9
                            simpa [dropsA, h2] using h9)
                          have HC2 := Lib.hid (HE.out.step fun C' R' _ => rdrop_RD R' HLM.out h2)
                          have HL2 := Lib.hid (lim_drop HLM.out h2)
                          clear so3 ho h2 HDR
                          go_wp2_with (go_at_call 23; refine HC2.out.mono ?_; rintro e w2 ⟨rfl, E2⟩; have HE2 := Lib.hid E2; clear E2)
                          go_roundw
                          case rel => exact ⟨i + 1, r2, a2, by go_num, rfl, hlt, HN2, HL2, HE2⟩
                          case measure => simp [intOf]; try omega
                        · have r1b : (r1 == (0 : Int)) = false := by simpa using hr1
                          have HPAIR : Hid ((r1, a1) = (r, a')) := Lib.hid (by rw [← HDR.out, drops_stop hr1])
                          have hz := hr1
                          clear HDR
                          have HROUT : Hid (Ew w C m a1 wr) := Lib.hid (by
                            obtain ⟨C9, D9, T9, h9⟩ := HE.out
                            exact ⟨C9, D9, (Tn.ofNew HWA.out.bel).then T9, fun k hk => (h9 k hk).elim .inl fun h => .inr (Nat.le_trans HWA.out.bel.size h)⟩)
                          obtain ⟨q1, q2, q3⟩ := HEQ.out
                          have zb : (r1 == (0 : Int)) = false := by simpa using hz
                          have HZ := Lib.hid hz
                          have HPR := Lib.hid HPAIR.out
                          clear hz q1 q2 q3 HEQ
                          go_wp2_with fail
                          (try rw [Exit.noGoto_ret])
                          refine bodyPost_ret (v := .tuple #[.pointer none, .int .i64 r1]) (by simp [results, Try.results9, go_sem]) rfl ?_
                          obtain ⟨p1, p2⟩ := Prod.mk.inj HPR.out
                          subst p1 p2
                          exact ⟨HROUT.out, .inr ⟨HZ.out, rfl⟩⟩
                      · obtain rfl : i = qs.length := by omega
                        have HPAIR : Hid ((r1, a1) = (r, a')) := Lib.hid (by rw [← HDR.out, List.drop_eq_nil_of_le (by have := HHL.out; omega)]; rfl)
                        clear HDR
                        have HROUT : Hid (Ew w C m a1 wr) := Lib.hid (by
                          obtain ⟨C9, D9, T9, h9⟩ := HE.out
                          exact ⟨C9, D9, (Tn.ofNew HWA.out.bel).then T9, fun k hk => (h9 k hk).elim .inl fun h => .inr (Nat.le_trans HWA.out.bel.size h)⟩)
                        obtain ⟨q1, q2, q3⟩ := HEQ.out
                        by_cases hz : r1 = 0
                        · have zb : (r1 == (0 : Int)) = true := by simpa using hz
                          have HF := Lib.hid (HWA.out.wq.tn HE.out.tn HNQ.out)
                          have HFB := Lib.hid (HWA.out.bk.tn HE.out.tn HNC.out)
                          have HFR := Lib.hid (HWA.out.rw_.tn HE.out.tn HNC.out)
                          have HFC : Hid (∃ C', RD wr C' m a1 ∧ (∀ k, C' k → C k ∨ w.heap.size ≤ k) ∧ ¬ C' q) := Lib.hid (by
                            obtain ⟨C9, D9, T9, h9⟩ := HE.out
                            exact ⟨C9, D9, fun k hk => (h9 k hk).elim .inl fun h => .inr (Nat.le_trans HWA.out.bel.size h), fun h => (h9 q h).elim HNQ.out fun h => by have := HWA.out.wq.lt; omega⟩)
                          have HZ := Lib.hid hz
                          have HEQ2 := Lib.hid (And.intro q1 (And.intro q2 q3))
                          have HPR := Lib.hid HPAIR.out
                          clear hz q1 q2 q3 HEQ
                          go_wp2_with fail
                          (try rw [Exit.noGoto_ret])
                          refine bodyPost_ret (v := .tuple #[.pointer (some ⟨q, 0, none⟩), .int .i64 0]) (by simp [results, Try.results9, go_sem]) rfl ?_
                          obtain ⟨q1, q2, q3⟩ := HEQ2.out
                          obtain ⟨p1, p2⟩ := Prod.mk.inj HPR.out
                          subst p1 p2
                          have q4 := q3 HZ.out
                          subst q4
                          refine ⟨HROUT.out, .inl ⟨HZ.out, q, A1, c1, A2, c2, rfl, ?_, HQG.out, ?_, ?_, HFC.out⟩⟩
                          · rw [q1, q2]; exact HF.out
                          · rw [q1]; exact HFB.out
                          · rw [q2]; exact HFR.out
                        · have zb : (r1 == (0 : Int)) = false := by simpa using hz
                          have HZ := Lib.hid hz
                          have HPR := Lib.hid HPAIR.out
                          clear hz q1 q2 q3 HEQ
                          go_wp2_with fail
                          (try rw [Exit.noGoto_ret])
                          refine bodyPost_ret (v := .tuple #[.pointer none, .int .i64 r1]) (by simp [results, Try.results9, go_sem]) rfl ?_
                          obtain ⟨p1, p2⟩ := Prod.mk.inj HPR.out
                          subst p1 p2
                          exact ⟨HROUT.out, .inr ⟨HZ.out, rfl⟩⟩
              · have q2b : ((n : Int) == (x.x.b.length : Int)) = false := by simp; omega
                obtain ⟨HWT, HRL, HEQ, HBD⟩ : Hid (Wt w C m q s0 base rs Ah ch ((qs.map Rq.x).map As.n) ⟨room, fuse, false, qs.map Rq.x⟩ A1 c1 A2 c2 ((w4.setCell ⟨q, 2, none⟩ (.slice A1 base.length c1)).setCell ⟨q, 3, none⟩ (.slice A2 rs.length c2))) ∧ Hid (layA ⟨room, fuse, false, qs.map Rq.x⟩ s0 (framesB base rs) ((qs.map Rq.x).map As.n) = (r, a')) ∧ Hid ((lgA (qs.map Rq.x)).1 = base ∧ (lgA (qs.map Rq.x)).2 = rs ∧ (r = 0 → s = s0)) ∧ Hid (base.length ≤ 1048576 ∧ (∀ x ∈ rs, x.length ≤ 1048576) ∧ (recsB rs).length ≤ 67108864) := by
                  have h9 := HRS.out
                  have hlg : lgA (qs.map Rq.x) = (base, rs) := by unfold lgA; rw [HNEW.out]
                  unfold rsA at h9
                  rw [if_neg (by rw [hal]; decide), hlg] at h9
                  simp only [Prod.mk.injEq] at h9
                  have hsl := seg_lay ⟨room, fuse, false, qs.map Rq.x⟩ HN.out (framesB base rs) ((qs.map Rq.x).map As.n)
                  simp only [← HS0.out] at hsl
                  have hb9 := readB_bounds (newA_at HNEW.out).2
                  exact ⟨Lib.hid ⟨HWQ2.out, HBK.out.mono hws3, HRW.out.more hws3, HHD.out.more (by omega), HR.out.below HBT.out, HBT.out, hqw1⟩, Lib.hid (by rw [hsl.1]; exact Prod.ext h9.1 h9.2.1), Lib.hid ⟨by rw [hlg], by rw [hlg], fun hr9 => by rw [← h9.2.2]; exact hsl.2 (by rw [h9.1]; exact hr9)⟩, Lib.hid ⟨hb9.1, hb9.2.1, by omega⟩⟩
                clear hal hnl HWQ2 HT2 HBK HRW HHD HBT
                go_wp2_with fail
                generalize (w4.setCell ⟨q, 2, none⟩ (.slice A1 base.length c1)).setCell ⟨q, 3, none⟩ (.slice A2 rs.length c2) = wt at *
                obtain ⟨hads, hhd⟩ : ∃ hads, hads = (qs.map Rq.x).map As.n := ⟨_, rfl⟩
                have HHL : Hid (hads.length = qs.length) := Lib.hid (by rw [hhd]; simp)
                rw [← hhd] at HRL HWT
                obtain ⟨L9, hL9⟩ : ∃ L9, L9 = framesB base rs := ⟨_, rfl⟩
                rw [← hL9] at HRL
                obtain ⟨r0, a0, ha0⟩ : ∃ r0 a0, appD ⟨room, fuse, false, qs.map Rq.x⟩ s0 L9 = (r0, a0) := ⟨_, _, rfl⟩
                have HA := Lib.hid ha0
                have HWH : Hid (∀ wx, (Wt w C m q s0 base rs Ah ch hads ⟨room, fuse, false, qs.map Rq.x⟩ A1 c1 A2 c2) wx → Calls Try.prog 33 #[.slice A1 base.length c1, .slice A2 rs.length c2] wx (NewB wx L9)) := Lib.hid fun wx T => by
                  rw [hL9]
                  exact whole_any wx.heap.size A1 c1 base A2 c2 rs wx T.bk.bs T.rw_.pr.1 (Nat.le_refl _) HBD.out.1 HBD.out.2.1 (by rw [framesB_len]; have h1 := HBD.out.1; have h2 := HBD.out.2.2; omega)
                have t0 := HWT.out.wq.x0
                have hb1 := HWT.out.bk.bs.le
                have hb2 := HWT.out.rw_.pr.1.le
                have hqtl := HWT.out.wq.lt
                clear ha0 hL9 hhd
                apply region_VT (Hb w) (Wt w C m q s0 base rs Ah ch hads ⟨room, fuse, false, qs.map Rq.x⟩ A1 c1 A2 c2) (fun v w' => v = .int .i64 r0 ∧ ∃ wA, (Wt w C m q s0 base rs Ah ch hads ⟨room, fuse, false, qs.map Rq.x⟩ A1 c1 A2 c2) wA ∧ Ew wA C m a0 w') 14 [.inl (rP m), .inl (.pointer (some ⟨q, 0, none⟩)), .inl (.pointer (some ⟨q, 0, none⟩)), .inl (.pointer (some ⟨q, 1, none⟩)), .inl (.int .i64 s0), .inl (.pointer (some ⟨q, 0, none⟩)), .inl (.pointer (some ⟨q, 0, none⟩)), .inl (.pointer (some ⟨q, 2, none⟩)), .inl (.slice A1 base.length c1), .inl (.pointer (some ⟨q, 0, none⟩)), .inl (.pointer (some ⟨q, 0, none⟩)), .inl (.pointer (some ⟨q, 3, none⟩)), .inl (.slice A2 rs.length c2), .inr L9, .inl undef] (.inl undef)
                case mono => exact fun p v w0 w9 h hb => Hb.mono h hb
                case hm => kernel_rfl
                case hf => kernel_rfl
                case hl => kernel_rfl
                case hQ => exact (by intro c x y w e h; exact And.intro (e.symm.trans (And.left h)) (And.right h))
                case hF => intro vs; simp only [putAll, Act.put, List.setIfInBounds_toArray, List.set_cons_zero, List.set_cons_succ, Nat.reduceAdd]; rfl
                case h0 => exact HWT.out.below ⟨rfl, rfl, rfl, Nat.le_refl _, fun _ _ => rfl⟩
                case hstep =>
                  repeat' (first | exact AllOps.nil | apply AllOps.cons)
                  · intro vs wx hG hd K hK
                    replace hK : ∀ (uu : Value) (w' : World), Below wx.heap.size wx w' → ((Wt w C m q s0 base rs Ah ch hads ⟨room, fuse, false, qs.map Rq.x⟩ A1 c1 A2 c2)) w' → (Hb w) (.inl (rP m)) uu w' → K _ w' := hK
                    simp only [Act.put, List.setIfInBounds_toArray, List.set_cons_zero, List.set_cons_succ] at hK ⊢
                    have HK := Lib.hid hK
                    have HG := Lib.hid hG
                    clear hK hd
                    clear hG
                    go_simp
                    exact HK.out _ _ (Below.refl _ _) HG.out rfl
                  · intro vs wx hG hd K hK
                    replace hK : ∀ (uu : Value) (w' : World), Below wx.heap.size wx w' → ((Wt w C m q s0 base rs Ah ch hads ⟨room, fuse, false, qs.map Rq.x⟩ A1 c1 A2 c2)) w' → (Hb w) (.inl (.pointer (some ⟨q, 0, none⟩))) uu w' → K _ w' := hK
                    simp only [Act.put, List.setIfInBounds_toArray, List.set_cons_zero, List.set_cons_succ] at hK ⊢
                    have HK := Lib.hid hK
                    have HG := Lib.hid hG
                    clear hK hd
                    clear hG
                    go_simp
                    exact HK.out _ _ (Below.refl _ _) HG.out rfl
                  · intro vs wx hG hd K hK
                    have e1 : vs 1 = .pointer (some ⟨q, 0, none⟩) := hd.get (j := 1) (by simp [depsOf, Region.binds])
                    replace hK : ∀ (uu : Value) (w' : World), Below wx.heap.size wx w' → ((Wt w C m q s0 base rs Ah ch hads ⟨room, fuse, false, qs.map Rq.x⟩ A1 c1 A2 c2)) w' → (Hb w) (.inl (.pointer (some ⟨q, 0, none⟩))) uu w' → K _ w' := hK
                    simp only [Act.put, List.setIfInBounds_toArray, List.set_cons_zero, List.set_cons_succ, e1] at hK ⊢
                    have HK := Lib.hid hK
                    have HG := Lib.hid hG
                    clear hK hd e1
                    clear hG
                    go_simp
                    exact HK.out _ _ (Below.refl _ _) HG.out rfl
                  · intro vs wx hG hd K hK
                    have e2 : vs 2 = .pointer (some ⟨q, 0, none⟩) := hd.get (j := 2) (by simp [depsOf, Region.binds])
                    replace hK : ∀ (uu : Value) (w' : World), Below wx.heap.size wx w' → ((Wt w C m q s0 base rs Ah ch hads ⟨room, fuse, false, qs.map Rq.x⟩ A1 c1 A2 c2)) w' → (Hb w) (.inl (.pointer (some ⟨q, 1, none⟩))) uu w' → K _ w' := hK
                    simp only [Act.put, List.setIfInBounds_toArray, List.set_cons_zero, List.set_cons_succ, e2] at hK ⊢
                    have HK := Lib.hid hK
                    have HG := Lib.hid hG
                    clear hK hd e2
                    clear hG
                    go_simp
                    exact HK.out _ _ (Below.refl _ _) HG.out rfl
                  · intro vs wx hG hd K hK
                    have e3 : vs 3 = .pointer (some ⟨q, 1, none⟩) := hd.get (j := 3) (by simp [depsOf, Region.binds])
                    replace hK : ∀ (uu : Value) (w' : World), Below wx.heap.size wx w' → ((Wt w C m q s0 base rs Ah ch hads ⟨room, fuse, false, qs.map Rq.x⟩ A1 c1 A2 c2)) w' → (Hb w) (.inl (.int .i64 s0)) uu w' → K _ w' := hK
                    simp only [Act.put, List.setIfInBounds_toArray, List.set_cons_zero, List.set_cons_succ, e3] at hK ⊢
                    have HK := Lib.hid hK
                    have HG := Lib.hid hG
                    clear hK hd e3
                    have gq1 := HG.out.wq.x1
                    have gq2 := HG.out.wq.x2
                    have gq3 := HG.out.wq.x3
                    clear hG
                    go_simp
                    exact HK.out _ _ (Below.refl _ _) HG.out rfl
                  · intro vs wx hG hd K hK
                    replace hK : ∀ (uu : Value) (w' : World), Below wx.heap.size wx w' → ((Wt w C m q s0 base rs Ah ch hads ⟨room, fuse, false, qs.map Rq.x⟩ A1 c1 A2 c2)) w' → (Hb w) (.inl (.pointer (some ⟨q, 0, none⟩))) uu w' → K _ w' := hK
                    simp only [Act.put, List.setIfInBounds_toArray, List.set_cons_zero, List.set_cons_succ] at hK ⊢
                    have HK := Lib.hid hK
                    have HG := Lib.hid hG
                    clear hK hd
                    clear hG
                    go_simp
                    exact HK.out _ _ (Below.refl _ _) HG.out rfl
                  · intro vs wx hG hd K hK
                    have e5 : vs 5 = .pointer (some ⟨q, 0, none⟩) := hd.get (j := 5) (by simp [depsOf, Region.binds])
                    replace hK : ∀ (uu : Value) (w' : World), Below wx.heap.size wx w' → ((Wt w C m q s0 base rs Ah ch hads ⟨room, fuse, false, qs.map Rq.x⟩ A1 c1 A2 c2)) w' → (Hb w) (.inl (.pointer (some ⟨q, 0, none⟩))) uu w' → K _ w' := hK
                    simp only [Act.put, List.setIfInBounds_toArray, List.set_cons_zero, List.set_cons_succ, e5] at hK ⊢
                    have HK := Lib.hid hK
                    have HG := Lib.hid hG
                    clear hK hd e5
                    clear hG
                    go_simp
                    exact HK.out _ _ (Below.refl _ _) HG.out rfl
                  · intro vs wx hG hd K hK
                    have e6 : vs 6 = .pointer (some ⟨q, 0, none⟩) := hd.get (j := 6) (by simp [depsOf, Region.binds])
                    replace hK : ∀ (uu : Value) (w' : World), Below wx.heap.size wx w' → ((Wt w C m q s0 base rs Ah ch hads ⟨room, fuse, false, qs.map Rq.x⟩ A1 c1 A2 c2)) w' → (Hb w) (.inl (.pointer (some ⟨q, 2, none⟩))) uu w' → K _ w' := hK
                    simp only [Act.put, List.setIfInBounds_toArray, List.set_cons_zero, List.set_cons_succ, e6] at hK ⊢
                    have HK := Lib.hid hK
                    have HG := Lib.hid hG
                    clear hK hd e6
                    clear hG
                    go_simp
                    exact HK.out _ _ (Below.refl _ _) HG.out rfl
                  · intro vs wx hG hd K hK
                    have e7 : vs 7 = .pointer (some ⟨q, 2, none⟩) := hd.get (j := 7) (by simp [depsOf, Region.binds])
                    replace hK : ∀ (uu : Value) (w' : World), Below wx.heap.size wx w' → ((Wt w C m q s0 base rs Ah ch hads ⟨room, fuse, false, qs.map Rq.x⟩ A1 c1 A2 c2)) w' → (Hb w) (.inl (.slice A1 base.length c1)) uu w' → K _ w' := hK
                    simp only [Act.put, List.setIfInBounds_toArray, List.set_cons_zero, List.set_cons_succ, e7] at hK ⊢
                    have HK := Lib.hid hK
                    have HG := Lib.hid hG
                    clear hK hd e7
                    have gq1 := HG.out.wq.x1
                    have gq2 := HG.out.wq.x2
                    have gq3 := HG.out.wq.x3
                    clear hG
                    go_simp
                    exact HK.out _ _ (Below.refl _ _) HG.out rfl
                  · intro vs wx hG hd K hK
                    replace hK : ∀ (uu : Value) (w' : World), Below wx.heap.size wx w' → ((Wt w C m q s0 base rs Ah ch hads ⟨room, fuse, false, qs.map Rq.x⟩ A1 c1 A2 c2)) w' → (Hb w) (.inl (.pointer (some ⟨q, 0, none⟩))) uu w' → K _ w' := hK
                    simp only [Act.put, List.setIfInBounds_toArray, List.set_cons_zero, List.set_cons_succ] at hK ⊢
                    have HK := Lib.hid hK
                    have HG := Lib.hid hG
                    clear hK hd
                    clear hG
                    go_simp
                    exact HK.out _ _ (Below.refl _ _) HG.out rfl
                  · intro vs wx hG hd K hK
                    have e9 : vs 9 = .pointer (some ⟨q, 0, none⟩) := hd.get (j := 9) (by simp [depsOf, Region.binds])
                    replace hK : ∀ (uu : Value) (w' : World), Below wx.heap.size wx w' → ((Wt w C m q s0 base rs Ah ch hads ⟨room, fuse, false, qs.map Rq.x⟩ A1 c1 A2 c2)) w' → (Hb w) (.inl (.pointer (some ⟨q, 0, none⟩))) uu w' → K _ w' := hK
                    simp only [Act.put, List.setIfInBounds_toArray, List.set_cons_zero, List.set_cons_succ, e9] at hK ⊢
                    have HK := Lib.hid hK
                    have HG := Lib.hid hG
                    clear hK hd e9
                    clear hG
                    go_simp
                    exact HK.out _ _ (Below.refl _ _) HG.out rfl
                  · intro vs wx hG hd K hK
                    have e10 : vs 10 = .pointer (some ⟨q, 0, none⟩) := hd.get (j := 10) (by simp [depsOf, Region.binds])
                    replace hK : ∀ (uu : Value) (w' : World), Below wx.heap.size wx w' → ((Wt w C m q s0 base rs Ah ch hads ⟨room, fuse, false, qs.map Rq.x⟩ A1 c1 A2 c2)) w' → (Hb w) (.inl (.pointer (some ⟨q, 3, none⟩))) uu w' → K _ w' := hK
                    simp only [Act.put, List.setIfInBounds_toArray, List.set_cons_zero, List.set_cons_succ, e10] at hK ⊢
                    have HK := Lib.hid hK
                    have HG := Lib.hid hG
                    clear hK hd e10
                    clear hG
                    go_simp
                    exact HK.out _ _ (Below.refl _ _) HG.out rfl
                  · intro vs wx hG hd K hK
                    have e11 : vs 11 = .pointer (some ⟨q, 3, none⟩) := hd.get (j := 11) (by simp [depsOf, Region.binds])
                    replace hK : ∀ (uu : Value) (w' : World), Below wx.heap.size wx w' → ((Wt w C m q s0 base rs Ah ch hads ⟨room, fuse, false, qs.map Rq.x⟩ A1 c1 A2 c2)) w' → (Hb w) (.inl (.slice A2 rs.length c2)) uu w' → K _ w' := hK
                    simp only [Act.put, List.setIfInBounds_toArray, List.set_cons_zero, List.set_cons_succ, e11] at hK ⊢
                    have HK := Lib.hid hK
                    have HG := Lib.hid hG
                    clear hK hd e11
                    have gq1 := HG.out.wq.x1
                    have gq2 := HG.out.wq.x2
                    have gq3 := HG.out.wq.x3
                    clear hG
                    go_simp
                    exact HK.out _ _ (Below.refl _ _) HG.out rfl
                  · intro vs wx hG hd K hK
                    have e8 : vs 8 = .slice A1 base.length c1 := hd.get (j := 8) (by simp [depsOf, Region.binds])
                    have e12 : vs 12 = .slice A2 rs.length c2 := hd.get (j := 12) (by simp [depsOf, Region.binds])
                    replace hK : ∀ (uu : Value) (w' : World), Below wx.heap.size wx w' → ((Wt w C m q s0 base rs Ah ch hads ⟨room, fuse, false, qs.map Rq.x⟩ A1 c1 A2 c2)) w' → (Hb w) (.inr L9) uu w' → K _ w' := hK
                    simp only [Act.put, List.setIfInBounds_toArray, List.set_cons_zero, List.set_cons_succ, e8, e12] at hK ⊢
                    have HK := Lib.hid hK
                    have HG := Lib.hid hG
                    clear hK hd e8 e12
                    clear hG
                    go_simp
                    go_at_call 33
                    refine (HWH.out _ HG.out).mono ?_
                    rintro e w9 ⟨A9, c9, rfl, ho, hb⟩
                    exact HK.out _ _ hb (HG.out.below hb) ⟨A9, c9, rfl, ho.more HG.out.bel.size⟩
                  · intro vs wx hG hd K hK
                    have e0 : vs 0 = rP m := hd.get (j := 0) (by simp [depsOf, Region.binds])
                    have e4 : vs 4 = .int .i64 s0 := hd.get (j := 4) (by simp [depsOf, Region.binds])
                    obtain ⟨A13, c13, e13, q13⟩ : ∃ Aq cq, vs 13 = .slice Aq L9.length cq ∧ Ob wx w.heap.size (.slice Aq L9.length cq) L9 := hd.get (j := 13) (by simp [depsOf, Region.binds])
                    replace hK : ∀ (uu : Value) (w' : World), (fun v w' => v = .int .i64 r0 ∧ ∃ wA, (Wt w C m q s0 base rs Ah ch hads ⟨room, fuse, false, qs.map Rq.x⟩ A1 c1 A2 c2) wA ∧ Ew wA C m a0 w') uu w' → K _ w' := hK
                    simp only [Act.put, List.setIfInBounds_toArray, List.set_cons_zero, List.set_cons_succ, e0, e4, e13] at hK ⊢
                    have HK := Lib.hid hK
                    have HG := Lib.hid hG
                    clear hK hd e0 e4 e13
                    clear hG
                    go_simp
                    go_at_call 20
                    refine (rappend_RD (r := r0) (a' := a0) HG.out.rd HL.out q13.bs.1 (Nat.le_refl _) (fun hl ad e hb => by have h5 := (own_block q13 hl e rfl).1; have h6 := HCW.out _ hb; omega) HA.out).mono ?_
                    rintro e w9 ⟨rfl, C9, D9, T9, hC9⟩
                    exact HK.out _ _ ⟨rfl, wx, HG.out, C9, D9, T9, hC9⟩
                  · intro vs wx hE K hK
                    simp only [Act.put, List.setIfInBounds_toArray, List.set_cons_zero, List.set_cons_succ] at hK ⊢
                    have HK := Lib.hid hK
                    clear hK hE
                    go_simp
                    exact HK.out
                case hend =>
                  intro vs wy hE he
                  obtain ⟨e1, wA, T, E9⟩ := hE
                  rw [he, e1]
                  have HWA := Lib.hid T
                  have HE0 := Lib.hid E9
                  have HNC : Hid (∀ k, w.heap.size ≤ k → ¬ C k) := Lib.hid fun k hk hc => by have := HCW.out k hc; omega
                  have HNQ : Hid (¬ C q) := Lib.hid (HNC.out q T.hq)
                  have HQG : Hid (w.heap.size ≤ q) := Lib.hid T.hq
                  have hhc := T.had.sr encI_len |>.1.le
                  rw [HHL.out] at hhc
                  have hhm := T.had.sr encI_len |>.1.max
                  unfold maxLen at hhm
                  have wq9 := T.wq.tn E9.tn HNQ.out
                  have f0 := wq9.x0
                  have f1 := wq9.x1
                  have hql9 := wq9.lt
                  have HL1 := Lib.hid (lim_app HL.out HA.out)
                  clear he e1 T E9 wq9
                  by_cases hr0 : r0 = 0
                  · subst hr0
                    obtain ⟨r3, a3, h3⟩ : ∃ r3 a3, opD syncA a0 s0 = (r3, a3) := ⟨_, _, rfl⟩
                    have HD3 : Hid (dropsA (r3, a3) (hads.drop 0) = (r, a')) := Lib.hid (by
                      have h9 := HRL.out
                      unfold layA at h9
                      rw [HA.out, if_pos rfl] at h9
                      unfold keepA at h9
                      rw [h3] at h9
                      simpa using h9)
                    have HC3 := Lib.hid (HE0.out.step fun C' R' _ => rsync_RD R' HL1.out h3)
                    have HL3 := Lib.hid (lim_sync HL1.out h3)
                    clear h3
                    go_wp2_with (go_at_call 15; refine HC3.out.mono ?_; rintro e w2 ⟨rfl, E2⟩; have HE2 := Lib.hid E2; clear E2)
                    go_loopw [14, 13] (fun iv ev wr => ∃ (i : Nat) (r1 : Int) (a1 : Ad), iv = .int .i64 (i : Int) ∧ ev = .int .i64 r1 ∧ i ≤ qs.length ∧ Hid (dropsA (r1, a1) (hads.drop i) = (r, a')) ∧ Hid (Lim a1) ∧ Hid (Ew wA C m a1 wr)) (fun iv _ _ => qs.length - (intOf iv).toNat)
                    case atStart => exact ⟨0, r3, a3, rfl, rfl, Nat.zero_le _, HD3, HL3, HE2⟩
                    case round =>
                      obtain ⟨i, r1, a1, rfl, rfl, hi, HDR, HLM, HE⟩ := hrel
                      rename World => wr
                      by_cases hlt : i < qs.length
                      · have i1 : (i : Int) < qs.length := by omega
                        by_cases hr1 : r1 = 0
                        · subst hr1
                          have so3 := HWA.out.had.tn HE.out.tn fun g hg hc => HNC.out g (HWA.out.had.lt g hg).1 hc
                          obtain ⟨h, rfl⟩ := so_addr so3 (by have := HHL.out; omega)
                          obtain ⟨o, ho⟩ : ∃ o, hads[i]? = some o := ⟨_, List.getElem?_eq_getElem (by have := HHL.out; omega)⟩
                          have v1 := so_slot so3 ho
                          obtain ⟨r2, a2, h2⟩ : ∃ r2 a2, opD dropA a1 o = (r2, a2) := ⟨_, _, rfl⟩
                          have HN2 : Hid (dropsA (r2, a2) (hads.drop (i + 1)) = (r, a')) := Lib.hid (by
                            have h9 := HDR.out
                            have e9 : hads.drop i = o :: hads.drop (i + 1) := by
                              obtain ⟨hl9, he9⟩ := List.getElem?_eq_some_iff.1 ho
                              rw [List.drop_eq_getElem_cons hl9, he9]
                            rw [e9] at h9
                            simpa [dropsA, h2] using h9)
                          have HC2 := Lib.hid (HE.out.step fun C' R' _ => rdrop_RD R' HLM.out h2)
                          have HL2 := Lib.hid (lim_drop HLM.out h2)
                          clear so3 ho h2 HDR
                          go_wp2_with (go_at_call 23; refine HC2.out.mono ?_; rintro e w2 ⟨rfl, E2⟩; have HE2 := Lib.hid E2; clear E2)
                          go_roundw
                          case rel => exact ⟨i + 1, r2, a2, by go_num, rfl, hlt, HN2, HL2, HE2⟩
                          case measure => simp [intOf]; try omega
                        · have r1b : (r1 == (0 : Int)) = false := by simpa using hr1
                          have HPAIR : Hid ((r1, a1) = (r, a')) := Lib.hid (by rw [← HDR.out, drops_stop hr1])
                          have hz := hr1
                          clear HDR
                          have HROUT : Hid (Ew w C m a1 wr) := Lib.hid (by
                            obtain ⟨C9, D9, T9, h9⟩ := HE.out
                            exact ⟨C9, D9, (Tn.ofNew HWA.out.bel).then T9, fun k hk => (h9 k hk).elim .inl fun h => .inr (Nat.le_trans HWA.out.bel.size h)⟩)
                          obtain ⟨q1, q2, q3⟩ := HEQ.out
                          have zb : (r1 == (0 : Int)) = false := by simpa using hz
                          have HZ := Lib.hid hz
                          have HPR := Lib.hid HPAIR.out
                          clear hz q1 q2 q3 HEQ
                          go_wp2_with fail
                          (try rw [Exit.noGoto_ret])
                          refine bodyPost_ret (v := .tuple #[.pointer none, .int .i64 r1]) (by simp [results, Try.results9, go_sem]) rfl ?_
                          obtain ⟨p1, p2⟩ := Prod.mk.inj HPR.out
                          subst p1 p2
                          exact ⟨HROUT.out, .inr ⟨HZ.out, rfl⟩⟩
                      · obtain rfl : i = qs.length := by omega
                        have HPAIR : Hid ((r1, a1) = (r, a')) := Lib.hid (by rw [← HDR.out, List.drop_eq_nil_of_le (by have := HHL.out; omega)]; rfl)
                        clear HDR
                        have HROUT : Hid (Ew w C m a1 wr) := Lib.hid (by
                          obtain ⟨C9, D9, T9, h9⟩ := HE.out
                          exact ⟨C9, D9, (Tn.ofNew HWA.out.bel).then T9, fun k hk => (h9 k hk).elim .inl fun h => .inr (Nat.le_trans HWA.out.bel.size h)⟩)
                        obtain ⟨q1, q2, q3⟩ := HEQ.out
                        by_cases hz : r1 = 0
                        · have zb : (r1 == (0 : Int)) = true := by simpa using hz
                          have HF := Lib.hid (HWA.out.wq.tn HE.out.tn HNQ.out)
                          have HFB := Lib.hid (HWA.out.bk.tn HE.out.tn HNC.out)
                          have HFR := Lib.hid (HWA.out.rw_.tn HE.out.tn HNC.out)
                          have HFC : Hid (∃ C', RD wr C' m a1 ∧ (∀ k, C' k → C k ∨ w.heap.size ≤ k) ∧ ¬ C' q) := Lib.hid (by
                            obtain ⟨C9, D9, T9, h9⟩ := HE.out
                            exact ⟨C9, D9, fun k hk => (h9 k hk).elim .inl fun h => .inr (Nat.le_trans HWA.out.bel.size h), fun h => (h9 q h).elim HNQ.out fun h => by have := HWA.out.wq.lt; omega⟩)
                          have HZ := Lib.hid hz
                          have HEQ2 := Lib.hid (And.intro q1 (And.intro q2 q3))
                          have HPR := Lib.hid HPAIR.out
                          clear hz q1 q2 q3 HEQ
                          go_wp2_with fail
                          (try rw [Exit.noGoto_ret])
                          refine bodyPost_ret (v := .tuple #[.pointer (some ⟨q, 0, none⟩), .int .i64 0]) (by simp [results, Try.results9, go_sem]) rfl ?_
                          obtain ⟨q1, q2, q3⟩ := HEQ2.out
                          obtain ⟨p1, p2⟩ := Prod.mk.inj HPR.out
                          subst p1 p2
                          have q4 := q3 HZ.out
                          subst q4
                          refine ⟨HROUT.out, .inl ⟨HZ.out, q, A1, c1, A2, c2, rfl, ?_, HQG.out, ?_, ?_, HFC.out⟩⟩
                          · rw [q1, q2]; exact HF.out
                          · rw [q1]; exact HFB.out
                          · rw [q2]; exact HFR.out
                        · have zb : (r1 == (0 : Int)) = false := by simpa using hz
                          have HZ := Lib.hid hz
                          have HPR := Lib.hid HPAIR.out
                          clear hz q1 q2 q3 HEQ
                          go_wp2_with fail
                          (try rw [Exit.noGoto_ret])
                          refine bodyPost_ret (v := .tuple #[.pointer none, .int .i64 r1]) (by simp [results, Try.results9, go_sem]) rfl ?_
                          obtain ⟨p1, p2⟩ := Prod.mk.inj HPR.out
                          subst p1 p2
                          exact ⟨HROUT.out, .inr ⟨HZ.out, rfl⟩⟩
                  · have r0b : (r0 == (0 : Int)) = false := by simpa using hr0
                    have HD3 : Hid (dropsA (r0, a0) (hads.drop 0) = (r, a')) := Lib.hid (by
                      have h9 := HRL.out
                      unfold layA at h9
                      rw [HA.out, if_neg hr0] at h9
                      rw [drops_stop hr0]
                      exact h9)
                    clear hr0
                    go_wp2_with fail
                    go_loopw [14, 13] (fun iv ev wr => ∃ (i : Nat) (r1 : Int) (a1 : Ad), iv = .int .i64 (i : Int) ∧ ev = .int .i64 r1 ∧ i ≤ qs.length ∧ Hid (dropsA (r1, a1) (hads.drop i) = (r, a')) ∧ Hid (Lim a1) ∧ Hid (Ew wA C m a1 wr)) (fun iv _ _ => qs.length - (intOf iv).toNat)
                    case atStart => exact ⟨0, r0, a0, rfl, rfl, Nat.zero_le _, HD3, HL1, HE0⟩
                    case round =>
                      obtain ⟨i, r1, a1, rfl, rfl, hi, HDR, HLM, HE⟩ := hrel
                      rename World => wr
                      by_cases hlt : i < qs.length
                      · have i1 : (i : Int) < qs.length := by omega
                        by_cases hr1 : r1 = 0
                        · subst hr1
                          have so3 := HWA.out.had.tn HE.out.tn fun g hg hc => HNC.out g (HWA.out.had.lt g hg).1 hc
                          obtain ⟨h, rfl⟩ := so_addr so3 (by have := HHL.out; omega)
                          obtain ⟨o, ho⟩ : ∃ o, hads[i]? = some o := ⟨_, List.getElem?_eq_getElem (by have := HHL.out; omega)⟩
                          have v1 := so_slot so3 ho
                          obtain ⟨r2, a2, h2⟩ : ∃ r2 a2, opD dropA a1 o = (r2, a2) := ⟨_, _, rfl⟩
                          have HN2 : Hid (dropsA (r2, a2) (hads.drop (i + 1)) = (r, a')) := Lib.hid (by
                            have h9 := HDR.out
                            have e9 : hads.drop i = o :: hads.drop (i + 1) := by
                              obtain ⟨hl9, he9⟩ := List.getElem?_eq_some_iff.1 ho
                              rw [List.drop_eq_getElem_cons hl9, he9]
                            rw [e9] at h9
                            simpa [dropsA, h2] using h9)
                          have HC2 := Lib.hid (HE.out.step fun C' R' _ => rdrop_RD R' HLM.out h2)
                          have HL2 := Lib.hid (lim_drop HLM.out h2)
                          clear so3 ho h2 HDR
                          go_wp2_with (go_at_call 23; refine HC2.out.mono ?_; rintro e w2 ⟨rfl, E2⟩; have HE2 := Lib.hid E2; clear E2)
                          go_roundw
                          case rel => exact ⟨i + 1, r2, a2, by go_num, rfl, hlt, HN2, HL2, HE2⟩
                          case measure => simp [intOf]; try omega
                        · have r1b : (r1 == (0 : Int)) = false := by simpa using hr1
                          have HPAIR : Hid ((r1, a1) = (r, a')) := Lib.hid (by rw [← HDR.out, drops_stop hr1])
                          have hz := hr1
                          clear HDR
                          have HROUT : Hid (Ew w C m a1 wr) := Lib.hid (by
                            obtain ⟨C9, D9, T9, h9⟩ := HE.out
                            exact ⟨C9, D9, (Tn.ofNew HWA.out.bel).then T9, fun k hk => (h9 k hk).elim .inl fun h => .inr (Nat.le_trans HWA.out.bel.size h)⟩)
                          obtain ⟨q1, q2, q3⟩ := HEQ.out
                          have zb : (r1 == (0 : Int)) = false := by simpa using hz
                          have HZ := Lib.hid hz
                          have HPR := Lib.hid HPAIR.out
                          clear hz q1 q2 q3 HEQ
                          go_wp2_with fail
                          (try rw [Exit.noGoto_ret])
                          refine bodyPost_ret (v := .tuple #[.pointer none, .int .i64 r1]) (by simp [results, Try.results9, go_sem]) rfl ?_
                          obtain ⟨p1, p2⟩ := Prod.mk.inj HPR.out
                          subst p1 p2
                          exact ⟨HROUT.out, .inr ⟨HZ.out, rfl⟩⟩
                      · obtain rfl : i = qs.length := by omega
                        have HPAIR : Hid ((r1, a1) = (r, a')) := Lib.hid (by rw [← HDR.out, List.drop_eq_nil_of_le (by have := HHL.out; omega)]; rfl)
                        clear HDR
                        have HROUT : Hid (Ew w C m a1 wr) := Lib.hid (by
                          obtain ⟨C9, D9, T9, h9⟩ := HE.out
                          exact ⟨C9, D9, (Tn.ofNew HWA.out.bel).then T9, fun k hk => (h9 k hk).elim .inl fun h => .inr (Nat.le_trans HWA.out.bel.size h)⟩)
                        obtain ⟨q1, q2, q3⟩ := HEQ.out
                        by_cases hz : r1 = 0
                        · have zb : (r1 == (0 : Int)) = true := by simpa using hz
                          have HF := Lib.hid (HWA.out.wq.tn HE.out.tn HNQ.out)
                          have HFB := Lib.hid (HWA.out.bk.tn HE.out.tn HNC.out)
                          have HFR := Lib.hid (HWA.out.rw_.tn HE.out.tn HNC.out)
                          have HFC : Hid (∃ C', RD wr C' m a1 ∧ (∀ k, C' k → C k ∨ w.heap.size ≤ k) ∧ ¬ C' q) := Lib.hid (by
                            obtain ⟨C9, D9, T9, h9⟩ := HE.out
                            exact ⟨C9, D9, fun k hk => (h9 k hk).elim .inl fun h => .inr (Nat.le_trans HWA.out.bel.size h), fun h => (h9 q h).elim HNQ.out fun h => by have := HWA.out.wq.lt; omega⟩)
                          have HZ := Lib.hid hz
                          have HEQ2 := Lib.hid (And.intro q1 (And.intro q2 q3))
                          have HPR := Lib.hid HPAIR.out
                          clear hz q1 q2 q3 HEQ
                          go_wp2_with fail
                          (try rw [Exit.noGoto_ret])
                          refine bodyPost_ret (v := .tuple #[.pointer (some ⟨q, 0, none⟩), .int .i64 0]) (by simp [results, Try.results9, go_sem]) rfl ?_
                          obtain ⟨q1, q2, q3⟩ := HEQ2.out
                          obtain ⟨p1, p2⟩ := Prod.mk.inj HPR.out
                          subst p1 p2
                          have q4 := q3 HZ.out
                          subst q4
                          refine ⟨HROUT.out, .inl ⟨HZ.out, q, A1, c1, A2, c2, rfl, ?_, HQG.out, ?_, ?_, HFC.out⟩⟩
                          · rw [q1, q2]; exact HF.out
                          · rw [q1]; exact HFB.out
                          · rw [q2]; exact HFR.out
                        · have zb : (r1 == (0 : Int)) = false := by simpa using hz
                          have HZ := Lib.hid hz
                          have HPR := Lib.hid HPAIR.out
                          clear hz q1 q2 q3 HEQ
                          go_wp2_with fail
                          (try rw [Exit.noGoto_ret])
                          refine bodyPost_ret (v := .tuple #[.pointer none, .int .i64 r1]) (by simp [results, Try.results9, go_sem]) rfl ?_
                          obtain ⟨p1, p2⟩ := Prod.mk.inj HPR.out
                          subst p1 p2
                          exact ⟨HROUT.out, .inr ⟨HZ.out, rfl⟩⟩
        · have hal : aloneA (qs.map Rq.x) = false := by
            unfold aloneA
            rw [newA_none fun y hy => by
              obtain ⟨j, hj⟩ := List.getElem?_of_mem hy
              exact HNO.out j y (by omega) hj]
          have hlg : lgA (qs.map Rq.x) = ([], []) := by
            unfold lgA
            rw [newA_none fun y hy => by
              obtain ⟨j, hj⟩ := List.getElem?_of_mem hy
              exact HNO.out j y (by omega) hj]
          have hqw1 : w.heap.size ≤ q := by have := HQ.out; omega
          obtain ⟨base, rs, A1, c1, A2, c2, HWT, HRL, HEQ, HBD⟩ : ∃ (base : List UInt8) (rs : List (List UInt8)) (A1 : Option Addr) (c1 : Nat) (A2 : Option Addr) (c2 : Nat), Hid (Wt w C m q s0 base rs Ah ch ((qs.map Rq.x).map As.n) ⟨room, fuse, false, qs.map Rq.x⟩ A1 c1 A2 c2 wc) ∧ Hid (layA ⟨room, fuse, false, qs.map Rq.x⟩ s0 (framesB base rs) ((qs.map Rq.x).map As.n) = (r, a')) ∧ Hid ((lgA (qs.map Rq.x)).1 = base ∧ (lgA (qs.map Rq.x)).2 = rs ∧ (r = 0 → s = s0)) ∧ Hid (base.length ≤ 1048576 ∧ (∀ x ∈ rs, x.length ≤ 1048576) ∧ (recsB rs).length ≤ 67108864) := by
            have h9 := HRS.out
            unfold rsA at h9
            rw [if_neg (by rw [hal]; decide), hlg] at h9
            simp only [Prod.mk.injEq] at h9
            have hsl := seg_lay ⟨room, fuse, false, qs.map Rq.x⟩ HN.out (framesB [] []) ((qs.map Rq.x).map As.n)
            simp only [← HS0.out] at hsl
            have hb9 : Below w.heap.size w wc := HB.out.trans (HB2.out.mono HB.out.size)
            refine ⟨[], [], none, 0, none, 0, Lib.hid ⟨HW.out.below HB2.out, ⟨⟨Nat.le_refl _, Nat.zero_le _, fun _ => rfl, fun h => absurd h (by simp)⟩, fun ad e => by cases e⟩, Rw.empty _ _ _, (HAD.out.below HB2.out).more (by omega), HR.out.below hb9, hb9, hqw1⟩, Lib.hid (by rw [hsl.1]; exact Prod.ext h9.1 h9.2.1), Lib.hid ⟨by rw [hlg], by rw [hlg], fun hr9 => by rw [← h9.2.2]; exact hsl.2 (by rw [h9.1]; exact hr9)⟩, Lib.hid ⟨by simp, fun x hx => (by cases hx), by simp [recsB]⟩⟩
          have hkl : (qs.length : Int) - 1 - (k : Int) = -1 := by omega
          rw [hkl]
          generalize wc = wt at *
          clear hal hlg hkl hlt
          go_wp2_with fail
          obtain ⟨hads, hhd⟩ : ∃ hads, hads = (qs.map Rq.x).map As.n := ⟨_, rfl⟩
          have HHL : Hid (hads.length = qs.length) := Lib.hid (by rw [hhd]; simp)
          rw [← hhd] at HRL HWT
          obtain ⟨L9, hL9⟩ : ∃ L9, L9 = framesB base rs := ⟨_, rfl⟩
          rw [← hL9] at HRL
          obtain ⟨r0, a0, ha0⟩ : ∃ r0 a0, appD ⟨room, fuse, false, qs.map Rq.x⟩ s0 L9 = (r0, a0) := ⟨_, _, rfl⟩
          have HA := Lib.hid ha0
          have HWH : Hid (∀ wx, (Wt w C m q s0 base rs Ah ch hads ⟨room, fuse, false, qs.map Rq.x⟩ A1 c1 A2 c2) wx → Calls Try.prog 33 #[.slice A1 base.length c1, .slice A2 rs.length c2] wx (NewB wx L9)) := Lib.hid fun wx T => by
            rw [hL9]
            exact whole_any wx.heap.size A1 c1 base A2 c2 rs wx T.bk.bs T.rw_.pr.1 (Nat.le_refl _) HBD.out.1 HBD.out.2.1 (by rw [framesB_len]; have h1 := HBD.out.1; have h2 := HBD.out.2.2; omega)
          have t0 := HWT.out.wq.x0
          have hb1 := HWT.out.bk.bs.le
          have hb2 := HWT.out.rw_.pr.1.le
          have hqtl := HWT.out.wq.lt
          clear ha0 hL9 hhd
          apply region_VT (Hb w) (Wt w C m q s0 base rs Ah ch hads ⟨room, fuse, false, qs.map Rq.x⟩ A1 c1 A2 c2) (fun v w' => v = .int .i64 r0 ∧ ∃ wA, (Wt w C m q s0 base rs Ah ch hads ⟨room, fuse, false, qs.map Rq.x⟩ A1 c1 A2 c2) wA ∧ Ew wA C m a0 w') 14 [.inl (rP m), .inl (.pointer (some ⟨q, 0, none⟩)), .inl (.pointer (some ⟨q, 0, none⟩)), .inl (.pointer (some ⟨q, 1, none⟩)), .inl (.int .i64 s0), .inl (.pointer (some ⟨q, 0, none⟩)), .inl (.pointer (some ⟨q, 0, none⟩)), .inl (.pointer (some ⟨q, 2, none⟩)), .inl (.slice A1 base.length c1), .inl (.pointer (some ⟨q, 0, none⟩)), .inl (.pointer (some ⟨q, 0, none⟩)), .inl (.pointer (some ⟨q, 3, none⟩)), .inl (.slice A2 rs.length c2), .inr L9, .inl undef] (.inl undef)
          case mono => exact fun p v w0 w9 h hb => Hb.mono h hb
          case hm => kernel_rfl
          case hf => kernel_rfl
          case hl => kernel_rfl
          case hQ => exact (by intro c x y w e h; exact And.intro (e.symm.trans (And.left h)) (And.right h))
          case hF => intro vs; simp only [putAll, Act.put, List.setIfInBounds_toArray, List.set_cons_zero, List.set_cons_succ, Nat.reduceAdd]; rfl
          case h0 => exact HWT.out.below ⟨rfl, rfl, rfl, Nat.le_refl _, fun _ _ => rfl⟩
          case hstep =>
            repeat' (first | exact AllOps.nil | apply AllOps.cons)
            · intro vs wx hG hd K hK
              replace hK : ∀ (uu : Value) (w' : World), Below wx.heap.size wx w' → ((Wt w C m q s0 base rs Ah ch hads ⟨room, fuse, false, qs.map Rq.x⟩ A1 c1 A2 c2)) w' → (Hb w) (.inl (rP m)) uu w' → K _ w' := hK
              simp only [Act.put, List.setIfInBounds_toArray, List.set_cons_zero, List.set_cons_succ] at hK ⊢
              have HK := Lib.hid hK
              have HG := Lib.hid hG
              clear hK hd
              clear hG
              go_simp
              exact HK.out _ _ (Below.refl _ _) HG.out rfl
            · intro vs wx hG hd K hK
              replace hK : ∀ (uu : Value) (w' : World), Below wx.heap.size wx w' → ((Wt w C m q s0 base rs Ah ch hads ⟨room, fuse, false, qs.map Rq.x⟩ A1 c1 A2 c2)) w' → (Hb w) (.inl (.pointer (some ⟨q, 0, none⟩))) uu w' → K _ w' := hK
              simp only [Act.put, List.setIfInBounds_toArray, List.set_cons_zero, List.set_cons_succ] at hK ⊢
              have HK := Lib.hid hK
              have HG := Lib.hid hG
              clear hK hd
              clear hG
              go_simp
              exact HK.out _ _ (Below.refl _ _) HG.out rfl
            · intro vs wx hG hd K hK
              have e1 : vs 1 = .pointer (some ⟨q, 0, none⟩) := hd.get (j := 1) (by simp [depsOf, Region.binds])
              replace hK : ∀ (uu : Value) (w' : World), Below wx.heap.size wx w' → ((Wt w C m q s0 base rs Ah ch hads ⟨room, fuse, false, qs.map Rq.x⟩ A1 c1 A2 c2)) w' → (Hb w) (.inl (.pointer (some ⟨q, 0, none⟩))) uu w' → K _ w' := hK
              simp only [Act.put, List.setIfInBounds_toArray, List.set_cons_zero, List.set_cons_succ, e1] at hK ⊢
              have HK := Lib.hid hK
              have HG := Lib.hid hG
              clear hK hd e1
              clear hG
              go_simp
              exact HK.out _ _ (Below.refl _ _) HG.out rfl
            · intro vs wx hG hd K hK
              have e2 : vs 2 = .pointer (some ⟨q, 0, none⟩) := hd.get (j := 2) (by simp [depsOf, Region.binds])
              replace hK : ∀ (uu : Value) (w' : World), Below wx.heap.size wx w' → ((Wt w C m q s0 base rs Ah ch hads ⟨room, fuse, false, qs.map Rq.x⟩ A1 c1 A2 c2)) w' → (Hb w) (.inl (.pointer (some ⟨q, 1, none⟩))) uu w' → K _ w' := hK
              simp only [Act.put, List.setIfInBounds_toArray, List.set_cons_zero, List.set_cons_succ, e2] at hK ⊢
              have HK := Lib.hid hK
              have HG := Lib.hid hG
              clear hK hd e2
              clear hG
              go_simp
              exact HK.out _ _ (Below.refl _ _) HG.out rfl
            · intro vs wx hG hd K hK
              have e3 : vs 3 = .pointer (some ⟨q, 1, none⟩) := hd.get (j := 3) (by simp [depsOf, Region.binds])
              replace hK : ∀ (uu : Value) (w' : World), Below wx.heap.size wx w' → ((Wt w C m q s0 base rs Ah ch hads ⟨room, fuse, false, qs.map Rq.x⟩ A1 c1 A2 c2)) w' → (Hb w) (.inl (.int .i64 s0)) uu w' → K _ w' := hK
              simp only [Act.put, List.setIfInBounds_toArray, List.set_cons_zero, List.set_cons_succ, e3] at hK ⊢
              have HK := Lib.hid hK
              have HG := Lib.hid hG
              clear hK hd e3
              have gq1 := HG.out.wq.x1
              have gq2 := HG.out.wq.x2
              have gq3 := HG.out.wq.x3
              clear hG
              go_simp
              exact HK.out _ _ (Below.refl _ _) HG.out rfl
            · intro vs wx hG hd K hK
              replace hK : ∀ (uu : Value) (w' : World), Below wx.heap.size wx w' → ((Wt w C m q s0 base rs Ah ch hads ⟨room, fuse, false, qs.map Rq.x⟩ A1 c1 A2 c2)) w' → (Hb w) (.inl (.pointer (some ⟨q, 0, none⟩))) uu w' → K _ w' := hK
              simp only [Act.put, List.setIfInBounds_toArray, List.set_cons_zero, List.set_cons_succ] at hK ⊢
              have HK := Lib.hid hK
              have HG := Lib.hid hG
              clear hK hd
              clear hG
              go_simp
              exact HK.out _ _ (Below.refl _ _) HG.out rfl
            · intro vs wx hG hd K hK
              have e5 : vs 5 = .pointer (some ⟨q, 0, none⟩) := hd.get (j := 5) (by simp [depsOf, Region.binds])
              replace hK : ∀ (uu : Value) (w' : World), Below wx.heap.size wx w' → ((Wt w C m q s0 base rs Ah ch hads ⟨room, fuse, false, qs.map Rq.x⟩ A1 c1 A2 c2)) w' → (Hb w) (.inl (.pointer (some ⟨q, 0, none⟩))) uu w' → K _ w' := hK
              simp only [Act.put, List.setIfInBounds_toArray, List.set_cons_zero, List.set_cons_succ, e5] at hK ⊢
              have HK := Lib.hid hK
              have HG := Lib.hid hG
              clear hK hd e5
              clear hG
              go_simp
              exact HK.out _ _ (Below.refl _ _) HG.out rfl
            · intro vs wx hG hd K hK
              have e6 : vs 6 = .pointer (some ⟨q, 0, none⟩) := hd.get (j := 6) (by simp [depsOf, Region.binds])
              replace hK : ∀ (uu : Value) (w' : World), Below wx.heap.size wx w' → ((Wt w C m q s0 base rs Ah ch hads ⟨room, fuse, false, qs.map Rq.x⟩ A1 c1 A2 c2)) w' → (Hb w) (.inl (.pointer (some ⟨q, 2, none⟩))) uu w' → K _ w' := hK
              simp only [Act.put, List.setIfInBounds_toArray, List.set_cons_zero, List.set_cons_succ, e6] at hK ⊢
              have HK := Lib.hid hK
              have HG := Lib.hid hG
              clear hK hd e6
              clear hG
              go_simp
              exact HK.out _ _ (Below.refl _ _) HG.out rfl
            · intro vs wx hG hd K hK
              have e7 : vs 7 = .pointer (some ⟨q, 2, none⟩) := hd.get (j := 7) (by simp [depsOf, Region.binds])
              replace hK : ∀ (uu : Value) (w' : World), Below wx.heap.size wx w' → ((Wt w C m q s0 base rs Ah ch hads ⟨room, fuse, false, qs.map Rq.x⟩ A1 c1 A2 c2)) w' → (Hb w) (.inl (.slice A1 base.length c1)) uu w' → K _ w' := hK
              simp only [Act.put, List.setIfInBounds_toArray, List.set_cons_zero, List.set_cons_succ, e7] at hK ⊢
              have HK := Lib.hid hK
              have HG := Lib.hid hG
              clear hK hd e7
              have gq1 := HG.out.wq.x1
              have gq2 := HG.out.wq.x2
              have gq3 := HG.out.wq.x3
              clear hG
              go_simp
              exact HK.out _ _ (Below.refl _ _) HG.out rfl
            · intro vs wx hG hd K hK
              replace hK : ∀ (uu : Value) (w' : World), Below wx.heap.size wx w' → ((Wt w C m q s0 base rs Ah ch hads ⟨room, fuse, false, qs.map Rq.x⟩ A1 c1 A2 c2)) w' → (Hb w) (.inl (.pointer (some ⟨q, 0, none⟩))) uu w' → K _ w' := hK
              simp only [Act.put, List.setIfInBounds_toArray, List.set_cons_zero, List.set_cons_succ] at hK ⊢
              have HK := Lib.hid hK
              have HG := Lib.hid hG
              clear hK hd
              clear hG
              go_simp
              exact HK.out _ _ (Below.refl _ _) HG.out rfl
            · intro vs wx hG hd K hK
              have e9 : vs 9 = .pointer (some ⟨q, 0, none⟩) := hd.get (j := 9) (by simp [depsOf, Region.binds])
              replace hK : ∀ (uu : Value) (w' : World), Below wx.heap.size wx w' → ((Wt w C m q s0 base rs Ah ch hads ⟨room, fuse, false, qs.map Rq.x⟩ A1 c1 A2 c2)) w' → (Hb w) (.inl (.pointer (some ⟨q, 0, none⟩))) uu w' → K _ w' := hK
              simp only [Act.put, List.setIfInBounds_toArray, List.set_cons_zero, List.set_cons_succ, e9] at hK ⊢
              have HK := Lib.hid hK
              have HG := Lib.hid hG
              clear hK hd e9
              clear hG
              go_simp
              exact HK.out _ _ (Below.refl _ _) HG.out rfl
            · intro vs wx hG hd K hK
              have e10 : vs 10 = .pointer (some ⟨q, 0, none⟩) := hd.get (j := 10) (by simp [depsOf, Region.binds])
              replace hK : ∀ (uu : Value) (w' : World), Below wx.heap.size wx w' → ((Wt w C m q s0 base rs Ah ch hads ⟨room, fuse, false, qs.map Rq.x⟩ A1 c1 A2 c2)) w' → (Hb w) (.inl (.pointer (some ⟨q, 3, none⟩))) uu w' → K _ w' := hK
              simp only [Act.put, List.setIfInBounds_toArray, List.set_cons_zero, List.set_cons_succ, e10] at hK ⊢
              have HK := Lib.hid hK
              have HG := Lib.hid hG
              clear hK hd e10
              clear hG
              go_simp
              exact HK.out _ _ (Below.refl _ _) HG.out rfl
            · intro vs wx hG hd K hK
              have e11 : vs 11 = .pointer (some ⟨q, 3, none⟩) := hd.get (j := 11) (by simp [depsOf, Region.binds])
              replace hK : ∀ (uu : Value) (w' : World), Below wx.heap.size wx w' → ((Wt w C m q s0 base rs Ah ch hads ⟨room, fuse, false, qs.map Rq.x⟩ A1 c1 A2 c2)) w' → (Hb w) (.inl (.slice A2 rs.length c2)) uu w' → K _ w' := hK
              simp only [Act.put, List.setIfInBounds_toArray, List.set_cons_zero, List.set_cons_succ, e11] at hK ⊢
              have HK := Lib.hid hK
              have HG := Lib.hid hG
              clear hK hd e11
              have gq1 := HG.out.wq.x1
              have gq2 := HG.out.wq.x2
              have gq3 := HG.out.wq.x3
              clear hG
              go_simp
              exact HK.out _ _ (Below.refl _ _) HG.out rfl
            · intro vs wx hG hd K hK
              have e8 : vs 8 = .slice A1 base.length c1 := hd.get (j := 8) (by simp [depsOf, Region.binds])
              have e12 : vs 12 = .slice A2 rs.length c2 := hd.get (j := 12) (by simp [depsOf, Region.binds])
              replace hK : ∀ (uu : Value) (w' : World), Below wx.heap.size wx w' → ((Wt w C m q s0 base rs Ah ch hads ⟨room, fuse, false, qs.map Rq.x⟩ A1 c1 A2 c2)) w' → (Hb w) (.inr L9) uu w' → K _ w' := hK
              simp only [Act.put, List.setIfInBounds_toArray, List.set_cons_zero, List.set_cons_succ, e8, e12] at hK ⊢
              have HK := Lib.hid hK
              have HG := Lib.hid hG
              clear hK hd e8 e12
              clear hG
              go_simp
              go_at_call 33
              refine (HWH.out _ HG.out).mono ?_
              rintro e w9 ⟨A9, c9, rfl, ho, hb⟩
              exact HK.out _ _ hb (HG.out.below hb) ⟨A9, c9, rfl, ho.more HG.out.bel.size⟩
            · intro vs wx hG hd K hK
              have e0 : vs 0 = rP m := hd.get (j := 0) (by simp [depsOf, Region.binds])
              have e4 : vs 4 = .int .i64 s0 := hd.get (j := 4) (by simp [depsOf, Region.binds])
              obtain ⟨A13, c13, e13, q13⟩ : ∃ Aq cq, vs 13 = .slice Aq L9.length cq ∧ Ob wx w.heap.size (.slice Aq L9.length cq) L9 := hd.get (j := 13) (by simp [depsOf, Region.binds])
              replace hK : ∀ (uu : Value) (w' : World), (fun v w' => v = .int .i64 r0 ∧ ∃ wA, (Wt w C m q s0 base rs Ah ch hads ⟨room, fuse, false, qs.map Rq.x⟩ A1 c1 A2 c2) wA ∧ Ew wA C m a0 w') uu w' → K _ w' := hK
              simp only [Act.put, List.setIfInBounds_toArray, List.set_cons_zero, List.set_cons_succ, e0, e4, e13] at hK ⊢
              have HK := Lib.hid hK
              have HG := Lib.hid hG
              clear hK hd e0 e4 e13
              clear hG
              go_simp
              go_at_call 20
              refine (rappend_RD (r := r0) (a' := a0) HG.out.rd HL.out q13.bs.1 (Nat.le_refl _) (fun hl ad e hb => by have h5 := (own_block q13 hl e rfl).1; have h6 := HCW.out _ hb; omega) HA.out).mono ?_
              rintro e w9 ⟨rfl, C9, D9, T9, hC9⟩
              exact HK.out _ _ ⟨rfl, wx, HG.out, C9, D9, T9, hC9⟩
            · intro vs wx hE K hK
              simp only [Act.put, List.setIfInBounds_toArray, List.set_cons_zero, List.set_cons_succ] at hK ⊢
              have HK := Lib.hid hK
              clear hK hE
              go_simp
              exact HK.out
          case hend =>
            intro vs wy hE he
            obtain ⟨e1, wA, T, E9⟩ := hE
            rw [he, e1]
            have HWA := Lib.hid T
            have HE0 := Lib.hid E9
            have HNC : Hid (∀ k, w.heap.size ≤ k → ¬ C k) := Lib.hid fun k hk hc => by have := HCW.out k hc; omega
            have HNQ : Hid (¬ C q) := Lib.hid (HNC.out q T.hq)
            have HQG : Hid (w.heap.size ≤ q) := Lib.hid T.hq
            have hhc := T.had.sr encI_len |>.1.le
            rw [HHL.out] at hhc
            have hhm := T.had.sr encI_len |>.1.max
            unfold maxLen at hhm
            have wq9 := T.wq.tn E9.tn HNQ.out
            have f0 := wq9.x0
            have f1 := wq9.x1
            have hql9 := wq9.lt
            have HL1 := Lib.hid (lim_app HL.out HA.out)
            clear he e1 T E9 wq9
            by_cases hr0 : r0 = 0
            · subst hr0
              obtain ⟨r3, a3, h3⟩ : ∃ r3 a3, opD syncA a0 s0 = (r3, a3) := ⟨_, _, rfl⟩
              have HD3 : Hid (dropsA (r3, a3) (hads.drop 0) = (r, a')) := Lib.hid (by
                have h9 := HRL.out
                unfold layA at h9
                rw [HA.out, if_pos rfl] at h9
                unfold keepA at h9
                rw [h3] at h9
                simpa using h9)
              have HC3 := Lib.hid (HE0.out.step fun C' R' _ => rsync_RD R' HL1.out h3)
              have HL3 := Lib.hid (lim_sync HL1.out h3)
              clear h3
              go_wp2_with (go_at_call 15; refine HC3.out.mono ?_; rintro e w2 ⟨rfl, E2⟩; have HE2 := Lib.hid E2; clear E2)
              go_loopw [14, 13] (fun iv ev wr => ∃ (i : Nat) (r1 : Int) (a1 : Ad), iv = .int .i64 (i : Int) ∧ ev = .int .i64 r1 ∧ i ≤ qs.length ∧ Hid (dropsA (r1, a1) (hads.drop i) = (r, a')) ∧ Hid (Lim a1) ∧ Hid (Ew wA C m a1 wr)) (fun iv _ _ => qs.length - (intOf iv).toNat)
              case atStart => exact ⟨0, r3, a3, rfl, rfl, Nat.zero_le _, HD3, HL3, HE2⟩
              case round =>
                obtain ⟨i, r1, a1, rfl, rfl, hi, HDR, HLM, HE⟩ := hrel
                rename World => wr
                by_cases hlt : i < qs.length
                · have i1 : (i : Int) < qs.length := by omega
                  by_cases hr1 : r1 = 0
                  · subst hr1
                    have so3 := HWA.out.had.tn HE.out.tn fun g hg hc => HNC.out g (HWA.out.had.lt g hg).1 hc
                    obtain ⟨h, rfl⟩ := so_addr so3 (by have := HHL.out; omega)
                    obtain ⟨o, ho⟩ : ∃ o, hads[i]? = some o := ⟨_, List.getElem?_eq_getElem (by have := HHL.out; omega)⟩
                    have v1 := so_slot so3 ho
                    obtain ⟨r2, a2, h2⟩ : ∃ r2 a2, opD dropA a1 o = (r2, a2) := ⟨_, _, rfl⟩
                    have HN2 : Hid (dropsA (r2, a2) (hads.drop (i + 1)) = (r, a')) := Lib.hid (by
                      have h9 := HDR.out
                      have e9 : hads.drop i = o :: hads.drop (i + 1) := by
                        obtain ⟨hl9, he9⟩ := List.getElem?_eq_some_iff.1 ho
                        rw [List.drop_eq_getElem_cons hl9, he9]
                      rw [e9] at h9
                      simpa [dropsA, h2] using h9)
                    have HC2 := Lib.hid (HE.out.step fun C' R' _ => rdrop_RD R' HLM.out h2)
                    have HL2 := Lib.hid (lim_drop HLM.out h2)
                    clear so3 ho h2 HDR
                    go_wp2_with (go_at_call 23; refine HC2.out.mono ?_; rintro e w2 ⟨rfl, E2⟩; have HE2 := Lib.hid E2; clear E2)
                    go_roundw
                    case rel => exact ⟨i + 1, r2, a2, by go_num, rfl, hlt, HN2, HL2, HE2⟩
                    case measure => simp [intOf]; try omega
                  · have r1b : (r1 == (0 : Int)) = false := by simpa using hr1
                    have HPAIR : Hid ((r1, a1) = (r, a')) := Lib.hid (by rw [← HDR.out, drops_stop hr1])
                    have hz := hr1
                    clear HDR
                    have HROUT : Hid (Ew w C m a1 wr) := Lib.hid (by
                      obtain ⟨C9, D9, T9, h9⟩ := HE.out
                      exact ⟨C9, D9, (Tn.ofNew HWA.out.bel).then T9, fun k hk => (h9 k hk).elim .inl fun h => .inr (Nat.le_trans HWA.out.bel.size h)⟩)
                    obtain ⟨q1, q2, q3⟩ := HEQ.out
                    have zb : (r1 == (0 : Int)) = false := by simpa using hz
                    have HZ := Lib.hid hz
                    have HPR := Lib.hid HPAIR.out
                    clear hz q1 q2 q3 HEQ
                    go_wp2_with fail
                    (try rw [Exit.noGoto_ret])
                    refine bodyPost_ret (v := .tuple #[.pointer none, .int .i64 r1]) (by simp [results, Try.results9, go_sem]) rfl ?_
                    obtain ⟨p1, p2⟩ := Prod.mk.inj HPR.out
                    subst p1 p2
                    exact ⟨HROUT.out, .inr ⟨HZ.out, rfl⟩⟩
                · obtain rfl : i = qs.length := by omega
                  have HPAIR : Hid ((r1, a1) = (r, a')) := Lib.hid (by rw [← HDR.out, List.drop_eq_nil_of_le (by have := HHL.out; omega)]; rfl)
                  clear HDR
                  have HROUT : Hid (Ew w C m a1 wr) := Lib.hid (by
                    obtain ⟨C9, D9, T9, h9⟩ := HE.out
                    exact ⟨C9, D9, (Tn.ofNew HWA.out.bel).then T9, fun k hk => (h9 k hk).elim .inl fun h => .inr (Nat.le_trans HWA.out.bel.size h)⟩)
                  obtain ⟨q1, q2, q3⟩ := HEQ.out
                  by_cases hz : r1 = 0
                  · have zb : (r1 == (0 : Int)) = true := by simpa using hz
                    have HF := Lib.hid (HWA.out.wq.tn HE.out.tn HNQ.out)
                    have HFB := Lib.hid (HWA.out.bk.tn HE.out.tn HNC.out)
                    have HFR := Lib.hid (HWA.out.rw_.tn HE.out.tn HNC.out)
                    have HFC : Hid (∃ C', RD wr C' m a1 ∧ (∀ k, C' k → C k ∨ w.heap.size ≤ k) ∧ ¬ C' q) := Lib.hid (by
                      obtain ⟨C9, D9, T9, h9⟩ := HE.out
                      exact ⟨C9, D9, fun k hk => (h9 k hk).elim .inl fun h => .inr (Nat.le_trans HWA.out.bel.size h), fun h => (h9 q h).elim HNQ.out fun h => by have := HWA.out.wq.lt; omega⟩)
                    have HZ := Lib.hid hz
                    have HEQ2 := Lib.hid (And.intro q1 (And.intro q2 q3))
                    have HPR := Lib.hid HPAIR.out
                    clear hz q1 q2 q3 HEQ
                    go_wp2_with fail
                    (try rw [Exit.noGoto_ret])
                    refine bodyPost_ret (v := .tuple #[.pointer (some ⟨q, 0, none⟩), .int .i64 0]) (by simp [results, Try.results9, go_sem]) rfl ?_
                    obtain ⟨q1, q2, q3⟩ := HEQ2.out
                    obtain ⟨p1, p2⟩ := Prod.mk.inj HPR.out
                    subst p1 p2
                    have q4 := q3 HZ.out
                    subst q4
                    refine ⟨HROUT.out, .inl ⟨HZ.out, q, A1, c1, A2, c2, rfl, ?_, HQG.out, ?_, ?_, HFC.out⟩⟩
                    · rw [q1, q2]; exact HF.out
                    · rw [q1]; exact HFB.out
                    · rw [q2]; exact HFR.out
                  · have zb : (r1 == (0 : Int)) = false := by simpa using hz
                    have HZ := Lib.hid hz
                    have HPR := Lib.hid HPAIR.out
                    clear hz q1 q2 q3 HEQ
                    go_wp2_with fail
                    (try rw [Exit.noGoto_ret])
                    refine bodyPost_ret (v := .tuple #[.pointer none, .int .i64 r1]) (by simp [results, Try.results9, go_sem]) rfl ?_
                    obtain ⟨p1, p2⟩ := Prod.mk.inj HPR.out
                    subst p1 p2
                    exact ⟨HROUT.out, .inr ⟨HZ.out, rfl⟩⟩
            · have r0b : (r0 == (0 : Int)) = false := by simpa using hr0
              have HD3 : Hid (dropsA (r0, a0) (hads.drop 0) = (r, a')) := Lib.hid (by
                have h9 := HRL.out
                unfold layA at h9
                rw [HA.out, if_neg hr0] at h9
                rw [drops_stop hr0]
                exact h9)
              clear hr0
              go_wp2_with fail
              go_loopw [14, 13] (fun iv ev wr => ∃ (i : Nat) (r1 : Int) (a1 : Ad), iv = .int .i64 (i : Int) ∧ ev = .int .i64 r1 ∧ i ≤ qs.length ∧ Hid (dropsA (r1, a1) (hads.drop i) = (r, a')) ∧ Hid (Lim a1) ∧ Hid (Ew wA C m a1 wr)) (fun iv _ _ => qs.length - (intOf iv).toNat)
              case atStart => exact ⟨0, r0, a0, rfl, rfl, Nat.zero_le _, HD3, HL1, HE0⟩
              case round =>
                obtain ⟨i, r1, a1, rfl, rfl, hi, HDR, HLM, HE⟩ := hrel
                rename World => wr
                by_cases hlt : i < qs.length
                · have i1 : (i : Int) < qs.length := by omega
                  by_cases hr1 : r1 = 0
                  · subst hr1
                    have so3 := HWA.out.had.tn HE.out.tn fun g hg hc => HNC.out g (HWA.out.had.lt g hg).1 hc
                    obtain ⟨h, rfl⟩ := so_addr so3 (by have := HHL.out; omega)
                    obtain ⟨o, ho⟩ : ∃ o, hads[i]? = some o := ⟨_, List.getElem?_eq_getElem (by have := HHL.out; omega)⟩
                    have v1 := so_slot so3 ho
                    obtain ⟨r2, a2, h2⟩ : ∃ r2 a2, opD dropA a1 o = (r2, a2) := ⟨_, _, rfl⟩
                    have HN2 : Hid (dropsA (r2, a2) (hads.drop (i + 1)) = (r, a')) := Lib.hid (by
                      have h9 := HDR.out
                      have e9 : hads.drop i = o :: hads.drop (i + 1) := by
                        obtain ⟨hl9, he9⟩ := List.getElem?_eq_some_iff.1 ho
                        rw [List.drop_eq_getElem_cons hl9, he9]
                      rw [e9] at h9
                      simpa [dropsA, h2] using h9)
                    have HC2 := Lib.hid (HE.out.step fun C' R' _ => rdrop_RD R' HLM.out h2)
                    have HL2 := Lib.hid (lim_drop HLM.out h2)
                    clear so3 ho h2 HDR
                    go_wp2_with (go_at_call 23; refine HC2.out.mono ?_; rintro e w2 ⟨rfl, E2⟩; have HE2 := Lib.hid E2; clear E2)
                    go_roundw
                    case rel => exact ⟨i + 1, r2, a2, by go_num, rfl, hlt, HN2, HL2, HE2⟩
                    case measure => simp [intOf]; try omega
                  · have r1b : (r1 == (0 : Int)) = false := by simpa using hr1
                    have HPAIR : Hid ((r1, a1) = (r, a')) := Lib.hid (by rw [← HDR.out, drops_stop hr1])
                    have hz := hr1
                    clear HDR
                    have HROUT : Hid (Ew w C m a1 wr) := Lib.hid (by
                      obtain ⟨C9, D9, T9, h9⟩ := HE.out
                      exact ⟨C9, D9, (Tn.ofNew HWA.out.bel).then T9, fun k hk => (h9 k hk).elim .inl fun h => .inr (Nat.le_trans HWA.out.bel.size h)⟩)
                    obtain ⟨q1, q2, q3⟩ := HEQ.out
                    have zb : (r1 == (0 : Int)) = false := by simpa using hz
                    have HZ := Lib.hid hz
                    have HPR := Lib.hid HPAIR.out
                    clear hz q1 q2 q3 HEQ
                    go_wp2_with fail
                    (try rw [Exit.noGoto_ret])
                    refine bodyPost_ret (v := .tuple #[.pointer none, .int .i64 r1]) (by simp [results, Try.results9, go_sem]) rfl ?_
                    obtain ⟨p1, p2⟩ := Prod.mk.inj HPR.out
                    subst p1 p2
                    exact ⟨HROUT.out, .inr ⟨HZ.out, rfl⟩⟩
                · obtain rfl : i = qs.length := by omega
                  have HPAIR : Hid ((r1, a1) = (r, a')) := Lib.hid (by rw [← HDR.out, List.drop_eq_nil_of_le (by have := HHL.out; omega)]; rfl)
                  clear HDR
                  have HROUT : Hid (Ew w C m a1 wr) := Lib.hid (by
                    obtain ⟨C9, D9, T9, h9⟩ := HE.out
                    exact ⟨C9, D9, (Tn.ofNew HWA.out.bel).then T9, fun k hk => (h9 k hk).elim .inl fun h => .inr (Nat.le_trans HWA.out.bel.size h)⟩)
                  obtain ⟨q1, q2, q3⟩ := HEQ.out
                  by_cases hz : r1 = 0
                  · have zb : (r1 == (0 : Int)) = true := by simpa using hz
                    have HF := Lib.hid (HWA.out.wq.tn HE.out.tn HNQ.out)
                    have HFB := Lib.hid (HWA.out.bk.tn HE.out.tn HNC.out)
                    have HFR := Lib.hid (HWA.out.rw_.tn HE.out.tn HNC.out)
                    have HFC : Hid (∃ C', RD wr C' m a1 ∧ (∀ k, C' k → C k ∨ w.heap.size ≤ k) ∧ ¬ C' q) := Lib.hid (by
                      obtain ⟨C9, D9, T9, h9⟩ := HE.out
                      exact ⟨C9, D9, fun k hk => (h9 k hk).elim .inl fun h => .inr (Nat.le_trans HWA.out.bel.size h), fun h => (h9 q h).elim HNQ.out fun h => by have := HWA.out.wq.lt; omega⟩)
                    have HZ := Lib.hid hz
                    have HEQ2 := Lib.hid (And.intro q1 (And.intro q2 q3))
                    have HPR := Lib.hid HPAIR.out
                    clear hz q1 q2 q3 HEQ
                    go_wp2_with fail
                    (try rw [Exit.noGoto_ret])
                    refine bodyPost_ret (v := .tuple #[.pointer (some ⟨q, 0, none⟩), .int .i64 0]) (by simp [results, Try.results9, go_sem]) rfl ?_
                    obtain ⟨q1, q2, q3⟩ := HEQ2.out
                    obtain ⟨p1, p2⟩ := Prod.mk.inj HPR.out
                    subst p1 p2
                    have q4 := q3 HZ.out
                    subst q4
                    refine ⟨HROUT.out, .inl ⟨HZ.out, q, A1, c1, A2, c2, rfl, ?_, HQG.out, ?_, ?_, HFC.out⟩⟩
                    · rw [q1, q2]; exact HF.out
                    · rw [q1]; exact HFB.out
                    · rw [q2]; exact HFR.out
                  · have zb : (r1 == (0 : Int)) = false := by simpa using hz
                    have HZ := Lib.hid hz
                    have HPR := Lib.hid HPAIR.out
                    clear hz q1 q2 q3 HEQ
                    go_wp2_with fail
                    (try rw [Exit.noGoto_ret])
                    refine bodyPost_ret (v := .tuple #[.pointer none, .int .i64 r1]) (by simp [results, Try.results9, go_sem]) rfl ?_
                    obtain ⟨p1, p2⟩ := Prod.mk.inj HPR.out
                    subst p1 p2
                    exact ⟨HROUT.out, .inr ⟨HZ.out, rfl⟩⟩
end Go.Proofs.Ytkkaehaoahpibaa
