/- Both disks, as the law sees them. -/
import Derived.Test.YtkkaehaoahpibaaPk10
import Derived.Test.YtkkaehaoahpibaaPk21
import Derived.Test.YtkkaehaoahpibaaPk13
import Derived.Test.YtkkaehaoahpibaaPk9
import Derived.BigQuiet
import Derived.Test.YtkkaehaoahpibaaPk15
import Derived.Test.YtkkaehaoahpibaaPk18
namespace Go.Proofs.Ytkkaehaoahpibaa
open Go.RowKit Go.BigFrame

section
variable {w W W1 wx : World} {B C : Nat → Prop} {d m : Nat} {a b : Ad}
theorem JJ.back (J : JJ W1 B C d m a b wx) (hb : Below W.heap.size W W1) : JJ W B C d m a b wx := by
  obtain ⟨B', C', D, R, h1, h2, h3⟩ := J.ex
  have hs := hb.size
  exact ⟨⟨B', C', D, R, fun k hk => (h1 k hk).imp id fun h => by omega, fun k hk => (h2 k hk).imp id fun h => by omega, h3⟩, (Tn.ofNew hb).thenQ J.tn fun k hk h => h⟩
set_option maxRecDepth 100000 in
set_option maxHeartbeats 6400000 in
theorem does_3j {n : Int} {p : List UInt8} {ks : List Int} {A1 A2 : Option Addr} {c1 c2 : Nat} (n2 : n ≤ 9223372036854775807) (D : DD W B d a) (R : RD W C m a) (hBC : ∀ k, B k → ¬ C k) :
    Calls Try.prog 7 #[dP d, rP m, .agg #[.int .i64 3, .int .i64 n, .slice A1 p.length c1, .slice A2 ks.length c2]] W fun e w' => e = .returned (.bool true) ∧ ∃ a', JJ W B C d m a' a' w' := by
  have HJ : Hid (JJ (W.alloc (.cells #[.int .i64 3, .int .i64 n, .slice A1 p.length c1, .slice A2 ks.length c2] 35)) B C d m a a _) := Lib.hid (JJ.start (D.alloc _) (R.below ((Below.refl _ _).alloc (Nat.le_refl _) _)) hBC)
  have HFin : Hid (∀ wx a', JJ (W.alloc (.cells #[.int .i64 3, .int .i64 n, .slice A1 p.length c1, .slice A2 ks.length c2] 35)) B C d m a' a' wx → ∃ a', JJ W B C d m a' a' wx) := Lib.hid fun wx a' J => ⟨a', J.back ((Below.refl _ _).alloc (Nat.le_refl _) _)⟩
  have R1 := R.below ((Below.refl W.heap.size W).alloc (Nat.le_refl _) (.cells #[.int .i64 3, .int .i64 n, .slice A1 p.length c1, .slice A2 ks.length c2] 35))
  obtain ⟨y2, y3, yf⟩ := R1.cells
  have yf2 := yf 2
  have hmw : m < W.heap.size := R.bt m R.mem
  have hne : m ≠ W.heap.size := by omega
  clear yf R1 D R hBC hmw
  cases hd : a.down with
  | true =>
    rw [hd] at y3
    have HP : Hid (fuseD a n = (5, a)) := Lib.hid (by unfold fuseD; rw [if_pos hd])
    clear hd
    go_enter Try.func7, Try.ntmps7
    go_wp2_with fail
    go_at_call 24
    refine (HJ.out.prog (r := 5) (a' := a) fun B' D' _ => fuse_DD D' n2 HP.out).mono ?_
    rintro e w9 ⟨rfl, J9⟩
    have HR := Lib.hid (HFin.out _ _ J9)
    clear J9
    go_wp2_with fail
    go_ret
    exact ⟨rfl, HR.out⟩
  | false =>
    rw [hd] at y3
    have HP : Hid (fuseD a n = (0, ⟨a.room, max n (-1), false, a.L⟩)) := Lib.hid (by unfold fuseD; rw [if_neg (by rw [hd]; decide)])
    have HD := Lib.hid hd
    clear hd
    go_enter Try.func7, Try.ntmps7
    go_wp2_with fail
    have J2 := HJ.out.setF (max n (-1))
    go_at_call 24
    refine (J2.prog (r := 0) (a' := ⟨a.room, max n (-1), false, a.L⟩) fun B' D' _ => fuse_DD D' n2 HP.out).mono ?_
    rintro e w9 ⟨rfl, J9⟩
    rw [HD.out] at J9
    have HR := Lib.hid (HFin.out _ _ J9)
    clear J9 J2
    go_wp2_with fail
    go_ret
    exact ⟨rfl, HR.out⟩
end
end Go.Proofs.Ytkkaehaoahpibaa
namespace Go.Proofs.Ytkkaehaoahpibaa
open Go.RowKit Go.BigFrame

set_option maxRecDepth 100000 in
set_option maxHeartbeats 3200000 in
theorem wsame_any {K K' c c' : Nat} {A A' : Option Addr} {rs : List (List UInt8)} {w : World} (h : Rr w K A c rs) (h' : Rr w K' A' c' rs) (hK : K ≤ w.heap.size) (hK' : K' ≤ w.heap.size) :
    Calls Try.prog 10 #[.slice A rs.length c, .slice A' rs.length c'] w fun e w' => e = .returned (.bool true) ∧ Below w.heap.size w w' := by
  have H1 := Lib.hid h
  have H2 := Lib.hid h'
  have hc := h.le
  have hm := h.max
  have hc' := h'.le
  have hm' := h'.max
  unfold maxLen at hm hm'
  clear h h'
  go_enter Try.func10, Try.ntmps10
  go_wp2
  go_loopw [5] (fun iv wr => ∃ i : Nat, iv = .int .i64 (i : Int) ∧ i ≤ rs.length ∧ Hid (Below w.heap.size w wr)) (fun iv _ => rs.length - (intOf iv).toNat)
  case atStart => exact ⟨0, rfl, Nat.zero_le _, Lib.hid (Below.refl _ _)⟩
  case round =>
    obtain ⟨i, rfl, hi, HB⟩ := hrel
    rename World => wr
    by_cases hlt : i < rs.length
    · obtain ⟨ad, e1, _, A1, c1, x1, b1⟩ := (H1.out.below (HB.out.mono hK)).get hlt
      obtain ⟨ad', e2, _, A2, c2, x2, b2⟩ := (H2.out.below (HB.out.mono hK')).get hlt
      subst e1 e2
      have i1 : (i : Int) < rs.length := by omega
      have hl1 := b1.le
      have hl2 := b2.le
      generalize rs[i] = q at x1 x2 b1 b2 hl1 hl2
      have q1 := fun k => bs_str (b1.drewN k) (rfl : q.length = q.length)
      have q2 := fun k => bs_str (b2.drewN k) (rfl : q.length = q.length)
      have HD : Hid (∀ k, Below w.heap.size w (wr.drewN k)) := Lib.hid fun k => HB.out.trans ⟨rfl, rfl, rfl, Nat.le_refl _, fun _ _ => rfl⟩
      clear b1 b2
      go_wp2_with fail
      go_big_quiet (fail)
      go_wp2
      go_roundw
      case rel => exact ⟨i + 1, by go_num, by omega, Lib.hid (HD.out _)⟩
      case measure => simp [intOf]; omega
    · obtain rfl : i = rs.length := by omega
      have HB2 := Lib.hid HB.out
      go_wp2
      go_ret
      exact ⟨rfl, HB2.out⟩
end Go.Proofs.Ytkkaehaoahpibaa
namespace Go.Proofs.Ytkkaehaoahpibaa
open Go.RowKit Go.BigFrame

/-- Both disks are one, and so are both logs, or there is none. -/
def Lz (w : World) (d m : Nat) (wv rv : Value) (wx : World) : Prop := ∃ a B C, DD wx B d a ∧ RD wx C m a ∧ (∀ k, B k → w.heap.size ≤ k) ∧ (∀ k, C k → w.heap.size ≤ k) ∧ (∀ k, B k → ¬ C k) ∧ Below w.heap.size w wx ∧
  ((wv = .pointer none ∧ rv = .pointer none) ∨ ∃ p q s A1 n1 c1 A2 n2 c2, wv = wP p ∧ rv = rP q ∧ Wp wx p d s ∧ Wq wx q m s A1 n1 c1 A2 n2 c2 ∧ p ≠ q ∧ w.heap.size ≤ p ∧ w.heap.size ≤ q ∧ (¬ B p ∧ ¬ B q ∧ ¬ C p ∧ ¬ C q) ∧ 0 ≤ s ∧ s ≤ 9223372036854775807)
/-- The program's Open has run, the document's has not. -/
def Mid (w : World) (d m : Nat) (a a' : Ad) (r s : Int) (wv bv lv : Value) (w1 : World) : Prop := ∃ B C, DD w1 B d a' ∧ RD w1 C m a ∧ (∀ k, B k → w.heap.size ≤ k) ∧ (∀ k, C k → w.heap.size ≤ k) ∧ (∀ k, B k → ¬ C k) ∧ Below w.heap.size w w1 ∧
  ((r ≠ 0 ∧ wv = .pointer none ∧ bv = .slice none 0 0 ∧ lv = .slice none 0 0) ∨ (r = 0 ∧ ∃ p A1 c1 A2 c2 K, wv = wP p ∧ bv = .slice A1 (lgA a.L).1.length c1 ∧ lv = .slice A2 (lgA a.L).2.length c2 ∧ Wp w1 p d s ∧ Bk w1 K A1 c1 (lgA a.L).1 ∧ Rw w1 K 32 lv (lgA a.L).2 ∧ K ≤ p ∧ ¬ B p ∧ (∀ k, C k → k < K) ∧ w.heap.size ≤ K))
/-- Both have run. -/
def Opd (w : World) (d m : Nat) (r : Int) (wv bv lv rv : Value) (wx : World) : Prop := Lz w d m wv rv wx ∧
  ((r ≠ 0 ∧ wv = .pointer none ∧ rv = .pointer none) ∨ (r = 0 ∧ ∃ p q s base rs A1 c1 A2 c2 A3 c3 A4 c4, wv = wP p ∧ rv = rP q ∧ bv = .slice A1 base.length c1 ∧ lv = .slice A2 rs.length c2 ∧ Wq wx q m s A3 base.length c3 A4 rs.length c4 ∧ Bs wx wx.heap.size A1 c1 base ∧ Bs wx wx.heap.size A3 c3 base ∧ Rr wx wx.heap.size A2 c2 rs ∧ Rr wx wx.heap.size A4 c4 rs))
section
variable {w W w1 : World} {d m : Nat} {a a' : Ad} {r s : Int} {wv bv lv rv : Value}
theorem oA_seg {B : Nat → Prop} (D : DD W B d a) (h : oA a = (r, a', s)) : 0 ≤ s ∧ s ≤ 9223372036854775807 := by
  have h1 := grA_range D
  have h2 := abv_range h1.1 h1.2
  unfold oA at h
  split at h
  · simp only [Prod.mk.injEq] at h
    omega
  · unfold rsA at h
    split at h
    · simp only [Prod.mk.injEq] at h
      omega
    · simp only [Prod.mk.injEq] at h
      omega
theorem Lz.dz (Z : Lz w d m wv rv W) : Dz w d m W := by
  obtain ⟨a, B, C, D, R, h1, h2, h3, hb, _⟩ := Z
  exact ⟨a, B, C, D, R, h1, h2, h3, hb⟩
theorem Lz.none (Z : Dz w d m W) : Lz w d m (.pointer none) (.pointer none) W := by
  obtain ⟨a, B, C, D, R, h1, h2, h3, hb⟩ := Z
  exact ⟨a, B, C, D, R, h1, h2, h3, hb, .inl ⟨rfl, rfl⟩⟩
theorem Lz.bel (Z : Lz w d m wv rv W) : Below w.heap.size w W := by
  obtain ⟨a, B, C, D, R, h1, h2, h3, hb, _⟩ := Z
  exact hb
theorem Lz.below (Z : Lz w d m wv rv W) (hb : Below W.heap.size W w1) : Lz w d m wv rv w1 := by
  obtain ⟨a, B, C, D, R, h1, h2, h3, b, h⟩ := Z
  refine ⟨a, B, C, D.below hb, R.below hb, h1, h2, h3, b.trans (hb.mono b.size), ?_⟩
  rcases h with h | ⟨p, q, s, A1, n1, c1, A2, n2, c2, e1, e2, hp, hq, h⟩
  · exact .inl h
  · exact .inr ⟨p, q, s, A1, n1, c1, A2, n2, c2, e1, e2, hp.below hb, hq.below hb, h⟩
theorem Lz.is (Z : Lz w d m wv rv W) : Calls Try.prog 11 #[dP d, rP m] W fun e w' => e = .returned (.bool true) ∧ Lz w d m wv rv w' := by
  have Z0 := Z
  obtain ⟨a, B, C, D, R, h1, h2, h3, b, h⟩ := Z
  exact (is_any D R).mono fun e w' h => ⟨h.1, Z0.below h.2⟩
theorem Lz.fuse {n : Int} {p : List UInt8} {ks : List Int} {A1 A2 : Option Addr} {c1 c2 : Nat} (n2 : n ≤ 9223372036854775807) (Z : Lz w d m wv rv W) :
    Calls Try.prog 7 #[dP d, rP m, .agg #[.int .i64 3, .int .i64 n, .slice A1 p.length c1, .slice A2 ks.length c2]] W fun e w' => e = .returned (.bool true) ∧ Lz w d m wv rv w' := by
  obtain ⟨a, B, C, D, R, h1, h2, h3, b, h⟩ := Z
  refine (does_3j n2 D R h3).mono ?_
  rintro e w' ⟨rfl, a', J⟩
  refine ⟨rfl, ?_⟩
  have hs := b.size
  obtain ⟨B', C', D', R', g1, g2, g3⟩ := J.ex
  refine ⟨a', B', C', D', R', fun k hk => (g1 k hk).elim (h1 k) fun h => by omega, fun k hk => (g2 k hk).elim (h2 k) fun h => by omega, g3, J.tn.bel b (fun k hk => hk.elim (h1 k) (h2 k)) (Nat.le_refl _), ?_⟩
  rcases h with h | ⟨p, q, s, A1, n1, c1, A2, n2, c2, e1, e2, hp, hq, h5, h6, h7, ⟨k1, k2, k3, k4⟩, h9⟩
  · exact .inl h
  · have hpl : p < W.heap.size := World.block_lt_of_cell? _ _ hp.c0
    have hql := hq.lt
    exact .inr ⟨p, q, s, A1, n1, c1, A2, n2, c2, e1, e2, hp.tn J.tn fun h => h.elim k1 k3, hq.tn J.tn fun h => h.elim k2 k4, h5, h6, h7, ⟨fun h => (g1 p h).elim k1 fun h => by omega, fun h => (g1 q h).elim k2 fun h => by omega, fun h => (g2 p h).elim k3 fun h => by omega, fun h => (g2 q h).elim k4 fun h => by omega⟩, h9⟩
theorem Dz.popen (Z : Dz w d m W) : ∃ a a' r s, oA a = (r, a', s) ∧ (0 ≤ s ∧ s ≤ 9223372036854775807) ∧ Lim a ∧ (∀ x ∈ a.L, 1 ≤ x.n ∧ x.n ≤ 9223372036854775807) ∧ Calls Try.prog 8 #[dP d] W fun e w1 => ∃ wv bv lv, e = .returned (.tuple #[wv, bv, lv, .int .i64 r]) ∧ Mid w d m a a' r s wv bv lv w1 := by
  obtain ⟨a, B, C, D, R, h1, h2, h3, hb⟩ := Z
  obtain ⟨r, a', s, hrs⟩ : ∃ r a' s, oA a = (r, a', s) := ⟨_, _, _, rfl⟩
  refine ⟨a, a', r, s, hrs, oA_seg D hrs, D.lim, fun x hx => segs_le D x.n (List.mem_map_of_mem hx), ?_⟩
  have hs := hb.size
  refine (popen_any D hrs).mono ?_
  rintro e w1 (⟨hr, p, B', ⟨A1, c1, A2, c2, rfl, hW, hp, hp2, hO, hR⟩, D', t, hB, hnp⟩ | ⟨hr, rfl, B', D', t, hB⟩)
  · refine ⟨_, _, _, by rw [hr], B', C, D', R.tn t fun k hc hb => h3 k hb hc, fun k hk => (hB k hk).elim (h1 k) fun h => by omega, h2, fun k hk hc => (hB k hk).elim (fun h => h3 k h hc) fun h => (by have := R.bt k hc; omega), t.bel hb h1 (Nat.le_refl _), .inr ⟨hr, p, A1, c1, A2, c2, W.heap.size, rfl, rfl, rfl, hW, ⟨hO.bs.1, fun ad e hl => ?_⟩, hR, hp, hnp, R.bt, hs⟩⟩
    obtain ⟨g, hg, h5, h6⟩ := hO.addr hl
    have h7 : ad = ⟨g, 0, none⟩ := by rw [e] at hg; exact Option.some.inj hg
    rw [h7]
    exact h5
  · exact ⟨_, _, _, rfl, B', C, D', R.tn t fun k hc hb => h3 k hb hc, fun k hk => (hB k hk).elim (h1 k) fun h => by omega, h2, fun k hk hc => (hB k hk).elim (fun h => h3 k h hc) fun h => (by have := R.bt k hc; omega), t.bel hb h1 (Nat.le_refl _), .inl ⟨hr, rfl, rfl, rfl⟩⟩
theorem Mid.ropen (Z : Mid w d m a a' r s wv bv lv W) (h : oA a = (r, a', s)) (hs : 0 ≤ s ∧ s ≤ 9223372036854775807) (hL : Lim a) (hn : ∀ x ∈ a.L, 1 ≤ x.n ∧ x.n ≤ 9223372036854775807) :
    Calls Try.prog 9 #[rP m] W fun e w1 => ∃ rv, e = .returned (.tuple #[rv, .int .i64 r]) ∧ Opd w d m r wv bv lv rv w1 := by
  obtain ⟨B, C, D, R, h1, h2, h3, hb, hc⟩ := Z
  have hz := hb.size
  refine (ropen_all R hL hn h).mono ?_
  rintro e w1 ⟨⟨C1, R1, t1, hC1⟩, ⟨hr, q, A3, c3, A4, c4, rfl, hq, hq1, hk, hR4, C', R', hC, hnq⟩ | ⟨hr, rfl⟩⟩
  · rcases hc with ⟨h9, _⟩ | ⟨_, p, A1, c1, A2, c2, K, rfl, rfl, rfl, hW, hB1, hR2, hKp, hnp, hCK, hwK⟩
    · exact absurd hr h9
    · have hpl : p < W.heap.size := World.block_lt_of_cell? _ _ hW.c0
      have hcp : ¬ C p := fun h => by have := hCK p h; omega
      have hKn : ∀ k, K ≤ k → ¬ C k := fun k hk h => by have := hCK k h; omega
      refine ⟨_, by rw [hr], ⟨a', B, C', D.tn t1 fun k hb hc => h3 k hb hc, R', h1, fun k hk => (hC k hk).elim (h2 k) fun h => by omega, fun k hk hc => (hC k hc).elim (h3 k hk) fun h => (by have := D.bt k hk; omega), t1.bel hb h2 (Nat.le_refl _), .inr ⟨p, q, s, A3, _, c3, A4, _, c4, rfl, rfl, hW.tn t1 hcp, hq, by omega, by omega, by omega, ⟨hnp, fun h => (by have := D.bt q h; omega), fun h => (hC p h).elim hcp fun h => by omega, hnq⟩, hs⟩⟩, .inr ⟨hr, p, q, s, _, _, A1, c1, A2, c2, A3, c3, A4, c4, rfl, rfl, rfl, rfl, hq, (hB1.tn t1 hKn).bs, hk.bs, (hR2.tn t1 hKn).pr.1, hR4.pr.1⟩⟩
  · rcases hc with ⟨_, rfl, rfl, rfl⟩ | ⟨h9, _⟩
    · exact ⟨_, rfl, ⟨a', B, C1, D.tn t1 fun k hb hc => h3 k hb hc, R1, h1, fun k hk => (hC1 k hk).elim (h2 k) fun h => by omega, fun k hk hc => (hC1 k hc).elim (h3 k hk) fun h => (by have := D.bt k hk; omega), t1.bel hb h2 (Nat.le_refl _), .inl ⟨rfl, rfl⟩⟩, .inl ⟨hr, rfl, rfl⟩⟩
    · exact absurd h9 hr
end
end Go.Proofs.Ytkkaehaoahpibaa
namespace Go.Proofs.Ytkkaehaoahpibaa
open Go.RowKit Go.BigFrame

section
variable {w W wx : World} {B C : Nat → Prop} {d m p q n1 c1 n2 c2 : Nat} {a : Ad} {s : Int} {A1 A2 : Option Addr} {wv rv : Value}
theorem JW.fin (J : JW W B C d m p q a s a s A1 n1 c1 A2 n2 c2 wx) (hbl : Below w.heap.size w W) (hB : ∀ k, B k → w.heap.size ≤ k) (hC : ∀ k, C k → w.heap.size ≤ k) (hp : w.heap.size ≤ p) (hq : w.heap.size ≤ q) (hs : 0 ≤ s ∧ s ≤ 9223372036854775807) : Lz w d m (wP p) (rP q) wx := by
  obtain ⟨B', C', D, R, h1, h2, h3⟩ := J.ex
  have hz := hbl.size
  obtain ⟨k1, k2, k3, k4⟩ := J.nb
  have hpn := J.pn
  exact ⟨a, B', C', D, R, fun k hk => (h1 k hk).elim (hB k) fun h => by omega, fun k hk => (h2 k hk).elim (hC k) fun h => by omega, h3, J.tn.bel hbl (fun k hk => hk.elim (hB k) fun hk => hk.elim (hC k) fun hk => hk.elim (fun h => h ▸ hp) fun h => h ▸ hq) (Nat.le_refl _), .inr ⟨p, q, s, A1, n1, c1, A2, n2, c2, rfl, rfl, J.wp, J.wq, hpn.2.2, hp, hq, ⟨fun h => (h1 p h).elim k1 fun h => by omega, fun h => (h1 q h).elim k2 fun h => by omega, fun h => (h2 p h).elim k3 fun h => by omega, fun h => (h2 q h).elim k4 fun h => by omega⟩, hs⟩⟩
/-- The state, opened for a step of both logs. -/
theorem Lz.jw (Z : Lz w d m wv rv W) (hn : rv ≠ .pointer Option.none) : ∃ a B C p q s A1 n1 c1 A2 n2 c2, wv = wP p ∧ rv = rP q ∧ JW W B C d m p q a s a s A1 n1 c1 A2 n2 c2 W ∧ Lim a ∧ (0 ≤ s ∧ s ≤ 9223372036854775807) ∧ ∀ (a' : Ad) (s' : Int) wx, (0 ≤ s' ∧ s' ≤ 9223372036854775807) → JW W B C d m p q a' s' a' s' A1 n1 c1 A2 n2 c2 wx → Lz w d m wv rv wx := by
  obtain ⟨a, B, C, D, R, h1, h2, h3, hb, h⟩ := Z
  rcases h with ⟨_, h⟩ | ⟨p, q, s, A1, n1, c1, A2, n2, c2, rfl, rfl, hp, hq, h5, h6, h7, h8, h9⟩
  · exact absurd h hn
  · exact ⟨a, B, C, p, q, s, A1, n1, c1, A2, n2, c2, rfl, rfl, JW.start D R h3 hp hq h5 h8, D.lim, h9, fun a' s' wx hs J => J.fin hb h1 h2 h6 h7 hs⟩
theorem rebA_range {b : List UInt8} {r : Int} {a' : Ad} {s' : Int} (hs : 0 ≤ s ∧ s ≤ 9223372036854775807) (h : rebA a s b = (r, a', s')) : 0 ≤ s' ∧ s' ≤ 9223372036854775807 := by
  have h1 := abv_range hs.1 hs.2
  unfold rebA at h
  split at h
  · simp only [Prod.mk.injEq] at h
    omega
  · simp only [Prod.mk.injEq] at h
    omega
end
end Go.Proofs.Ytkkaehaoahpibaa
namespace Go.Proofs.Ytkkaehaoahpibaa
open Go.RowKit Go.BigFrame

theorem region_GQ {P : Program} {Q : Exit → Act → World → Prop} {ops : Array Oper} {id : Nat} {a0 : Act} {w0 : World} {ι σ : Type} (holds : ι → Value → σ → World → Prop) (G : Bool → Bool → Bool → σ → World → Prop) (p q t : Nat) (xs : List ι) (d : ι)
    (F : (Nat → Value) → Act) (hF : ∀ vs, F vs = putAll vs 0 ops.toList a0) (hm : P.follows .mixedOrders = true) (hf : fitsR ops = true) (hp : (Nat.blt p ops.size && (Nat.blt q ops.size && Nat.blt t ops.size)) = true)
    (hQ : ∀ c (x y : Act) w, x.defers = y.defers → Q (.panic c) x w → Q (.panic c) y w)
    (h0 : ∃ s, G false false false s w0.drew)
    (hstep : AllOps (fun i o => ∀ vs b c f s w, G b c f s w → AllD (fun j => holds (xs.getD j d) (vs j) s w) (depsOf o) → (Nat.beq i p = true → b = false) → (Nat.beq i q = true → c = false) → (Nat.beq i t = true → f = false) →
      ∀ K : Act → World → Prop, (∀ v s' w', G (upG i p b) (upG i q c) (upG i t f) s' w' → (∀ x u, holds x u s w → holds x u s' w') → holds (xs.getD i d) v s' w' → K ((F vs).put o.dst v) w') →
        if Region.wanted o (yielded ops (F vs).tmps) = true then Oper.wp P o (F vs) w K Q else K ((F vs).put o.dst undef) w) 0 ops.toList)
    (hend : ∀ vs s w, G true true true s w → (∀ i, i < ops.size → holds (xs.getD i d) (vs i) s w) → Q .normal (F vs) w) :
    (Code.region id ops true).wp P Q a0 w0 := by
  simp only [Bool.and_eq_true, Nat.blt_eq] at hp
  obtain ⟨s0, h0⟩ := h0
  refine region_inv hm hf F hF hQ (fun l vs w => ∃ s, G (l p) (l q) (l t) s w ∧ ∀ i, l i = true → holds (xs.getD i d) (vs i) s w) ⟨s0, h0, fun _ h => by cases h⟩ ?_ (fun l vs w hl hJ => ?_)
  · intro i o ho l vs w ⟨s, hG, hV⟩ hli hall K hK
    have hd := mem_deps ho hall
    have ho' : ops.toList[i]? = some o := by rw [Array.getElem?_toList]; exact ho
    have go := hstep.get ho'
    rw [Nat.zero_add] at go
    have hdep : AllD (fun j => holds (xs.getD j d) (vs j) s w) (depsOf o) := by
      have hdo : depsAt ops i = depsOf o := by simp [depsAt, ho]
      rw [hdo] at hd
      exact AllD.of (fun j hj => hV j hj) (AllL.mk hd)
    refine go vs (l p) (l q) (l t) s w hG hdep (fun h => by have := Nat.eq_of_beq_eq_true h; subst this; exact hli) (fun h => by have := Nat.eq_of_beq_eq_true h; subst this; exact hli) (fun h => by have := Nat.eq_of_beq_eq_true h; subst this; exact hli) K fun v s' w' hG' hk hv => hK _ w' ⟨s', ?_, fun j hj => ?_⟩
    · rw [upG_eq, upG_eq, upG_eq]; exact hG'
    · by_cases ej : j = i
      · subst ej; rw [updR_same]; exact hv
      · rw [updR_ne _ _ ej] at hj ⊢
        exact hk _ _ (hV j hj)
  · obtain ⟨s, h1, h2⟩ := hJ
    rw [hl p hp.1, hl q hp.2.1, hl t hp.2.2] at h1
    exact hend vs s w h1 fun i hi => h2 i (hl i hi)
/-- Both logs over both disks, the disks' blocks named. -/
structure JV (W : World) (B C : Nat → Prop) (d m p q : Nat) (a : Ad) (s1 : Int) (b : Ad) (s2 : Int) (A1 : Option Addr) (n1 c1 : Nat) (A2 : Option Addr) (n2 c2 : Nat) (S : (Nat → Prop) × (Nat → Prop)) (wx : World) : Prop where
  dd : DD wx S.1 d a
  rd : RD wx S.2 m b
  b1 : ∀ k, S.1 k → B k ∨ W.heap.size ≤ k
  b2 : ∀ k, S.2 k → C k ∨ W.heap.size ≤ k
  dj : ∀ k, S.1 k → ¬ S.2 k
  tn : Tn (fun k => B k ∨ C k ∨ k = p ∨ k = q) W wx
  wp : Wp wx p d s1
  wq : Wq wx q m s2 A1 n1 c1 A2 n2 c2
  pn : p < W.heap.size ∧ q < W.heap.size ∧ p ≠ q
  nb : ¬ B p ∧ ¬ B q ∧ ¬ C p ∧ ¬ C q
section
variable {W wx wy : World} {B C P : Nat → Prop} {d m p q n1 c1 n2 c2 : Nat} {a a' b b' : Ad} {r s1 s2 s' : Int} {f : Nat} {args : Array Value} {A1 A2 : Option Addr} {S : (Nat → Prop) × (Nat → Prop)}
theorem JV.jw (J : JV W B C d m p q a s1 b s2 A1 n1 c1 A2 n2 c2 S wx) : JW W B C d m p q a s1 b s2 A1 n1 c1 A2 n2 c2 wx :=
  ⟨⟨S.1, S.2, J.dd, J.rd, J.b1, J.b2, J.dj⟩, J.tn, J.wp, J.wq, J.pn, J.nb⟩
theorem JV.start (h : DD W B d a) (k : RD W C m b) (hd : ∀ k, B k → ¬ C k) (hp : Wp W p d s1) (hq : Wq W q m s2 A1 n1 c1 A2 n2 c2) (hpq : p ≠ q) (hn : ¬ B p ∧ ¬ B q ∧ ¬ C p ∧ ¬ C q) : JV W B C d m p q a s1 b s2 A1 n1 c1 A2 n2 c2 (B, C) W :=
  ⟨h, k, fun _ h => .inl h, fun _ h => .inl h, hd, Tn.refl _ _, hp, hq, ⟨World.block_lt_of_cell? _ _ hp.c0, hq.lt, hpq⟩, hn⟩
theorem JV.below (J : JV W B C d m p q a s1 b s2 A1 n1 c1 A2 n2 c2 S wx) (hb : Below wx.heap.size wx wy) : JV W B C d m p q a s1 b s2 A1 n1 c1 A2 n2 c2 S wy :=
  ⟨J.dd.below hb, J.rd.below hb, J.b1, J.b2, J.dj, J.tn.then (Tn.ofNew hb), J.wp.below hb, J.wq.below hb, J.pn, J.nb⟩
theorem JV.tnO {X : Nat → Prop} (J : JV W B C d m p q a s1 b s2 A1 n1 c1 A2 n2 c2 S wx) (t : Tn X wx wy) (hX : ∀ k, X k → W.heap.size ≤ k ∧ ¬ S.1 k ∧ ¬ S.2 k) : JV W B C d m p q a s1 b s2 A1 n1 c1 A2 n2 c2 S wy :=
  ⟨J.dd.tn t fun k h hx => (hX k hx).2.1 h, J.rd.tn t fun k h hx => (hX k hx).2.2 h, J.b1, J.b2, J.dj, J.tn.thenQ t fun k hk hx => absurd hk (by have := (hX k hx).1; omega), J.wp.tn t fun h => (by have := (hX p h).1; have := J.pn; omega), J.wq.tn t fun h => (by have := (hX q h).1; have := J.pn; omega), J.pn, J.nb⟩
theorem JV.prog (J : JV W B C d m p q a s1 b s2 A1 n1 c1 A2 n2 c2 S wx) (H : ¬ S.1 p → Calls Try.prog f args wx fun e w' => e = .returned (.int .i64 r) ∧ Lw wx S.1 p d s' a' w') :
    Calls Try.prog f args wx fun e w' => e = .returned (.int .i64 r) ∧ ∃ S', JV W B C d m p q a' s' b s2 A1 n1 c1 A2 n2 c2 S' w' ∧ Tn (fun k => S.1 k ∨ k = p) wx w' ∧ (∀ k, k < wx.heap.size → S'.1 k → S.1 k) ∧ S'.2 = S.2 := by
  have hs := J.tn.size
  obtain ⟨hp, hq, hpq⟩ := J.pn
  obtain ⟨nb1, nb2, nb3, nb4⟩ := J.nb
  have hbp : ¬ S.1 p := fun h => (J.b1 p h).elim nb1 fun h => by omega
  have hbq : ¬ S.1 q := fun h => (J.b1 q h).elim nb2 fun h => by omega
  have hcp : ¬ S.2 p := fun h => (J.b2 p h).elim nb3 fun h => by omega
  refine (H hbp).mono ?_
  rintro e w' ⟨rfl, B2, D2, t, hB, W1, hn1⟩
  refine ⟨rfl, (B2, S.2), ⟨D2, J.rd.tn t fun k hc hb => hb.elim (fun h => J.dj k h hc) fun h => hcp (h ▸ hc), fun k hk => (hB k hk).elim (J.b1 k) fun h => .inr (by omega), J.b2, fun k hk hc => (hB k hk).elim (fun h => J.dj k h hc) fun h => ?_, ?_, W1, J.wq.tn t fun h => h.elim hbq fun h => hpq h.symm, J.pn, J.nb⟩, t, fun k hk hb => (hB k hb).elim id fun h => absurd hk (by omega), rfl⟩
  · have := J.rd.bt k hc
    omega
  · exact J.tn.thenQ t fun k hk hb => hb.elim (fun h => (J.b1 k h).elim .inl fun h => absurd hk (by omega)) fun h => .inr (.inr (.inl h))
theorem JV.doc (J : JV W B C d m p q a s1 b s2 A1 n1 c1 A2 n2 c2 S wx) (H : ¬ S.2 q → Calls Try.prog f args wx fun e w' => e = .returned (.int .i64 r) ∧ Lq wx S.2 q m s' b' A1 n1 c1 A2 n2 c2 w') :
    Calls Try.prog f args wx fun e w' => e = .returned (.int .i64 r) ∧ ∃ S', JV W B C d m p q a s1 b' s' A1 n1 c1 A2 n2 c2 S' w' ∧ Tn (fun k => S.2 k ∨ k = q) wx w' ∧ (∀ k, k < wx.heap.size → S'.2 k → S.2 k) ∧ S'.1 = S.1 := by
  have hs := J.tn.size
  obtain ⟨hp, hq, hpq⟩ := J.pn
  obtain ⟨nb1, nb2, nb3, nb4⟩ := J.nb
  have hbq : ¬ S.1 q := fun h => (J.b1 q h).elim nb2 fun h => by omega
  have hcp : ¬ S.2 p := fun h => (J.b2 p h).elim nb3 fun h => by omega
  have hcq : ¬ S.2 q := fun h => (J.b2 q h).elim nb4 fun h => by omega
  refine (H hcq).mono ?_
  rintro e w' ⟨rfl, C2, R2, t, hC, W1, hn1⟩
  refine ⟨rfl, (S.1, C2), ⟨J.dd.tn t fun k hb hc => hc.elim (fun h => J.dj k hb h) fun h => hbq (h ▸ hb), R2, J.b1, fun k hk => (hC k hk).elim (J.b2 k) fun h => .inr (by omega), fun k hk hc => (hC k hc).elim (fun h => J.dj k hk h) fun h => ?_, ?_, J.wp.tn t fun h => h.elim hcp fun h => hpq h, W1, J.pn, J.nb⟩, t, fun k hk hb => (hC k hb).elim id fun h => absurd hk (by omega), rfl⟩
  · have := J.dd.bt k hk
    omega
  · exact J.tn.thenQ t fun k hk hb => hb.elim (fun h => (J.b2 k h).elim (fun h => .inr (.inl h)) fun h => absurd hk (by omega)) fun h => .inr (.inr (.inr h))
end
/-- A value of the comparing statement: known, an empty slice of new memory, a copy in new memory. -/
inductive Vk where
  | v (x : Value)
  | lit
  | cpy
/-- What is hidden: both disks' blocks, and whether the copy was made. -/
abbrev Sg9 := ((Nat → Prop) × (Nat → Prop)) × Bool
def Hv (W : World) (P : List UInt8) : Vk → Value → Sg9 → World → Prop
  | .v x, u, _, _ => u = x
  | .lit, u, S, w => (∃ g, u = .slice (some ⟨g, 0, none⟩) 0 0 ∧ W.heap.size ≤ g) ∧ (S.2 = false → Ob w W.heap.size u [] ∧ ∀ g, u.ownBlock = some g → ¬ S.1.1 g ∧ ¬ S.1.2 g)
  | .cpy, u, S, w => S.2 = true ∧ (∃ A c, u = .slice A P.length c) ∧ Ob w W.heap.size u P ∧ ∀ g, u.ownBlock = some g → ¬ S.1.1 g ∧ ¬ S.1.2 g
section
variable {W w w' : World} {P : List UInt8} {S S' : Sg9} {X : Nat → Prop}
theorem Hv.keep {x : Vk} {u : Value} (h : Hv W P x u S w) (t : Tn X w w') (hX : ∀ k, X k → S.1.1 k ∨ S.1.2 k ∨ k < W.heap.size) (h1 : ∀ k, k < w.heap.size → S'.1.1 k → S.1.1 k) (h2 : ∀ k, k < w.heap.size → S'.1.2 k → S.1.2 k) (h3 : S'.2 = S.2) : Hv W P x u S' w' := by
  have go : ∀ l, (Ob w W.heap.size u l ∧ ∀ g, u.ownBlock = some g → ¬ S.1.1 g ∧ ¬ S.1.2 g) → Ob w' W.heap.size u l ∧ ∀ g, u.ownBlock = some g → ¬ S'.1.1 g ∧ ¬ S'.1.2 g := fun l ⟨h4, h5⟩ =>
    ⟨t.ob h4 fun k hk hx => (hX k hx).elim (h5 k hk).1 fun h => h.elim (h5 k hk).2 fun h => by have := (h4.lt k hk).1; omega, fun g hg => ⟨fun h => (h5 g hg).1 (h1 g (h4.lt g hg).2 h), fun h => (h5 g hg).2 (h2 g (h4.lt g hg).2 h)⟩⟩
  cases x with
  | v x => exact h
  | lit => exact ⟨h.1, fun e => go _ (h.2 (h3.symm.trans e))⟩
  | cpy => exact ⟨h3.trans h.1, h.2.1, go _ h.2.2⟩
end
theorem want_pos {o : Oper} {l : Nat → Option Bool} {X Y : Prop} (h : o.guard = none) (hX : X) : if Region.wanted o l = true then X else Y := by
  have e : Region.wanted o l = true := by unfold Region.wanted; rw [h]
  rw [if_pos e]
  exact hX
theorem oper_app {o : Oper} {a : Act} {K : Act → World → Prop} {Q : Exit → Act → World → Prop} (w : World) (s x : Operand)
    (ho : o.op = .call { callee := .builtin .append, args := #[s, x], argTypes := #[32, 32] })
    (K0 : Nat) (v : Value) (l : List UInt8) (hs : a.eval s = v) (hown : Ob w K0 v l) (A : Option Addr) (M cap : Nat) (m : List UInt8) (hx : a.eval x = .slice A M cap) (hM : m.length = M) (K' : Nat) (hsrc : Bs w K' A cap m)
    (N : Nat) (hN : l.length + m.length = N) (hsz : l.length + m.length ≤ 140737488355328) (hbase : K0 ≤ w.heap.size)
    (h : ∀ A' cap' w', Ob w' K0 (.slice A' N cap') (l ++ m) → w.grownBy w' v.ownBlock → ((Value.slice A' N cap').ownBlock = v.ownBlock ∨ (Value.slice A' N cap').ownBlock = some w.heap.size) → K (a.put o.dst (.slice A' N cap')) w') : Oper.wp Try.prog o a w K Q := by
  subst hN hM
  obtain ⟨A', cap', w', hr, h2, h3, h4⟩ := run_app w o.type hown hsrc hsz hbase
  unfold Oper.wp execOp
  simp only [ho, resolve, invoke, builtin, Sem.run_bind, Sem.run_pure, Result.andThen_ok, List.map_toArray, List.map_cons, List.map_nil, hs, hx, hr]
  exact h A' cap' w' h2 h3 h4
theorem Hv.new {W w w' : World} {P : List UInt8} {S : Sg9} {x : Vk} {u : Value} (h : Hv W P x u S w) (hb : Below w.heap.size w w') : Hv W P x u S w' := h.keep (Tn.ofNew (P := fun _ => False) hb) (fun _ h => h.elim) (fun _ _ h => h) (fun _ _ h => h) rfl
end Go.Proofs.Ytkkaehaoahpibaa
namespace Go.Proofs.Ytkkaehaoahpibaa
open Go.RowKit Go.BigFrame

theorem info_int : (Try.prog.info? 3).map (fun i => (i.zero, i.size, i.bytes)) = some (some (.int .i64 0), 1, 8) := by kernel_rfl
theorem encI_one (x : Int) : ∀ u ∈ encI x, u.oneCell' = true := by intro u hu; simp [encI] at hu; subst hu; rfl
section
variable {w W wx : World} {B C : Nat → Prop} {d m : Nat} {a b : Ad}
set_option maxRecDepth 100000 in
set_option maxHeartbeats 6400000 in
theorem does_4 {n : Int} {p : List UInt8} {ks : List Int} {A1 A2 : Option Addr} {c1 c2 : Nat} (sr : Sr encI 1 w w.heap.size A2 c2 ks) (hks : ks.length * 8 ≤ 140737488355328) (D : DD W B d a) (R : RD W C m a) (hB : ∀ k, B k → w.heap.size ≤ k) (hC : ∀ k, C k → w.heap.size ≤ k) (hBC : ∀ k, B k → ¬ C k) (hbl : Below w.heap.size w W) :
    Calls Try.prog 7 #[dP d, rP m, .agg #[.int .i64 4, .int .i64 n, .slice A1 p.length c1, .slice A2 ks.length c2]] W fun e w' => e = .returned (.bool true) ∧ Dz w d m w' := by
  have HL := Lib.hid D.lim
  have HJ : Hid (JJ (W.alloc (.cells #[.int .i64 4, .int .i64 n, .slice A1 p.length c1, .slice A2 ks.length c2] 35)) B C d m a a _) := Lib.hid (JJ.start (D.alloc _) (R.below ((Below.refl _ _).alloc (Nat.le_refl _) _)) hBC)
  have HX : Hid (∀ wx b c, JJ (W.alloc (.cells #[.int .i64 4, .int .i64 n, .slice A1 p.length c1, .slice A2 ks.length c2] 35)) B C d m b c wx → wx.cell? ⟨W.heap.size, 3, none⟩ = some (.slice A2 ks.length c2)) := Lib.hid fun wx b c J => by
    have hn : ¬ (B W.heap.size ∨ C W.heap.size) := fun h => h.elim (fun h => Nat.lt_irrefl _ (D.bt _ h)) fun h => Nat.lt_irrefl _ (R.bt _ h)
    exact J.tn.cell (by simp [go_sem]) hn
  have HB1 : Hid (Below w.heap.size w (W.alloc (.cells #[.int .i64 4, .int .i64 n, .slice A1 p.length c1, .slice A2 ks.length c2] 35))) := Lib.hid (hbl.alloc hbl.size _)
  have HB := Lib.hid hB
  have HC := Lib.hid hC
  have HSR := Lib.hid sr
  have hkl := sr.le
  have hkm := sr.max
  have hkx := hkm
  unfold maxLen at hkm
  clear D R hB hC hBC hbl sr
  go_enter Try.func7, Try.ntmps7
  go_wp2_with fail
  go_at_call 25
  refine (HJ.out.doc (r := 0) (b' := crashD a ks) (Q := fun e => e = .returned (.tuple #[])) fun C' R' _ => rcrash_RD R' HL.out (HSR.out.below HB1.out) HB1.out.size).mono ?_
  rintro e w2 ⟨rfl, J2⟩
  have x3 := HX.out _ _ _ J2
  have hzs : W.heap.size < w2.heap.size := World.block_lt_of_cell? w2 ⟨W.heap.size, 3, none⟩ x3
  have HB2 : Hid (Below w.heap.size w w2) := Lib.hid (J2.tn.bel HB1.out (fun k hk => hk.elim (HB.out k) (HC.out k)) (Nat.le_refl _))
  have HJ2 := Lib.hid J2
  have hz := HB2.out.size
  clear J2
  go_wp2_with (at_builtin; refine wpList_appE Try.underlying33 info_int rfl (by decide) encI_len encI_one _ rfl (.tmp 94) (.tmp 96) rfl w2.heap.size (.slice (some ⟨w2.heap.size, 0, none⟩) 0 0) [] rfl (lit_so w2 w2.heap.size _ w2.heap.size rfl (Nat.le_refl _) _ 0 [] encI_len rfl rfl (by decide)) A2 ks.length c2 ks rfl rfl w.heap.size ((HSR.out.below HB2.out).alloc hz _) ks.length (by simp) (by unfold maxLen; omega) hks (by simp) ?_; intro A3 c3 w3 ho3 gr3 at3; have b3 : Below w2.heap.size w2 w3 := grown_below ((Below.refl _ _).alloc (Nat.le_refl _) _) gr3 (by simp) (by simp [Value.ownBlock]))
  obtain ⟨B', C', D2, R2, h1, h2, h3⟩ := HJ2.out.ex
  have J3 : JJ w3 B' C' d m a (crashD a ks) w3 := JJ.start (D2.below b3) (R2.below b3) h3
  have HS3 := (ho3.sr encI_len).1
  have z1 := HB1.out.size
  have HR : Hid (∀ wy, JJ w3 B' C' d m (crashD a ks) (crashD a ks) wy → Dz w d m wy) := Lib.hid fun wy J => J.fin (HB2.out.trans (b3.mono hz)) (fun k hk => (h1 k hk).elim (HB.out k) fun h => by omega) (fun k hk => (h2 k hk).elim (HC.out k) fun h => by omega)
  go_at_call 18
  refine (J3.prog (r := 0) (a' := crashD a ks) fun B2 E2 hE => crash_DD E2 HS3 (Nat.le_refl _) (by simp) fun hl ad e hb => ?_).mono ?_
  · have h5 : w2.heap.size ≤ ad.block ∧ ad.block < w3.heap.size := ho3.lt ad.block (by rw [e]; rfl)
    rcases hE _ hb with h | h
    · have := D2.bt _ h
      omega
    · omega
  rintro e w9 ⟨rfl, J9⟩
  have HF := Lib.hid (HR.out _ J9)
  clear J9 J3 h1 h2 h3 HS3 ho3 gr3 at3 b3 D2 R2
  go_wp2_with fail
  go_ret
  exact ⟨rfl, HF.out⟩
end
end Go.Proofs.Ytkkaehaoahpibaa
namespace Go.Proofs.Ytkkaehaoahpibaa
open Go.RowKit Go.BigFrame

theorem far_b {w : World} {K c : Nat} {A : Option Addr} {p : List UInt8} {B : Nat → Prop} (h : Bs w K A c p) (hB : ∀ k, B k → K ≤ k) : 0 < p.length → ∀ ad : Addr, A = some ad → ¬ B ad.block := fun hl ad e hb => by
  obtain ⟨ad', e', hk, _⟩ := h.at_ hl
  rw [e] at e'
  cases e'
  have := hB _ hb
  omega
section
variable {w W wx : World} {B C : Nat → Prop} {d m : Nat} {a b : Ad}
set_option maxRecDepth 100000 in
set_option maxHeartbeats 6400000 in
theorem does_0 {n : Int} {p : List UInt8} {ks : List Int} {A1 A2 : Option Addr} {c1 c2 : Nat} (n2 : n ≤ 9223372036854775807) (bs : Bs w w.heap.size A1 c1 p) (hp : p.length ≤ 3000) (D : DD W B d a) (R : RD W C m a) (hB : ∀ k, B k → w.heap.size ≤ k) (hC : ∀ k, C k → w.heap.size ≤ k) (hBC : ∀ k, B k → ¬ C k) (hbl : Below w.heap.size w W) :
    Calls Try.prog 7 #[dP d, rP m, .agg #[.int .i64 0, .int .i64 n, .slice A1 p.length c1, .slice A2 ks.length c2]] W fun e w' => e = .returned (.bool true) ∧ Dz w d m w' := by
  have HL := Lib.hid D.lim
  have HD1 := Lib.hid (D.alloc (.cells #[.int .i64 0, .int .i64 n, .slice A1 p.length c1, .slice A2 ks.length c2] 35))
  have HR1 := Lib.hid (R.below ((Below.refl W.heap.size W).alloc (Nat.le_refl _) (.cells #[.int .i64 0, .int .i64 n, .slice A1 p.length c1, .slice A2 ks.length c2] 35)))
  have hnB : ¬ (B W.heap.size ∨ C W.heap.size) := fun h => h.elim (fun h => Nat.lt_irrefl _ (D.bt _ h)) fun h => Nat.lt_irrefl _ (R.bt _ h)
  have HNB := Lib.hid hnB
  have HB1 : Hid (Below w.heap.size w (W.alloc (.cells #[.int .i64 0, .int .i64 n, .slice A1 p.length c1, .slice A2 ks.length c2] 35))) := Lib.hid (hbl.alloc hbl.size _)
  have x1 : (W.alloc (.cells #[.int .i64 0, .int .i64 n, .slice A1 p.length c1, .slice A2 ks.length c2] 35)).cell? ⟨W.heap.size, 1, none⟩ = some (.int .i64 n) := by simp [go_sem]
  have x2 : (W.alloc (.cells #[.int .i64 0, .int .i64 n, .slice A1 p.length c1, .slice A2 ks.length c2] 35)).cell? ⟨W.heap.size, 2, none⟩ = some (.slice A1 p.length c1) := by simp [go_sem]
  have hzs : W.heap.size < (W.alloc (.cells #[.int .i64 0, .int .i64 n, .slice A1 p.length c1, .slice A2 ks.length c2] 35)).heap.size := by simp
  have HB := Lib.hid hB
  have HC := Lib.hid hC
  have HBC := Lib.hid hBC
  have HBS := Lib.hid bs
  have hpl := bs.le
  have hpm := bs.max
  unfold maxLen at hpm
  obtain ⟨r, a', hr⟩ : ∃ r a', appD a n p = (r, a') := ⟨_, _, rfl⟩
  have HRR := Lib.hid hr
  clear D R hB hC hBC hbl bs hr hnB
  go_enter Try.func7, Try.ntmps7
  go_upto_region 3 with fail
  generalize W.alloc (.cells #[.int .i64 0, .int .i64 n, .slice A1 p.length c1, .slice A2 ks.length c2] 35) = W1 at HD1 HR1 HB1 x1 x2 hzs ⊢
  have hz1 := HB1.out.size
  go_wp2_with (at_builtin; refine wpList_app _ rfl (.tmp 14) (.tmp 16) rfl W1.heap.size (.slice (some ⟨W1.heap.size, 0, none⟩) 0 0) [] rfl (lit_ob W1 W1.heap.size W1.heap.size rfl (Nat.le_refl _) #[] 0 [] rfl rfl (by decide)) A1 p.length c1 p rfl rfl w.heap.size ((HBS.out.below HB1.out).alloc hz1 _) p.length (by simp) (by simp; omega) (by simp) ?_; intro A3 c3 w2 ho3 gr3 at3; have b3 : Below W1.heap.size W1 w2 := grown_below ((Below.refl _ _).alloc (Nat.le_refl _) _) gr3 (by simp) (by simp [Value.ownBlock]); have y1 := kept b3 x1; have y2 := kept b3 x2; have hz3 : W.heap.size < w2.heap.size := Nat.lt_of_lt_of_le hzs b3.size)
  have J2 : JJ w2 B C d m a a w2 := JJ.start (HD1.out.below b3) (HR1.out.below b3) HBC.out
  have HO3 := Lib.hid ho3
  have HB3 := Lib.hid b3
  go_at_call 19
  refine (J2.prog (r := r) (a' := a') fun B' D' hE => app_DD D' n2 HO3.out.bs.1 rfl (fun hl ad e hb => ?_) HRR.out).mono ?_
  · have h5 := own_block HO3.out hl e rfl
    have h6 := (HO3.out.lt _ h5.2).2
    rcases hE _ hb with h | h
    · have := HD1.out.bt _ h
      omega
    · omega
  rintro e w3 ⟨rfl, J3⟩
  have hfar : ∀ k, (Value.slice A3 p.length c3).ownBlock = some k → ¬ (B k ∨ C k) := fun k hk h => by
    have h5 := (HO3.out.lt k hk).1
    rcases h with h | h
    · have := HD1.out.bt _ h
      omega
    · have := HR1.out.bt _ h
      omega
  have HO4 := Lib.hid (J3.tn.ob ho3 hfar)
  have z1 := J3.tn.cell y1 HNB.out
  have z2 := J3.tn.cell y2 HNB.out
  have hz4 : W.heap.size < w3.heap.size := Nat.lt_of_lt_of_le hz3 J3.tn.size
  have HJ3 := Lib.hid J3
  have HF := Lib.hid hfar
  have hcl := ho3.bs.1.le
  have hcm := ho3.bs.1.max
  unfold maxLen at hcm
  clear J2 J3 hfar ho3 b3 gr3 at3 y1 y2 x1 x2 hz3
  go_wp2_with fail
  go_loopw [25] (fun iv wr => ∃ i : Nat, iv = .int .i64 (i : Int) ∧ i ≤ p.length ∧ Hid (Tn (fun k => (Value.slice A3 p.length c3).ownBlock = some k) w3 wr) ∧ Hid (∀ g, A3 = some ⟨g, 0, none⟩ → (∀ j (hj : j < p.length), i ≤ j → wr.cell? ⟨g, j, none⟩ = some (bv p[j])) ∧ ∀ j, j < p.length → wr.frozen? ⟨g, j, none⟩ = false)) (fun iv _ => p.length - (intOf iv).toNat)
  case atStart => exact ⟨0, rfl, Nat.zero_le _, Lib.hid (Tn.refl _ _), Lib.hid fun g hg => by
    subst hg
    exact ⟨fun j hj _ => (HO4.out.slot hj).1, fun j hj => (HO4.out.slot hj).2.1⟩⟩
  case round =>
    obtain ⟨i, rfl, hi, HT, HCELL⟩ := hrel
    rename World => wr
    by_cases hlt : i < p.length
    · obtain ⟨g, hg, _⟩ := HO4.out.addr (by omega)
      subst hg
      have i1 : (i : Int) < p.length := by omega
      have v1 : wr.cell? ⟨g, i, none⟩ = some (.int .u8 (p[i].toNat : Int)) := (HCELL.out g rfl).1 i hlt (Nat.le_refl _)
      have v2 := (HCELL.out g rfl).2 i hlt
      have HN : ∀ v, Hid (Tn (fun k => (Value.slice (some ⟨g, 0, none⟩) p.length c3).ownBlock = some k) w3 (wr.setCell ⟨g, i, none⟩ v)) := fun v => Lib.hid (HT.out.thenQ (Tn.setCell wr g i v) fun k _ e => by have h9 : k = g := e; subst h9; rfl)
      have HM : ∀ v, Hid (∀ g', some (⟨g, 0, none⟩ : Addr) = some ⟨g', 0, none⟩ → (∀ j (hj : j < p.length), i + 1 ≤ j → (wr.setCell ⟨g, i, none⟩ v).cell? ⟨g', j, none⟩ = some (bv p[j])) ∧ ∀ j, j < p.length → (wr.setCell ⟨g, i, none⟩ v).frozen? ⟨g', j, none⟩ = false) := fun v => Lib.hid fun g' hg' => by
        cases hg'
        refine ⟨fun j hj hij => ?_, fun j hj => ?_⟩
        · have h1 := (HCELL.out g rfl).1 j hj (by omega)
          simp [go_sem, h1]
        · have h1 := (HCELL.out g rfl).2 j hj
          simp [go_sem, h1]
      have HNh := Lib.hid HN
      have HMh := Lib.hid HM
      clear HN HM HCELL HT
      generalize p[i] = x at v1
      go_wp2_with fail
      go_roundw
      case rel => exact ⟨i + 1, by go_num, by omega, HNh.out _, HMh.out _⟩
      case measure => simp [intOf]; omega
    · have hil : ¬ (i : Int) < p.length := by omega
      have t4 := HT.out
      obtain ⟨B', C', D3, R3, h1, h2, h3⟩ := HJ3.out.ex
      have hoB : ∀ k, (Value.slice A3 p.length c3).ownBlock = some k → ¬ B' k ∧ ¬ C' k := fun k hk => by
        have h5 := (HO3.out.lt k hk).2
        refine ⟨fun h => (h1 k h).elim (fun h => HF.out k hk (.inl h)) fun h => by omega, fun h => (h2 k h).elim (fun h => HF.out k hk (.inr h)) fun h => by omega⟩
      have J4 : JJ wr B' C' d m a' a wr := JJ.start (D3.tn t4 fun k hk hb => (hoB k hb).1 hk) (R3.tn t4 fun k hk hb => (hoB k hb).2 hk) h3
      have b2 : Below w.heap.size w w2 := HB1.out.trans (HB3.out.mono hz1)
      have b3 : Below w.heap.size w w3 := HJ3.out.tn.bel b2 (fun k hk => hk.elim (HB.out k) (HC.out k)) (Nat.le_refl _)
      have b4 : Below w.heap.size w wr := t4.bel b3 (fun k hk => by have := (HO3.out.lt k hk).1; omega) (Nat.le_refl _)
      have hs2 := b2.size
      have HB4 : Hid (∀ k, B' k → w.heap.size ≤ k) := Lib.hid fun k hk => (h1 k hk).elim (HB.out k) fun h => by omega
      have HC4 : Hid (∀ k, C' k → w.heap.size ≤ k) := Lib.hid fun k hk => (h2 k hk).elim (HC.out k) fun h => by omega
      have q1 := t4.cell z1 fun h => by have := (HO3.out.lt _ h).1; simp only at this; omega
      have q2 := t4.cell z2 fun h => by have := (HO3.out.lt _ h).1; simp only at this; omega
      have HJ4 := Lib.hid J4
      have HB5 := Lib.hid b4
      have hs4 := b4.size
      clear HT HCELL t4 D3 R3 h1 h2 h3 hoB J4 b2 b3 b4 z1 z2
      go_wp2_with fail
      go_at_call 20
      refine (HJ4.out.doc (r := r) (b' := a') (Q := fun e => e = .returned (.int .i64 r)) fun C2 R2 hE => (rappend_RD R2 HL.out (HBS.out.below HB5.out) hs4 (far_b (HBS.out.below HB5.out) fun k hk => (hE k hk).elim (HC4.out k) fun h => by omega) HRR.out).mono fun e w' h => ⟨h.1, rfl, h.2⟩).mono ?_
      rintro e w9 ⟨rfl, J9⟩
      have HF9 := Lib.hid (J9.fin HB5.out HB4.out HC4.out)
      clear J9
      go_wp2_with fail
      go_ret
      exact ⟨rfl, HF9.out⟩
end
end Go.Proofs.Ytkkaehaoahpibaa
namespace Go.Proofs.Ytkkaehaoahpibaa
open Go.RowKit Go.BigFrame

theorem new_bad (x : Int) (hx : x < 0 ∨ 67108864 < x) (w : World) : Calls Try.prog 5 #[.int .i64 x] w fun e w' => e = .returned (.tuple #[.pointer none, .int .i64 1]) ∧ w' = w := by
  go_enter Try.func5, Try.ntmps5
  by_cases h : x < 0
  · clear hx
    go_wp2
    exact bodyPost_ret (v := .tuple #[.pointer none, .int .i64 1]) (by simp [results, Try.results5, go_sem]) rfl ⟨rfl, rfl⟩
  · have h2 := hx.resolve_left h
    clear hx
    go_wp2
    exact bodyPost_ret (v := .tuple #[.pointer none, .int .i64 1]) (by simp [results, Try.results5, go_sem]) rfl ⟨rfl, rfl⟩
section
variable {w W W' : World} {d m : Nat}
theorem Dz.below (Z : Dz w d m W) (hb : Below W.heap.size W W') : Dz w d m W' := by
  obtain ⟨a, B, C, D, R, h1, h2, h3, b⟩ := Z
  exact ⟨a, B, C, D.below hb, R.below hb, h1, h2, h3, b.trans (hb.mono b.size)⟩
theorem Dz.bel (Z : Dz w d m W) : Below w.heap.size w W := by
  obtain ⟨a, B, C, D, R, h1, h2, h3, b⟩ := Z
  exact b
theorem Dz.is (Z : Dz w d m W) : Calls Try.prog 11 #[dP d, rP m] W fun e w' => e = .returned (.bool true) ∧ Dz w d m w' := by
  obtain ⟨a, B, C, D, R, h1, h2, h3, b⟩ := Z
  exact (is_any D R).mono fun e w' h => ⟨h.1, Dz.below ⟨a, B, C, D, R, h1, h2, h3, b⟩ h.2⟩
theorem Dz.does {o : Op7} {A1 A2 : Option Addr} {c1 c2 : Nat} (Z : Dz w d m W) (n1 : -9223372036854775808 ≤ o.n) (n2 : o.n ≤ 9223372036854775807) (bs : Bs w w.heap.size A1 c1 o.p) (hp : o.p.length ≤ 3000) (sr : Sr encI 1 w w.heap.size A2 c2 o.ks) (hks : o.ks.length * 8 ≤ 140737488355328) :
    Calls Try.prog 7 #[dP d, rP m, .agg #[.int .i64 o.k, .int .i64 o.n, .slice A1 o.p.length c1, .slice A2 o.ks.length c2]] W fun e w' => e = .returned (.bool true) ∧ Dz w d m w' := by
  obtain ⟨a, B, C, D, R, h1, h2, h3, b⟩ := Z
  obtain ⟨k, n, p, ks⟩ := o
  by_cases k0 : k = 0
  · subst k0
    exact does_0 n2 bs hp D R h1 h2 h3 b
  by_cases k1 : k = 1
  · exact does_12 (.inl k1) D R h1 h2 h3 b n1 n2
  by_cases k2 : k = 2
  · exact does_12 (.inr k2) D R h1 h2 h3 b n1 n2
  by_cases k3 : k = 3
  · subst k3
    exact does_3 n2 D R h1 h2 h3 b
  by_cases k4 : k = 4
  · subst k4
    exact does_4 sr hks D R h1 h2 h3 b
  exact does_none (by simpa using k0) (by simpa using k1) (by simpa using k2) (by simpa using k3) (by simpa using k4) D R h1 h2 h3 b
end
end Go.Proofs.Ytkkaehaoahpibaa
