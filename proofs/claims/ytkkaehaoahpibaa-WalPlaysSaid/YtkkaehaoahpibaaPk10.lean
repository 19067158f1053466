/- frame.Crc: the check sum of a slice's bytes. -/
import Derived.Test.YtkkaehaoahpibaaPk0
import Derived.Test.YtkkaehaoahpibaaPk7
import Derived.Deep.Strs
import Derived.Lib.SmallJoins
import Derived.Test.YtkkaehaoahpibaaPk9
import Derived.Test.YtkkaehaoahpibaaPk3
import Derived.WalkSpells
import Derived.LoopTactic
import Derived.Laws.BitsAllLaws
import Derived.Test.YtkkaehaoahpibaaProg
namespace Go.Proofs.Ytkkaehaoahpibaa
open Go.ChangeShapes Go.WideShapes Go.ChangeAt Go.RowKit Go.Deep Go.Joins

structure Op7 where
  k : Int
  n : Int
  p : List UInt8
  ks : List Int
instance : Inhabited Op7 := ⟨⟨0, 0, [], []⟩⟩
/-- The slice at A with capacity cap reads as the steps os, in memory below block K. -/
structure Os7 (w : World) (K : Nat) (A : Option Addr) (cap : Nat) (os : List Op7) : Prop where
  le : os.length ≤ cap
  max : cap ≤ maxLen
  nil : A = none → cap = 0
  at_ : 0 < os.length → ∃ ad : Addr, A = some ad ∧ ad.block < K ∧ ∀ (i : Nat) (o : Op7), os[i]? = some o → w.cell? (ad.add (i * 4)) = some (.int .i64 o.k) ∧ w.cell? (ad.add (i * 4 + 1)) = some (.int .i64 o.n) ∧ (-9223372036854775808 ≤ o.n ∧ o.n ≤ 9223372036854775807) ∧
    (∃ A' c', w.cell? (ad.add (i * 4 + 2)) = some (.slice A' o.p.length c') ∧ Bs w K A' c' o.p) ∧ ∃ A' c', w.cell? (ad.add (i * 4 + 3)) = some (.slice A' o.ks.length c') ∧ Sr encI 1 w K A' c' o.ks

section
variable {w w' : World} {K K' cap : Nat} {A : Option Addr} {os : List Op7}
theorem Os7.keep (h : Os7 w K A cap os) (hk : ∀ p : Addr, p.block < K → w'.cell? p = w.cell? p) : Os7 w' K A cap os :=
  ⟨h.le, h.max, h.nil, fun hn => by
    obtain ⟨ad, e, hb, hc⟩ := h.at_ hn
    refine ⟨ad, e, hb, fun i o hi => ?_⟩
    obtain ⟨h1, h2, h3, ⟨A', c', h4, h5⟩, A2, c2, h6, h7⟩ := hc i o hi
    have hk' := fun j => hk (ad.add j) (by rw [block_of_add]; exact hb)
    exact ⟨(hk' _).trans h1, (hk' _).trans h2, h3, ⟨A', c', (hk' _).trans h4, h5.keep hk⟩, A2, c2, (hk' _).trans h6, h7.keep hk⟩⟩
theorem Os7.below (h : Os7 w K A cap os) (hb : Below K w w') : Os7 w' K A cap os := h.keep fun _ hp => hb.cell hp
/-- The step's cells as the walk spells them. -/
structure At7 (w : World) (K : Nat) (ad : Addr) (o : Op7) (A1 : Option Addr) (c1 : Nat) (A2 : Option Addr) (c2 : Nat) : Prop where
  lt : ad.block < K
  x0 : w.cell? ad = some (.int .i64 o.k)
  x1 : w.cell? ⟨ad.block, ad.off + 1, none⟩ = some (.int .i64 o.n)
  x2 : w.cell? ⟨ad.block, ad.off + 2, none⟩ = some (.slice A1 o.p.length c1)
  x3 : w.cell? ⟨ad.block, ad.off + 3, none⟩ = some (.slice A2 o.ks.length c2)
  n1 : -9223372036854775808 ≤ o.n
  n2 : o.n ≤ 9223372036854775807
  bs : Bs w K A1 c1 o.p
  sr : Sr encI 1 w K A2 c2 o.ks
theorem Os7.get (h : Os7 w K A cap os) {i : Nat} {o : Op7} (hi : os[i]? = some o) : ∃ ad A1 c1 A2 c2, A = some ad ∧ At7 w K (ad.add (i * 4)) o A1 c1 A2 c2 := by
  have hil := (List.getElem?_eq_some_iff.1 hi).1
  obtain ⟨ad, e, hb, hc⟩ := h.at_ (by omega)
  obtain ⟨h1, h2, h3, ⟨A1, c1, h4, h5⟩, A2, c2, h6, h7⟩ := hc i o hi
  refine ⟨ad, A1, c1, A2, c2, e, ⟨by rw [block_of_add]; exact hb, h1, ?_, ?_, ?_, h3.1, h3.2, h5, h7⟩⟩
  · rw [← el_add_pos _ _ (by decide), el_add_of_add]; exact h2
  · rw [← el_add_pos _ _ (by decide), el_add_of_add]; exact h4
  · rw [← el_add_pos _ _ (by decide), el_add_of_add]; exact h6
end

theorem cells_op7 : Try.prog.cellsOf 35 = 4 := by kernel_rfl
theorem cells_int : Try.prog.cellsOf 3 = 1 := by kernel_rfl
theorem cells_isl : Try.prog.cellsOf 33 = 1 := by kernel_rfl
theorem cells_bsl : Try.prog.cellsOf 32 = 1 := by kernel_rfl
theorem open_isr0 {H : Type} {enc : TypeId × Value → H} {W : World} {base fuel : Nat} {sp : Nat → Bool} {held : Bool} {cs : List Value} {x : DataW H × List MemPlace} (hf : DataW.trod enc Try.prog W base sp held fuel 33 cs = some x) :
    ∃ A cap l, cs = [.slice A l.length cap] ∧ Sr encI 1 W W.heap.size A cap l := by
  rcases open_ints Try.underlying33 Try.underlying3 cells_int hf with ⟨hcs, hx⟩ | ⟨a, len, cap, zs, hcs, _, hl, hm, hz, hx, hcell, hwz⟩
  · subst hcs
    exact ⟨none, 0, [], rfl, Sr.none_ _ _⟩
  · subst hcs
    have hzl : len ≤ zs.length := by rw [hz]; split <;> omega
    have hll : (zs.take len).length = len := by simp; omega
    refine ⟨some a, cap, zs.take len, by rw [hll], ⟨by rw [hll]; exact hl, hm, (fun h => by cases h), fun hn => ⟨a, rfl, ?_, fun i x hk j u hu => ?_⟩⟩⟩
    · rw [hll] at hn
      have := World.block_lt_of_cell? W _ (hcell 0 (by omega))
      rwa [el_block_of_add] at this
    · rw [List.getElem?_take] at hk
      split at hk
      · have hkz := (List.getElem?_eq_some_iff.1 hk).1
        obtain rfl : j = 0 := by
          have := (List.getElem?_eq_some_iff.1 hu).1
          rw [encI_len] at this; omega
        have : zs.getD i 0 = x := by simp [List.getD, hk]
        rw [Nat.mul_one, Nat.add_zero, hcell i hkz, this]
        exact hu
      · cases hk
set_option maxRecDepth 100000 in
theorem open_isr {H : Type} {enc : TypeId × Value → H} {W : World} {base : Nat} {v : Value} {d : DataW H} {p : List MemPlace}
    (hv : Value.okWide Try.prog W .any base 33 v) (h : DataW.Trod enc Try.prog W 0 (fun _ => true) true 33 v d p) :
    ∃ A cap l, v = .slice A l.length cap ∧ Sr encI 1 W W.heap.size A cap l := by
  obtain ⟨a1, n, cap, rfl⟩ := okWide_slice Try.underlying33 hv
  obtain ⟨fuel, hf⟩ := h
  obtain ⟨A, cap', l, hcs, hb⟩ := open_isr0 hf
  simp [Value.cells] at hcs
  obtain ⟨rfl, rfl, rfl⟩ := hcs
  exact ⟨_, _, l, rfl, hb⟩
/-- One step's cells, opened. -/
theorem open_op7 {H : Type} {enc : TypeId × Value → H} {W : World} {base fuel : Nat} {sp : Nat → Bool} {held : Bool} {u0 u1 u2 u3 : Value} {x : DataW H × List MemPlace} (ht : DataW.trod enc Try.prog W base sp held fuel 35 [u0, u1, u2, u3] = some x) :
    ∃ (o : Op7) (A1 : Option Addr) (c1 : Nat) (A2 : Option Addr) (c2 : Nat), u0 = .int .i64 o.k ∧ u1 = .int .i64 o.n ∧ (-9223372036854775808 ≤ o.n ∧ o.n ≤ 9223372036854775807) ∧ u2 = .slice A1 o.p.length c1 ∧ Bs W W.heap.size A1 c1 o.p ∧ u3 = .slice A2 o.ks.length c2 ∧ Sr encI 1 W W.heap.size A2 c2 o.ks := by
  obtain ⟨y0, y1, y2, y3, n, _, _, g0, g1, g2, g3⟩ := trod_struct4 Try.underlying35 ht
  simp only [cells_int, cells_isl, cells_bsl, List.drop_zero, List.take_succ_cons, List.take_zero, List.drop_succ_cons] at g0 g1 g2 g3
  obtain ⟨a, e0, _, _⟩ := DataW.trod_int Try.underlying3 g0
  obtain ⟨c, e1, _, iw⟩ := DataW.trod_int Try.underlying3 g1
  obtain ⟨A1, c1, l1, e2, hb, _⟩ := open_bs0 g2
  obtain ⟨A2, c2, l2, e3, hs⟩ := open_isr0 g3
  simp at e0 e1 e2 e3
  subst e0 e1 e2 e3
  have ir : -9223372036854775808 ≤ c ∧ c ≤ 9223372036854775807 := by simpa [Lit.wf, IntKind.min, IntKind.max, IntKind.signed, IntKind.bits] using iw
  exact ⟨⟨a, c, l1, l2⟩, A1, c1, A2, c2, rfl, rfl, ir, rfl, hb, rfl, hs⟩
set_option maxRecDepth 100000 in
theorem open_ops7 {H : Type} {enc : TypeId × Value → H} {W : World} {base : Nat} {v : Value} {d : DataW H} {p : List MemPlace}
    (hv : Value.okWide Try.prog W .any base 22 v) (h : DataW.Trod enc Try.prog W 0 (fun _ => true) true 22 v d p) :
    ∃ A cap os, v = .slice A os.length cap ∧ Os7 W W.heap.size A cap os := by
  obtain ⟨a1, len, cap, rfl⟩ := okWide_slice Try.underlying22 hv
  obtain ⟨fuel, hf⟩ := h
  rcases open_slice Try.underlying22 hf with ⟨hcs, hx⟩ | ⟨a, len', cap', m, n, D, Pl, hcs, _, hl, hmx, hmm, hx, hi⟩
  · simp [Value.cells] at hcs
    obtain ⟨rfl, rfl, rfl⟩ := hcs
    exact ⟨none, 0, [], rfl, ⟨Nat.le_refl _, Nat.zero_le _, fun _ => rfl, fun h => absurd h (by simp)⟩⟩
  · simp [Value.cells] at hcs
    obtain ⟨rfl, rfl, rfl⟩ := hcs
    have hlm : len ≤ m := by rw [hmm]; split <;> omega
    have each : ∀ i, i < len → ∃ x : Op7, W.cell? (a.add (i * 4)) = some (.int .i64 x.k) ∧ W.cell? (a.add (i * 4 + 1)) = some (.int .i64 x.n) ∧ (-9223372036854775808 ≤ x.n ∧ x.n ≤ 9223372036854775807) ∧
        (∃ A' c', W.cell? (a.add (i * 4 + 2)) = some (.slice A' x.p.length c') ∧ Bs W W.heap.size A' c' x.p) ∧ ∃ A' c', W.cell? (a.add (i * 4 + 3)) = some (.slice A' x.ks.length c') ∧ Sr encI 1 W W.heap.size A' c' x.ks := fun i hil => by
      obtain ⟨cs', hc, ht⟩ := hi i (by omega)
      rw [cells_op7] at hc
      obtain ⟨_, hcl, hat⟩ := World.cells?_some hc
      match cs', hcl with
      | [u0, u1, u2, u3], _ =>
        obtain ⟨x, A1, c1, A2, c2, rfl, rfl, hn, rfl, hb, rfl, hs⟩ := open_op7 ht
        have h0 := hat 0 (by omega)
        have h1 := hat 1 (by omega)
        have h2 := hat 2 (by omega)
        have h3 := hat 3 (by omega)
        rw [Go.Deep.add_add] at h0 h1 h2 h3
        rw [Nat.add_zero] at h0
        exact ⟨x, h0, h1, hn, ⟨A1, c1, h2, hb⟩, A2, c2, h3, hs⟩
    obtain ⟨f, hf'⟩ := choose_lt each
    have hll : ((List.range len).map f).length = len := by simp
    refine ⟨some a, cap, (List.range len).map f, by rw [hll], ⟨by rw [hll]; exact hl, hmx, (fun h => by cases h), fun hn => ⟨a, rfl, ?_, fun i m hk => ?_⟩⟩⟩
    · rw [hll] at hn
      have := World.block_lt_of_cell? W _ (hf' 0 hn).1
      rwa [block_of_add] at this
    · simp only [List.getElem?_map, Option.map_eq_some_iff] at hk
      obtain ⟨j, hj, he⟩ := hk
      obtain ⟨hj1, hj2⟩ := List.getElem?_eq_some_iff.1 hj
      simp at hj1 hj2
      subst hj2
      have := hf' i hj1
      rw [he] at this
      exact this
end Go.Proofs.Ytkkaehaoahpibaa
namespace Go.Proofs.Ytkkaehaoahpibaa
open Go.RowKit Go.BigFrame

/-- Both disks are one, in memory of the law's own. -/
def Dz (w : World) (d m : Nat) (w' : World) : Prop := ∃ a B C, DD w' B d a ∧ RD w' C m a ∧ (∀ k, B k → w.heap.size ≤ k) ∧ (∀ k, C k → w.heap.size ≤ k) ∧ (∀ k, B k → ¬ C k) ∧ Below w.heap.size w w'
section
variable {w W wx : World} {B C : Nat → Prop} {d m : Nat} {a : Ad}
theorem JJ.fin (J : JJ W B C d m a a wx) (hbl : Below w.heap.size w W) (hB : ∀ k, B k → w.heap.size ≤ k) (hC : ∀ k, C k → w.heap.size ≤ k) : Dz w d m wx := by
  obtain ⟨B', C', D, R, h1, h2, h3⟩ := J.ex
  have hs := hbl.size
  exact ⟨a, B', C', D, R, fun k hk => (h1 k hk).elim (hB k) fun h => by omega, fun k hk => (h2 k hk).elim (hC k) fun h => by omega, h3, J.tn.bel hbl (fun k hk => hk.elim (hB k) (hC k)) (Nat.le_refl _)⟩
set_option maxRecDepth 100000 in
set_option maxHeartbeats 6400000 in
theorem does_12 {k n : Int} {p : List UInt8} {ks : List Int} {A1 A2 : Option Addr} {c1 c2 : Nat} (hk : k = 1 ∨ k = 2) (D : DD W B d a) (R : RD W C m a) (hB : ∀ k, B k → w.heap.size ≤ k) (hC : ∀ k, C k → w.heap.size ≤ k) (hBC : ∀ k, B k → ¬ C k) (hbl : Below w.heap.size w W) (n1 : -9223372036854775808 ≤ n) (n2 : n ≤ 9223372036854775807) :
    Calls Try.prog 7 #[dP d, rP m, .agg #[.int .i64 k, .int .i64 n, .slice A1 p.length c1, .slice A2 ks.length c2]] W fun e w' => e = .returned (.bool true) ∧ Dz w d m w' := by
  have HL := Lib.hid D.lim
  have HJ : Hid (JJ (W.alloc (.cells #[.int .i64 k, .int .i64 n, .slice A1 p.length c1, .slice A2 ks.length c2] 35)) B C d m a a _) := Lib.hid (JJ.start (D.alloc _) (R.below ((Below.refl _ _).alloc (Nat.le_refl _) _)) hBC)
  have HX : Hid (∀ wx b c, JJ (W.alloc (.cells #[.int .i64 k, .int .i64 n, .slice A1 p.length c1, .slice A2 ks.length c2] 35)) B C d m b c wx → wx.cell? ⟨W.heap.size, 0, none⟩ = some (.int .i64 k) ∧ wx.cell? ⟨W.heap.size, 1, none⟩ = some (.int .i64 n) ∧ wx.cell? ⟨W.heap.size, 2, none⟩ = some (.slice A1 p.length c1) ∧ wx.cell? ⟨W.heap.size, 3, none⟩ = some (.slice A2 ks.length c2)) := Lib.hid fun wx b c J => by
    have hn : ¬ (B W.heap.size ∨ C W.heap.size) := fun h => h.elim (fun h => Nat.lt_irrefl _ (D.bt _ h)) fun h => Nat.lt_irrefl _ (R.bt _ h)
    exact ⟨J.tn.cell (by simp [go_sem]) hn, J.tn.cell (by simp [go_sem]) hn, J.tn.cell (by simp [go_sem]) hn, J.tn.cell (by simp [go_sem]) hn⟩
  have HFin : Hid (∀ wx a', JJ (W.alloc (.cells #[.int .i64 k, .int .i64 n, .slice A1 p.length c1, .slice A2 ks.length c2] 35)) B C d m a' a' wx → Dz w d m wx) := Lib.hid fun wx a' J => J.fin (hbl.alloc hbl.size _) hB hC
  clear D R hB hC hBC
  rcases hk with rfl | rfl
  · obtain ⟨r, a', hr⟩ : ∃ r a', opD syncA a n = (r, a') := ⟨_, _, rfl⟩
    have HRR := Lib.hid hr
    clear hr
    go_enter Try.func7, Try.ntmps7
    go_wp2_with fail
    apply region_G (fun b c wx => JJ (W.alloc (.cells #[.int .i64 1, .int .i64 n, .slice A1 p.length c1, .slice A2 ks.length c2] 35)) B C d m (cond b a' a) (cond c a' a) wx) 3 7 [dP d, .pointer (some ⟨W.heap.size, 1, none⟩), .int .i64 n, .int .i64 r, rP m, .pointer (some ⟨W.heap.size, 1, none⟩), .int .i64 n, .int .i64 r, .bool true, .bool true]
    case hm => kernel_rfl
    case hf => kernel_rfl
    case hp => kernel_rfl
    case hQ => exact (by intro c x y w e h; exact And.intro (e.symm.trans (And.left h)) (And.right h))
    case hF => intro vs; simp only [putAll, Act.put, List.setIfInBounds_toArray, List.set_cons_zero, List.set_cons_succ, Nat.reduceAdd]; rfl
    case h0 => exact HJ.out.below ⟨rfl, rfl, rfl, Nat.le_refl _, fun _ _ => rfl⟩
    case hstep =>
      repeat' (first | exact AllOps.nil | apply AllOps.cons)
      · intro vs b c wx hG hd hb hc K hK
        replace hK : ∀ w', (fun b c wx => JJ (W.alloc (.cells #[.int .i64 1, .int .i64 n, .slice A1 p.length c1, .slice A2 ks.length c2] 35)) B C d m (cond b a' a) (cond c a' a) wx) b c w' → K _ w' := hK
        simp only [Act.put, List.setIfInBounds_toArray, List.set_cons_zero, List.set_cons_succ] at hK ⊢
        have HK := Lib.hid hK
        have HG := Lib.hid hG
        clear hK hd hb hc
        clear hG
        go_simp
        exact HK.out _ HG.out
      · intro vs b c wx hG hd hb hc K hK
        replace hK : ∀ w', (fun b c wx => JJ (W.alloc (.cells #[.int .i64 1, .int .i64 n, .slice A1 p.length c1, .slice A2 ks.length c2] 35)) B C d m (cond b a' a) (cond c a' a) wx) b c w' → K _ w' := hK
        simp only [Act.put, List.setIfInBounds_toArray, List.set_cons_zero, List.set_cons_succ] at hK ⊢
        have HK := Lib.hid hK
        have HG := Lib.hid hG
        clear hK hd hb hc
        clear hG
        go_simp
        exact HK.out _ HG.out
      · intro vs b c wx hG hd hb hc K hK
        have e1 : vs 1 = .pointer (some ⟨W.heap.size, 1, none⟩) := hd.get (j := 1) (by simp [depsOf, Region.binds])
        replace hK : ∀ w', (fun b c wx => JJ (W.alloc (.cells #[.int .i64 1, .int .i64 n, .slice A1 p.length c1, .slice A2 ks.length c2] 35)) B C d m (cond b a' a) (cond c a' a) wx) b c w' → K _ w' := hK
        simp only [Act.put, List.setIfInBounds_toArray, List.set_cons_zero, List.set_cons_succ, e1] at hK ⊢
        have HK := Lib.hid hK
        have HG := Lib.hid hG
        clear hK hd hb hc e1
        obtain ⟨x0, x1, x2, x3⟩ := HX.out _ _ _ hG
        clear hG
        go_simp
        exact HK.out _ HG.out
      · intro vs b c wx hG hd hb hc K hK
        have e0 : vs 0 = dP d := hd.get (j := 0) (by simp [depsOf, Region.binds])
        have e2 : vs 2 = .int .i64 n := hd.get (j := 2) (by simp [depsOf, Region.binds])
        obtain rfl : b = false := hb rfl
        replace hK : ∀ w', (fun b c wx => JJ (W.alloc (.cells #[.int .i64 1, .int .i64 n, .slice A1 p.length c1, .slice A2 ks.length c2] 35)) B C d m (cond b a' a) (cond c a' a) wx) true c w' → K _ w' := hK
        simp only [Act.put, List.setIfInBounds_toArray, List.set_cons_zero, List.set_cons_succ, e0, e2] at hK ⊢
        have HK := Lib.hid hK
        have HG := Lib.hid hG
        clear hK hd hb hc e0 e2
        clear hG
        go_simp
        go_at_call 21
        refine ((show JJ _ B C d m a (cond c a' a) wx from HG.out).prog (r := r) (a' := a') fun B' D' _ => sync_DD D' n1 n2 HRR.out).mono ?_
        rintro e w9 ⟨rfl, J9⟩
        exact HK.out _ J9
      · intro vs b c wx hG hd hb hc K hK
        replace hK : ∀ w', (fun b c wx => JJ (W.alloc (.cells #[.int .i64 1, .int .i64 n, .slice A1 p.length c1, .slice A2 ks.length c2] 35)) B C d m (cond b a' a) (cond c a' a) wx) b c w' → K _ w' := hK
        simp only [Act.put, List.setIfInBounds_toArray, List.set_cons_zero, List.set_cons_succ] at hK ⊢
        have HK := Lib.hid hK
        have HG := Lib.hid hG
        clear hK hd hb hc
        clear hG
        go_simp
        exact HK.out _ HG.out
      · intro vs b c wx hG hd hb hc K hK
        replace hK : ∀ w', (fun b c wx => JJ (W.alloc (.cells #[.int .i64 1, .int .i64 n, .slice A1 p.length c1, .slice A2 ks.length c2] 35)) B C d m (cond b a' a) (cond c a' a) wx) b c w' → K _ w' := hK
        simp only [Act.put, List.setIfInBounds_toArray, List.set_cons_zero, List.set_cons_succ] at hK ⊢
        have HK := Lib.hid hK
        have HG := Lib.hid hG
        clear hK hd hb hc
        clear hG
        go_simp
        exact HK.out _ HG.out
      · intro vs b c wx hG hd hb hc K hK
        have e5 : vs 5 = .pointer (some ⟨W.heap.size, 1, none⟩) := hd.get (j := 5) (by simp [depsOf, Region.binds])
        replace hK : ∀ w', (fun b c wx => JJ (W.alloc (.cells #[.int .i64 1, .int .i64 n, .slice A1 p.length c1, .slice A2 ks.length c2] 35)) B C d m (cond b a' a) (cond c a' a) wx) b c w' → K _ w' := hK
        simp only [Act.put, List.setIfInBounds_toArray, List.set_cons_zero, List.set_cons_succ, e5] at hK ⊢
        have HK := Lib.hid hK
        have HG := Lib.hid hG
        clear hK hd hb hc e5
        obtain ⟨x0, x1, x2, x3⟩ := HX.out _ _ _ hG
        clear hG
        go_simp
        exact HK.out _ HG.out
      · intro vs b c wx hG hd hb hc K hK
        have e4 : vs 4 = rP m := hd.get (j := 4) (by simp [depsOf, Region.binds])
        have e6 : vs 6 = .int .i64 n := hd.get (j := 6) (by simp [depsOf, Region.binds])
        obtain rfl : c = false := hc rfl
        replace hK : ∀ w', (fun b c wx => JJ (W.alloc (.cells #[.int .i64 1, .int .i64 n, .slice A1 p.length c1, .slice A2 ks.length c2] 35)) B C d m (cond b a' a) (cond c a' a) wx) b true w' → K _ w' := hK
        simp only [Act.put, List.setIfInBounds_toArray, List.set_cons_zero, List.set_cons_succ, e4, e6] at hK ⊢
        have HK := Lib.hid hK
        have HG := Lib.hid hG
        clear hK hd hb hc e4 e6
        clear hG
        go_simp
        go_at_call 15
        refine ((show JJ _ B C d m (cond b a' a) a wx from HG.out).doc (r := r) (b' := a') (Q := fun e => e = .returned (.int .i64 r)) fun C' R' _ => (rsync_RD R' HL.out HRR.out).mono fun e w' h => ⟨h.1, rfl, h.2⟩).mono ?_
        rintro e w9 ⟨rfl, J9⟩
        exact HK.out _ J9
      · intro vs b c wx hG hd hb hc K hK
        have e3 : vs 3 = .int .i64 r := hd.get (j := 3) (by simp [depsOf, Region.binds])
        have e7 : vs 7 = .int .i64 r := hd.get (j := 7) (by simp [depsOf, Region.binds])
        replace hK : ∀ w', (fun b c wx => JJ (W.alloc (.cells #[.int .i64 1, .int .i64 n, .slice A1 p.length c1, .slice A2 ks.length c2] 35)) B C d m (cond b a' a) (cond c a' a) wx) b c w' → K _ w' := hK
        simp only [Act.put, List.setIfInBounds_toArray, List.set_cons_zero, List.set_cons_succ, e3, e7] at hK ⊢
        have HK := Lib.hid hK
        have HG := Lib.hid hG
        clear hK hd hb hc e3 e7
        clear hG
        go_simp
        exact HK.out _ HG.out
      · intro vs b c wx hG hd hb hc K hK
        have e8 : vs 8 = .bool true := hd.get (j := 8) (by simp [depsOf, Region.binds])
        replace hK : ∀ w', (fun b c wx => JJ (W.alloc (.cells #[.int .i64 1, .int .i64 n, .slice A1 p.length c1, .slice A2 ks.length c2] 35)) B C d m (cond b a' a) (cond c a' a) wx) b c w' → K _ w' := hK
        simp only [Act.put, List.setIfInBounds_toArray, List.set_cons_zero, List.set_cons_succ, e8] at hK ⊢
        have HK := Lib.hid hK
        have HG := Lib.hid hG
        clear hK hd hb hc e8
        clear hG
        go_simp
        exact HK.out _ HG.out
    case hend =>
      intro vs wx hG hv
      have e9 := hv 9 (by decide)
      replace e9 : vs 9 = .bool true := e9
      rw [e9]
      have HR := Lib.hid (HFin.out wx a' hG)
      clear hG hv e9
      go_wp2_with fail
      go_ret
      exact ⟨rfl, HR.out⟩
  · obtain ⟨r, a', hr⟩ : ∃ r a', opD dropA a n = (r, a') := ⟨_, _, rfl⟩
    have HRR := Lib.hid hr
    clear hr
    go_enter Try.func7, Try.ntmps7
    go_wp2_with fail
    apply region_G (fun b c wx => JJ (W.alloc (.cells #[.int .i64 2, .int .i64 n, .slice A1 p.length c1, .slice A2 ks.length c2] 35)) B C d m (cond b a' a) (cond c a' a) wx) 3 7 [dP d, .pointer (some ⟨W.heap.size, 1, none⟩), .int .i64 n, .int .i64 r, rP m, .pointer (some ⟨W.heap.size, 1, none⟩), .int .i64 n, .int .i64 r, .bool true, .bool true]
    case hm => kernel_rfl
    case hf => kernel_rfl
    case hp => kernel_rfl
    case hQ => exact (by intro c x y w e h; exact And.intro (e.symm.trans (And.left h)) (And.right h))
    case hF => intro vs; simp only [putAll, Act.put, List.setIfInBounds_toArray, List.set_cons_zero, List.set_cons_succ, Nat.reduceAdd]; rfl
    case h0 => exact HJ.out.below ⟨rfl, rfl, rfl, Nat.le_refl _, fun _ _ => rfl⟩
    case hstep =>
      repeat' (first | exact AllOps.nil | apply AllOps.cons)
      · intro vs b c wx hG hd hb hc K hK
        replace hK : ∀ w', (fun b c wx => JJ (W.alloc (.cells #[.int .i64 2, .int .i64 n, .slice A1 p.length c1, .slice A2 ks.length c2] 35)) B C d m (cond b a' a) (cond c a' a) wx) b c w' → K _ w' := hK
        simp only [Act.put, List.setIfInBounds_toArray, List.set_cons_zero, List.set_cons_succ] at hK ⊢
        have HK := Lib.hid hK
        have HG := Lib.hid hG
        clear hK hd hb hc
        clear hG
        go_simp
        exact HK.out _ HG.out
      · intro vs b c wx hG hd hb hc K hK
        replace hK : ∀ w', (fun b c wx => JJ (W.alloc (.cells #[.int .i64 2, .int .i64 n, .slice A1 p.length c1, .slice A2 ks.length c2] 35)) B C d m (cond b a' a) (cond c a' a) wx) b c w' → K _ w' := hK
        simp only [Act.put, List.setIfInBounds_toArray, List.set_cons_zero, List.set_cons_succ] at hK ⊢
        have HK := Lib.hid hK
        have HG := Lib.hid hG
        clear hK hd hb hc
        clear hG
        go_simp
        exact HK.out _ HG.out
      · intro vs b c wx hG hd hb hc K hK
        have e1 : vs 1 = .pointer (some ⟨W.heap.size, 1, none⟩) := hd.get (j := 1) (by simp [depsOf, Region.binds])
        replace hK : ∀ w', (fun b c wx => JJ (W.alloc (.cells #[.int .i64 2, .int .i64 n, .slice A1 p.length c1, .slice A2 ks.length c2] 35)) B C d m (cond b a' a) (cond c a' a) wx) b c w' → K _ w' := hK
        simp only [Act.put, List.setIfInBounds_toArray, List.set_cons_zero, List.set_cons_succ, e1] at hK ⊢
        have HK := Lib.hid hK
        have HG := Lib.hid hG
        clear hK hd hb hc e1
        obtain ⟨x0, x1, x2, x3⟩ := HX.out _ _ _ hG
        clear hG
        go_simp
        exact HK.out _ HG.out
      · intro vs b c wx hG hd hb hc K hK
        have e0 : vs 0 = dP d := hd.get (j := 0) (by simp [depsOf, Region.binds])
        have e2 : vs 2 = .int .i64 n := hd.get (j := 2) (by simp [depsOf, Region.binds])
        obtain rfl : b = false := hb rfl
        replace hK : ∀ w', (fun b c wx => JJ (W.alloc (.cells #[.int .i64 2, .int .i64 n, .slice A1 p.length c1, .slice A2 ks.length c2] 35)) B C d m (cond b a' a) (cond c a' a) wx) true c w' → K _ w' := hK
        simp only [Act.put, List.setIfInBounds_toArray, List.set_cons_zero, List.set_cons_succ, e0, e2] at hK ⊢
        have HK := Lib.hid hK
        have HG := Lib.hid hG
        clear hK hd hb hc e0 e2
        clear hG
        go_simp
        go_at_call 22
        refine ((show JJ _ B C d m a (cond c a' a) wx from HG.out).prog (r := r) (a' := a') fun B' D' _ => drop_DD D' n1 n2 HRR.out).mono ?_
        rintro e w9 ⟨rfl, J9⟩
        exact HK.out _ J9
      · intro vs b c wx hG hd hb hc K hK
        replace hK : ∀ w', (fun b c wx => JJ (W.alloc (.cells #[.int .i64 2, .int .i64 n, .slice A1 p.length c1, .slice A2 ks.length c2] 35)) B C d m (cond b a' a) (cond c a' a) wx) b c w' → K _ w' := hK
        simp only [Act.put, List.setIfInBounds_toArray, List.set_cons_zero, List.set_cons_succ] at hK ⊢
        have HK := Lib.hid hK
        have HG := Lib.hid hG
        clear hK hd hb hc
        clear hG
        go_simp
        exact HK.out _ HG.out
      · intro vs b c wx hG hd hb hc K hK
        replace hK : ∀ w', (fun b c wx => JJ (W.alloc (.cells #[.int .i64 2, .int .i64 n, .slice A1 p.length c1, .slice A2 ks.length c2] 35)) B C d m (cond b a' a) (cond c a' a) wx) b c w' → K _ w' := hK
        simp only [Act.put, List.setIfInBounds_toArray, List.set_cons_zero, List.set_cons_succ] at hK ⊢
        have HK := Lib.hid hK
        have HG := Lib.hid hG
        clear hK hd hb hc
        clear hG
        go_simp
        exact HK.out _ HG.out
      · intro vs b c wx hG hd hb hc K hK
        have e5 : vs 5 = .pointer (some ⟨W.heap.size, 1, none⟩) := hd.get (j := 5) (by simp [depsOf, Region.binds])
        replace hK : ∀ w', (fun b c wx => JJ (W.alloc (.cells #[.int .i64 2, .int .i64 n, .slice A1 p.length c1, .slice A2 ks.length c2] 35)) B C d m (cond b a' a) (cond c a' a) wx) b c w' → K _ w' := hK
        simp only [Act.put, List.setIfInBounds_toArray, List.set_cons_zero, List.set_cons_succ, e5] at hK ⊢
        have HK := Lib.hid hK
        have HG := Lib.hid hG
        clear hK hd hb hc e5
        obtain ⟨x0, x1, x2, x3⟩ := HX.out _ _ _ hG
        clear hG
        go_simp
        exact HK.out _ HG.out
      · intro vs b c wx hG hd hb hc K hK
        have e4 : vs 4 = rP m := hd.get (j := 4) (by simp [depsOf, Region.binds])
        have e6 : vs 6 = .int .i64 n := hd.get (j := 6) (by simp [depsOf, Region.binds])
        obtain rfl : c = false := hc rfl
        replace hK : ∀ w', (fun b c wx => JJ (W.alloc (.cells #[.int .i64 2, .int .i64 n, .slice A1 p.length c1, .slice A2 ks.length c2] 35)) B C d m (cond b a' a) (cond c a' a) wx) b true w' → K _ w' := hK
        simp only [Act.put, List.setIfInBounds_toArray, List.set_cons_zero, List.set_cons_succ, e4, e6] at hK ⊢
        have HK := Lib.hid hK
        have HG := Lib.hid hG
        clear hK hd hb hc e4 e6
        clear hG
        go_simp
        go_at_call 23
        refine ((show JJ _ B C d m (cond b a' a) a wx from HG.out).doc (r := r) (b' := a') (Q := fun e => e = .returned (.int .i64 r)) fun C' R' _ => (rdrop_RD R' HL.out HRR.out).mono fun e w' h => ⟨h.1, rfl, h.2⟩).mono ?_
        rintro e w9 ⟨rfl, J9⟩
        exact HK.out _ J9
      · intro vs b c wx hG hd hb hc K hK
        have e3 : vs 3 = .int .i64 r := hd.get (j := 3) (by simp [depsOf, Region.binds])
        have e7 : vs 7 = .int .i64 r := hd.get (j := 7) (by simp [depsOf, Region.binds])
        replace hK : ∀ w', (fun b c wx => JJ (W.alloc (.cells #[.int .i64 2, .int .i64 n, .slice A1 p.length c1, .slice A2 ks.length c2] 35)) B C d m (cond b a' a) (cond c a' a) wx) b c w' → K _ w' := hK
        simp only [Act.put, List.setIfInBounds_toArray, List.set_cons_zero, List.set_cons_succ, e3, e7] at hK ⊢
        have HK := Lib.hid hK
        have HG := Lib.hid hG
        clear hK hd hb hc e3 e7
        clear hG
        go_simp
        exact HK.out _ HG.out
      · intro vs b c wx hG hd hb hc K hK
        have e8 : vs 8 = .bool true := hd.get (j := 8) (by simp [depsOf, Region.binds])
        replace hK : ∀ w', (fun b c wx => JJ (W.alloc (.cells #[.int .i64 2, .int .i64 n, .slice A1 p.length c1, .slice A2 ks.length c2] 35)) B C d m (cond b a' a) (cond c a' a) wx) b c w' → K _ w' := hK
        simp only [Act.put, List.setIfInBounds_toArray, List.set_cons_zero, List.set_cons_succ, e8] at hK ⊢
        have HK := Lib.hid hK
        have HG := Lib.hid hG
        clear hK hd hb hc e8
        clear hG
        go_simp
        exact HK.out _ HG.out
    case hend =>
      intro vs wx hG hv
      have e9 := hv 9 (by decide)
      replace e9 : vs 9 = .bool true := e9
      rw [e9]
      have HR := Lib.hid (HFin.out wx a' hG)
      clear hG hv e9
      go_wp2_with fail
      go_ret
      exact ⟨rfl, HR.out⟩
end
end Go.Proofs.Ytkkaehaoahpibaa
namespace Go.Proofs.Ytkkaehaoahpibaa
open Go.RowKit Go.BigFrame

theorem rnew_RD (x : Int) (w : World) : Calls Try.prog 6 #[.int .i64 x] w fun e w' => e = .returned (rP w.heap.size) ∧ (∃ C, RD w' C w.heap.size ⟨x, -1, false, []⟩ ∧ ∀ k, C k → w.heap.size ≤ k) ∧ Below w.heap.size w w' := by
  have HR : Hid (RK (w.alloc (.cells #[.int .i64 x, .slice none 0 0, .int .i64 (-1), .bool false] 61)) w.heap.size x (-1) false none 0 []) := Lib.hid ⟨by simp [go_sem], by simp [go_sem], by simp [go_sem], by simp [go_sem], fun j => by simp [go_sem], So.empty _ _ _ _ _, by simp [Value.ownBlock], (fun _ h => by cases h), fun _ h => by cases h⟩
  go_enter Try.func6, Try.ntmps6
  go_wp2
  go_ret
  exact ⟨rfl, ⟨fK w.heap.size none 0 [], ⟨⟨_, _, _, HR.out, rfl, fun _ h => h⟩, fun _ h => HR.out.lt h⟩, fun k hk => by
    rcases hk with rfl | hk | ⟨q, hq, _⟩
    · exact Nat.le_refl _
    · simp [Value.ownBlock] at hk
    · cases hq⟩, (Below.refl _ _).alloc (Nat.le_refl _) _⟩
section
variable {w W wx : World} {B C : Nat → Prop} {d m : Nat} {a b : Ad}
theorem RD.setF (h : RD wx C m b) (x : Int) : RD (wx.setCell ⟨m, 2, none⟩ (.int .i64 x)) C m ⟨b.room, x, b.down, b.L⟩ := by
  obtain ⟨A, cap, qs, D, e, hb⟩ := h.ex
  exact ⟨⟨A, cap, qs, D.setF x, e, hb⟩, fun k hk => Nat.lt_of_lt_of_le (h.bt k hk) (Tn.setCell wx m 2 (.int .i64 x)).size⟩
theorem RD.mem (h : RD wx C m b) : C m := by
  obtain ⟨A, cap, qs, _, _, hb⟩ := h.ex
  exact hb m (.inl rfl)
theorem RD.cells (h : RD wx C m b) : wx.cell? ⟨m, 2, none⟩ = some (.int .i64 b.fuse) ∧ wx.cell? ⟨m, 3, none⟩ = some (.bool b.down) ∧ ∀ j, wx.frozen? ⟨m, j, none⟩ = false := by
  obtain ⟨A, cap, qs, D, _, _⟩ := h.ex
  exact ⟨D.c2, D.c3, D.fr⟩
theorem JJ.setF (J : JJ W B C d m a b wx) (x : Int) : JJ W B C d m a ⟨b.room, x, b.down, b.L⟩ (wx.setCell ⟨m, 2, none⟩ (.int .i64 x)) := by
  obtain ⟨B', C', D, R, h1, h2, h3⟩ := J.ex
  have t := Tn.setCell wx m 2 (.int .i64 x)
  have hs := J.tn.size
  exact ⟨⟨B', C', D.tn t fun k hk e => h3 k hk (e ▸ R.mem), R.setF x, h1, h2, h3⟩, J.tn.thenQ t fun k hk e => (h2 k (by have h9 : k = m := e; rw [h9]; exact R.mem)).elim .inr fun h => absurd hk (by omega)⟩
set_option maxRecDepth 100000 in
set_option maxHeartbeats 6400000 in
theorem does_none {k n : Int} {p : List UInt8} {ks : List Int} {A1 A2 : Option Addr} {c1 c2 : Nat} (k0 : (k == 0) = false) (k1 : (k == 1) = false) (k2 : (k == 2) = false) (k3 : (k == 3) = false) (k4 : (k == 4) = false) (D : DD W B d a) (R : RD W C m a) (hB : ∀ k, B k → w.heap.size ≤ k) (hC : ∀ k, C k → w.heap.size ≤ k) (hBC : ∀ k, B k → ¬ C k) (hbl : Below w.heap.size w W) :
    Calls Try.prog 7 #[dP d, rP m, .agg #[.int .i64 k, .int .i64 n, .slice A1 p.length c1, .slice A2 ks.length c2]] W fun e w' => e = .returned (.bool true) ∧ Dz w d m w' := by
  have HJ : Hid (JJ (W.alloc (.cells #[.int .i64 k, .int .i64 n, .slice A1 p.length c1, .slice A2 ks.length c2] 35)) B C d m a a _) := Lib.hid (JJ.start (D.alloc _) (R.below ((Below.refl _ _).alloc (Nat.le_refl _) _)) hBC)
  have HFin : Hid (∀ wx a', JJ (W.alloc (.cells #[.int .i64 k, .int .i64 n, .slice A1 p.length c1, .slice A2 ks.length c2] 35)) B C d m a' a' wx → Dz w d m wx) := Lib.hid fun wx a' J => J.fin (hbl.alloc hbl.size _) hB hC
  clear D R hB hC hBC
  go_enter Try.func7, Try.ntmps7
  go_wp2_with fail
  go_ret
  exact ⟨rfl, HFin.out _ _ HJ.out⟩
set_option maxRecDepth 100000 in
set_option maxHeartbeats 6400000 in
theorem does_3 {n : Int} {p : List UInt8} {ks : List Int} {A1 A2 : Option Addr} {c1 c2 : Nat} (n2 : n ≤ 9223372036854775807) (D : DD W B d a) (R : RD W C m a) (hB : ∀ k, B k → w.heap.size ≤ k) (hC : ∀ k, C k → w.heap.size ≤ k) (hBC : ∀ k, B k → ¬ C k) (hbl : Below w.heap.size w W) :
    Calls Try.prog 7 #[dP d, rP m, .agg #[.int .i64 3, .int .i64 n, .slice A1 p.length c1, .slice A2 ks.length c2]] W fun e w' => e = .returned (.bool true) ∧ Dz w d m w' := by
  have HJ : Hid (JJ (W.alloc (.cells #[.int .i64 3, .int .i64 n, .slice A1 p.length c1, .slice A2 ks.length c2] 35)) B C d m a a _) := Lib.hid (JJ.start (D.alloc _) (R.below ((Below.refl _ _).alloc (Nat.le_refl _) _)) hBC)
  have HFin : Hid (∀ wx a', JJ (W.alloc (.cells #[.int .i64 3, .int .i64 n, .slice A1 p.length c1, .slice A2 ks.length c2] 35)) B C d m a' a' wx → Dz w d m wx) := Lib.hid fun wx a' J => J.fin (hbl.alloc hbl.size _) hB hC
  have R1 := R.below ((Below.refl W.heap.size W).alloc (Nat.le_refl _) (.cells #[.int .i64 3, .int .i64 n, .slice A1 p.length c1, .slice A2 ks.length c2] 35))
  obtain ⟨y2, y3, yf⟩ := R1.cells
  have yf2 := yf 2
  have hmw : m < W.heap.size := R.bt m R.mem
  have hne : m ≠ W.heap.size := by omega
  clear yf R1 D R hB hC hBC hmw
  cases hd : a.down with
  | true =>
    rw [hd] at y3
    have HP : Hid (fuseD a n = (5, a)) := Lib.hid (by unfold fuseD; rw [if_pos hd])
    clear hd
    go_enter Try.func7, Try.ntmps7
    go_wp2_with fail
    go_at_call 24
    refine (HJ.out.prog (r := 5) (a' := a) fun B' D' _ => fuse_DD D' n2 HP.out).mono ?_
    rintro e w9 ⟨rfl, J9⟩
    have HR := Lib.hid (HFin.out _ _ J9)
    clear J9
    go_wp2_with fail
    go_ret
    exact ⟨rfl, HR.out⟩
  | false =>
    rw [hd] at y3
    have HP : Hid (fuseD a n = (0, ⟨a.room, max n (-1), false, a.L⟩)) := Lib.hid (by unfold fuseD; rw [if_neg (by rw [hd]; decide)])
    have HD := Lib.hid hd
    clear hd
    go_enter Try.func7, Try.ntmps7
    go_wp2_with fail
    have J2 := HJ.out.setF (max n (-1))
    go_at_call 24
    refine (J2.prog (r := 0) (a' := ⟨a.room, max n (-1), false, a.L⟩) fun B' D' _ => fuse_DD D' n2 HP.out).mono ?_
    rintro e w9 ⟨rfl, J9⟩
    rw [HD.out] at J9
    have HR := Lib.hid (HFin.out _ _ J9)
    clear J9 J2
    go_wp2_with fail
    go_ret
    exact ⟨rfl, HR.out⟩
end
end Go.Proofs.Ytkkaehaoahpibaa
namespace Go.Proofs.Ytkkaehaoahpibaa
open Go.RowKit

theorem bclone_any (K : Nat) (A : Option Addr) (n cap : Nat) (l : List UInt8) (w : World) (hn : l.length = n) (hb : Bs w K A cap l) (hK : K ≤ w.heap.size) (hsz : l.length ≤ 140737488355328) :
    Calls Try.prog 67 #[.slice A n cap] w (NewBytes w l) := by
  subst hn
  have hle := hb.le
  have hmax := hb.max
  unfold maxLen at hmax
  cases A with
  | none =>
    have hc := hb.nil rfl
    have hl : l = [] := List.eq_nil_of_length_eq_zero (by omega)
    subst hl hc
    have hq := Lib.run_eql_slice_nil (P := Try.prog) w 32 5 none 0 0 0 0 Try.underlying32
    go_enter Try.func67, Try.ntmps67
    go_wp2
    go_ret
    exact ⟨none, 0, rfl, Ob.empty _ _, Below.refl _ _⟩
  | some ad =>
    have hq := Lib.run_eql_slice_nil (P := Try.prog) w 32 5 (some ad) l.length cap 0 0 Try.underlying32
    go_enter Try.func67, Try.ntmps67
    go_wp2_with (at_builtin; refine wpList_app _ rfl (.tmp 5) (.tmp 6) rfl w.heap.size (.slice (some ⟨w.heap.size, 0, none⟩) 0 0) [] rfl (lit_ob _ w.heap.size w.heap.size rfl (Nat.le_refl _) _ 0 [] rfl rfl (by decide)) (some ad) l.length cap l rfl rfl K (hb.alloc hK _) l.length (by simp) (by simpa using hsz) (by simp) ?_; intro A2 cap2 w2 hown2 hgrow2 hat2; have B2 : Below w.heap.size w w2 := grown_below ((Below.refl _ _).alloc (Nat.le_refl _) _) hgrow2 (by simp) (by simp [Value.ownBlock]))
    go_ret
    exact ⟨A2, cap2, rfl, hown2, B2⟩
end Go.Proofs.Ytkkaehaoahpibaa
/- The check sum of bytes, as plain numbers. -/
namespace Go.Proofs.Ytkkaehaoahpibaa

def polyN : Nat := 2197175160
def fullN : Nat := 4294967295
/-- One bit. -/
def bitStep (c : Nat) : Nat := if c % 2 = 1 then (c / 2) ^^^ polyN else c / 2
/-- k bits. -/
def bitsTo (c : Nat) : Nat → Nat
  | 0 => c
  | k + 1 => bitStep (bitsTo c k)
/-- One byte. -/
def byteStep (c : Nat) (b : UInt8) : Nat := bitsTo (c ^^^ b.toNat) 8
def crcTo (c : Nat) (l : List UInt8) : Nat := l.foldl byteStep c
def crcN (s : Nat) (l : List UInt8) : Nat := fullN - crcTo (fullN - s) l

theorem bitStep_lt {c : Nat} (h : c < 4294967296) : bitStep c < 4294967296 := by
  unfold bitStep
  split
  · exact Nat.xor_lt_two_pow (n := 32) (by omega) (by decide)
  · omega
theorem bitsTo_lt {c : Nat} (h : c < 4294967296) : ∀ k, bitsTo c k < 4294967296
  | 0 => h
  | k + 1 => bitStep_lt (bitsTo_lt h k)
theorem xor_byte_lt {c : Nat} (h : c < 4294967296) (b : UInt8) : c ^^^ b.toNat < 4294967296 :=
  Nat.xor_lt_two_pow (n := 32) (by omega) (by have := b.toNat_lt; omega)
theorem byteStep_lt {c : Nat} (h : c < 4294967296) (b : UInt8) : byteStep c b < 4294967296 := bitsTo_lt (xor_byte_lt h b) 8
theorem crcTo_lt : ∀ (l : List UInt8) {c : Nat}, c < 4294967296 → crcTo c l < 4294967296
  | [], _, h => h
  | b :: l, _, h => crcTo_lt l (byteStep_lt h b)
theorem crcTo_append (c : Nat) (l m : List UInt8) : crcTo c (l ++ m) = crcTo (crcTo c l) m := List.foldl_append ..
theorem crcN_lt (s : Nat) (l : List UInt8) : crcN s l < 4294967296 := by unfold crcN fullN; omega
theorem full_back {c : Nat} (h : c < 4294967296) : fullN - (fullN - c) = c := by unfold fullN; omega
theorem crcN_append {s : Nat} (l m : List UInt8) : crcN (crcN s l) m = crcN s (l ++ m) := by
  unfold crcN
  rw [full_back (crcTo_lt l (by unfold fullN; omega)), crcTo_append]
theorem crcTo_take {c : Nat} {l : List UInt8} {k : Nat} (h : k < l.length) : crcTo c (l.take (k + 1)) = byteStep (crcTo c (l.take k)) l[k] := by
  rw [List.take_succ_eq_append_getElem h, crcTo_append]; rfl

end Go.Proofs.Ytkkaehaoahpibaa
namespace Go.Proofs.Ytkkaehaoahpibaa

def hd4 (k : UInt8) (n : Nat) : List UInt8 := [k, UInt8.ofNat (n / 65536), UInt8.ofNat (n / 256), UInt8.ofNat n]
def le4 (c : Nat) : List UInt8 := [UInt8.ofNat c, UInt8.ofNat (c / 256), UInt8.ofNat (c / 65536), UInt8.ofNat (c / 16777216)]
def sumB (k : UInt8) (l : List UInt8) : Nat := crcN 0 (hd4 k l.length ++ l)
/-- The frame of kind k with payload l. -/
def sealB (k : UInt8) (l : List UInt8) : List UInt8 := 167 :: hd4 k l.length ++ le4 (sumB k l) ++ l
theorem sealB_length (k : UInt8) (l : List UInt8) : (sealB k l).length = 9 + l.length := by simp [sealB, hd4, le4]; omega
theorem sumB_lt (k : UInt8) (l : List UInt8) : sumB k l < 4294967296 := crcN_lt _ _
theorem ofNat_int (x : Nat) : ((UInt8.ofNat x).toNat : Int) = (x : Int) % 256 := by simp

end Go.Proofs.Ytkkaehaoahpibaa
namespace Go.Proofs.Ytkkaehaoahpibaa
open Go.RowKit

theorem max_u32 : IntKind.u32.max = 4294967295 := by decide
theorem not_nat {s : Nat} (h : s < 4294967296) : 4294967295 ^^^ s = fullN - s := by
  unfold fullN
  rw [Nat.xor_comm]
  have h2 : (BitVec.ofNat 32 s ^^^ BitVec.allOnes 32) = ~~~ BitVec.ofNat 32 s := BitVec.xor_allOnes
  have h3 := congrArg BitVec.toNat h2
  simp only [BitVec.toNat_xor, BitVec.toNat_not, BitVec.toNat_ofNat, BitVec.toNat_allOnes] at h3
  rw [Nat.mod_eq_of_lt h] at h3
  omega
theorem not_u32 {s : Nat} (hs : s < 4294967296) : bits .xor .u32 IntKind.u32.max (s : Int) = ((fullN - s : Nat) : Int) := by
  rw [max_u32, show (4294967295 : Int) = ((4294967295 : Nat) : Int) from rfl, u32_xor_nat _ _ (by omega) hs, not_nat hs]
theorem bit_u32 {z : Nat} (h : z < 4294967296) : bits .xor .u32 ((z : Int) / 2) (bits .and .u32 2197175160 (-bits .and .u32 (z : Int) 1 % 4294967296)) = ((bitStep z : Nat) : Int) := by
  unfold bitStep
  have f1 : bits .and .u32 (z : Int) 1 = (z : Int) % 2 := by
    rw [show (1 : Int) = ((1 : Nat) : Int) from rfl, u32_and_nat _ _ h (by omega), nat_mask1]; omega
  rw [f1]
  by_cases e : z % 2 = 1
  · have e1 : -((z : Int) % 2) % 4294967296 = ((4294967295 : Nat) : Int) := by omega
    rw [if_pos e, e1, show (2197175160 : Int) = ((2197175160 : Nat) : Int) from rfl, u32_and_nat _ _ (by omega) (by omega), show ((z : Int) / 2) = ((z / 2 : Nat) : Int) by omega, u32_xor_nat _ _ (by omega) (Nat.and_lt_two_pow (n := 32) _ (by omega))]
    rfl
  · have e1 : -((z : Int) % 2) % 4294967296 = ((0 : Nat) : Int) := by omega
    rw [if_neg e, e1, show (2197175160 : Int) = ((2197175160 : Nat) : Int) from rfl, u32_and_nat _ _ (by omega) (by omega), show ((z : Int) / 2) = ((z / 2 : Nat) : Int) by omega, u32_xor_nat _ _ (by omega) (Nat.and_lt_two_pow (n := 32) _ (by omega))]
    simp

set_option maxHeartbeats 800000 in
theorem crc_any (s : Nat) (hs : s < 4294967296) (K : Nat) (A : Option Addr) (cap : Nat) (l : List UInt8) (w : World) (hb : Bs w K A cap l) :
    Calls Try.prog 68 #[.int .u32 (s : Int), .slice A l.length cap] w fun e w' => e = .returned (.int .u32 (crcN s l : Int)) ∧ w = w' := by
  have hle := hb.le
  have hmax := hb.max
  unfold maxLen at hmax
  have e0 := not_u32 hs
  go_enter Try.func68, Try.ntmps68
  go_wp2
  clear e0
  go_loop [5, 12] (fun c i => ∃ k : Nat, k ≤ l.length ∧ i = .int .i64 k ∧ c = .int .u32 (crcTo (fullN - s) (l.take k))) (fun _ i => l.length - (intOf i).toNat)
  case atStart => exact ⟨0, Nat.zero_le _, rfl, rfl⟩
  case round =>
    obtain ⟨k, hk, rfl, rfl⟩ := hrel
    have hc := crcTo_lt (l.take k) (c := fullN - s) (by unfold fullN; omega)
    by_cases hlt : k < l.length
    · obtain ⟨ad, rfl, _, hcell⟩ := hb.get hlt
      have hstep := crcTo_take (c := fullN - s) hlt
      have hy := l[k].toNat_lt
      generalize l[k] = b at *
      generalize crcTo (fullN - s) (l.take k) = c at *
      have Hs := Lib.hid hstep
      clear hstep
      have ex : bits .xor .u32 (c : Int) (b.toNat : Int) = ((c ^^^ b.toNat : Nat) : Int) := u32_xor_nat _ _ hc (by omega)
      go_wp2
      clear ex
      have hx := xor_byte_lt hc b
      go_loop [5, 20] (fun c' i => ∃ j : Nat, j ≤ 8 ∧ i = .int .i64 j ∧ c' = .int .u32 (bitsTo (c ^^^ b.toNat) j)) (fun _ i => 8 - (intOf i).toNat)
      case atStart => exact ⟨0, Nat.zero_le _, rfl, rfl⟩
      case round =>
        obtain ⟨j, hj, rfl, rfl⟩ := hrel
        have hz := bitsTo_lt hx j
        by_cases hlt : j < 8
        · have hzz : bitStep (bitsTo (c ^^^ b.toNat) j) = bitsTo (c ^^^ b.toNat) (j + 1) := rfl
          generalize bitsTo (c ^^^ b.toNat) j = z at *
          have Hz := Lib.hid hzz
          clear hzz
          go_wp2
          go_round
          case rel => exact ⟨j + 1, by omega, by go_num, by rw [bit_u32 hz, Hz.out]⟩
          case measure => simp [intOf]; omega
        · have hj8 : j = 8 := by omega
          subst hj8
          have hzz : bitsTo (c ^^^ b.toNat) 8 = byteStep c b := rfl
          rw [hzz] at hz ⊢
          generalize byteStep c b = y at *
          clear hzz
          go_wp2
          go_round
          case rel => exact ⟨k + 1, by omega, by go_num, by rw [Hs.out]⟩
          case measure => simp [intOf]; omega
    · have hkl : k = l.length := by omega
      subst hkl
      rw [List.take_length] at hc ⊢
      have e1 := not_u32 hc
      go_wp2
      go_ret
      exact ⟨rfl, rfl⟩

end Go.Proofs.Ytkkaehaoahpibaa
