/- The law's Does. -/
import Derived.Test.YtpckbbjlihhpdaaRdG
import Derived.Test.YtpckbbjlihhpdaaRdS
import Derived.Test.YtpckbbjlihhpdaaRegG
import Derived.Test.YtpckbbjlihhpdaaDkOp
namespace Go.Proofs.Ytpckbbjlihhpdaa
open Go.RowKit Go.BigFrame

/-- Both disks are one, in memory of the law's own. -/
def Dz (w : World) (d m : Nat) (w' : World) : Prop := ∃ a B C, DD w' B d a ∧ RD w' C m a ∧ (∀ k, B k → w.heap.size ≤ k) ∧ (∀ k, C k → w.heap.size ≤ k) ∧ (∀ k, B k → ¬ C k) ∧ Below w.heap.size w w'
section
variable {w W wx : World} {B C : Nat → Prop} {d m : Nat} {a : Ad}
theorem JJ.fin (J : JJ W B C d m a a wx) (hbl : Below w.heap.size w W) (hB : ∀ k, B k → w.heap.size ≤ k) (hC : ∀ k, C k → w.heap.size ≤ k) : Dz w d m wx := by
  obtain ⟨B', C', D, R, h1, h2, h3⟩ := J.ex
  have hs := hbl.size
  exact ⟨a, B', C', D, R, fun k hk => (h1 k hk).elim (hB k) fun h => by omega, fun k hk => (h2 k hk).elim (hC k) fun h => by omega, h3, J.tn.bel hbl (fun k hk => hk.elim (hB k) (hC k)) (Nat.le_refl _)⟩
set_option maxRecDepth 100000 in
set_option maxHeartbeats 6400000 in
theorem does_12 {k n : Int} {p : List UInt8} {ks : List Int} {A1 A2 : Option Addr} {c1 c2 : Nat} (hk : k = 1 ∨ k = 2) (D : DD W B d a) (R : RD W C m a) (hB : ∀ k, B k → w.heap.size ≤ k) (hC : ∀ k, C k → w.heap.size ≤ k) (hBC : ∀ k, B k → ¬ C k) (hbl : Below w.heap.size w W) (n1 : -9223372036854775808 ≤ n) (n2 : n ≤ 9223372036854775807) :
    Calls Try.prog 10 #[dP d, rP m, .agg #[.int .i64 k, .int .i64 n, .slice A1 p.length c1, .slice A2 ks.length c2]] W fun e w' => e = .returned (.bool true) ∧ Dz w d m w' := by
  have HL := Lib.hid D.lim
  have HJ : Hid (JJ (W.alloc (.cells #[.int .i64 k, .int .i64 n, .slice A1 p.length c1, .slice A2 ks.length c2] 33)) B C d m a a _) := Lib.hid (JJ.start (D.alloc _) (R.below ((Below.refl _ _).alloc (Nat.le_refl _) _)) hBC)
  have HX : Hid (∀ wx b c, JJ (W.alloc (.cells #[.int .i64 k, .int .i64 n, .slice A1 p.length c1, .slice A2 ks.length c2] 33)) B C d m b c wx → wx.cell? ⟨W.heap.size, 0, none⟩ = some (.int .i64 k) ∧ wx.cell? ⟨W.heap.size, 1, none⟩ = some (.int .i64 n) ∧ wx.cell? ⟨W.heap.size, 2, none⟩ = some (.slice A1 p.length c1) ∧ wx.cell? ⟨W.heap.size, 3, none⟩ = some (.slice A2 ks.length c2)) := Lib.hid fun wx b c J => by
    have hn : ¬ (B W.heap.size ∨ C W.heap.size) := fun h => h.elim (fun h => Nat.lt_irrefl _ (D.bt _ h)) fun h => Nat.lt_irrefl _ (R.bt _ h)
    exact ⟨J.tn.cell (by simp [go_sem]) hn, J.tn.cell (by simp [go_sem]) hn, J.tn.cell (by simp [go_sem]) hn, J.tn.cell (by simp [go_sem]) hn⟩
  have HFin : Hid (∀ wx a', JJ (W.alloc (.cells #[.int .i64 k, .int .i64 n, .slice A1 p.length c1, .slice A2 ks.length c2] 33)) B C d m a' a' wx → Dz w d m wx) := Lib.hid fun wx a' J => J.fin (hbl.alloc hbl.size _) hB hC
  clear D R hB hC hBC
  rcases hk with rfl | rfl
  · obtain ⟨r, a', hr⟩ : ∃ r a', opD syncA a n = (r, a') := ⟨_, _, rfl⟩
    have HRR := Lib.hid hr
    clear hr
    go_enter Try.func10, Try.ntmps10
    go_wp2_with fail
    apply region_G (fun b c wx => JJ (W.alloc (.cells #[.int .i64 1, .int .i64 n, .slice A1 p.length c1, .slice A2 ks.length c2] 33)) B C d m (cond b a' a) (cond c a' a) wx) 3 7 [dP d, .pointer (some ⟨W.heap.size, 1, none⟩), .int .i64 n, .int .i64 r, rP m, .pointer (some ⟨W.heap.size, 1, none⟩), .int .i64 n, .int .i64 r, .bool true, .bool true]
    case hm => kernel_rfl
    case hf => kernel_rfl
    case hp => kernel_rfl
    case hQ => exact (by intro c x y w e h; exact And.intro (e.symm.trans (And.left h)) (And.right h))
    case hF => intro vs; simp only [putAll, Act.put, List.setIfInBounds_toArray, List.set_cons_zero, List.set_cons_succ, Nat.reduceAdd]; rfl
    case h0 => exact HJ.out.below ⟨rfl, rfl, rfl, Nat.le_refl _, fun _ _ => rfl⟩
    case hstep =>
      repeat' (first | exact AllOps.nil | apply AllOps.cons)
      · intro vs b c wx hG hd hb hc K hK
        replace hK : ∀ w', (fun b c wx => JJ (W.alloc (.cells #[.int .i64 1, .int .i64 n, .slice A1 p.length c1, .slice A2 ks.length c2] 33)) B C d m (cond b a' a) (cond c a' a) wx) b c w' → K _ w' := hK
        simp only [Act.put, List.setIfInBounds_toArray, List.set_cons_zero, List.set_cons_succ] at hK ⊢
        have HK := Lib.hid hK
        have HG := Lib.hid hG
        clear hK hd hb hc
        clear hG
        go_simp
        exact HK.out _ HG.out
      · intro vs b c wx hG hd hb hc K hK
        replace hK : ∀ w', (fun b c wx => JJ (W.alloc (.cells #[.int .i64 1, .int .i64 n, .slice A1 p.length c1, .slice A2 ks.length c2] 33)) B C d m (cond b a' a) (cond c a' a) wx) b c w' → K _ w' := hK
        simp only [Act.put, List.setIfInBounds_toArray, List.set_cons_zero, List.set_cons_succ] at hK ⊢
        have HK := Lib.hid hK
        have HG := Lib.hid hG
        clear hK hd hb hc
        clear hG
        go_simp
        exact HK.out _ HG.out
      · intro vs b c wx hG hd hb hc K hK
        have e1 : vs 1 = .pointer (some ⟨W.heap.size, 1, none⟩) := hd.get (j := 1) (by simp [depsOf, Region.binds])
        replace hK : ∀ w', (fun b c wx => JJ (W.alloc (.cells #[.int .i64 1, .int .i64 n, .slice A1 p.length c1, .slice A2 ks.length c2] 33)) B C d m (cond b a' a) (cond c a' a) wx) b c w' → K _ w' := hK
        simp only [Act.put, List.setIfInBounds_toArray, List.set_cons_zero, List.set_cons_succ, e1] at hK ⊢
        have HK := Lib.hid hK
        have HG := Lib.hid hG
        clear hK hd hb hc e1
        obtain ⟨x0, x1, x2, x3⟩ := HX.out _ _ _ hG
        clear hG
        go_simp
        exact HK.out _ HG.out
      · intro vs b c wx hG hd hb hc K hK
        have e0 : vs 0 = dP d := hd.get (j := 0) (by simp [depsOf, Region.binds])
        have e2 : vs 2 = .int .i64 n := hd.get (j := 2) (by simp [depsOf, Region.binds])
        obtain rfl : b = false := hb rfl
        replace hK : ∀ w', (fun b c wx => JJ (W.alloc (.cells #[.int .i64 1, .int .i64 n, .slice A1 p.length c1, .slice A2 ks.length c2] 33)) B C d m (cond b a' a) (cond c a' a) wx) true c w' → K _ w' := hK
        simp only [Act.put, List.setIfInBounds_toArray, List.set_cons_zero, List.set_cons_succ, e0, e2] at hK ⊢
        have HK := Lib.hid hK
        have HG := Lib.hid hG
        clear hK hd hb hc e0 e2
        clear hG
        go_simp
        go_at_call 23
        refine ((show JJ _ B C d m a (cond c a' a) wx from HG.out).prog (r := r) (a' := a') fun B' D' _ => sync_DD D' n1 n2 HRR.out).mono ?_
        rintro e w9 ⟨rfl, J9⟩
        exact HK.out _ J9
      · intro vs b c wx hG hd hb hc K hK
        replace hK : ∀ w', (fun b c wx => JJ (W.alloc (.cells #[.int .i64 1, .int .i64 n, .slice A1 p.length c1, .slice A2 ks.length c2] 33)) B C d m (cond b a' a) (cond c a' a) wx) b c w' → K _ w' := hK
        simp only [Act.put, List.setIfInBounds_toArray, List.set_cons_zero, List.set_cons_succ] at hK ⊢
        have HK := Lib.hid hK
        have HG := Lib.hid hG
        clear hK hd hb hc
        clear hG
        go_simp
        exact HK.out _ HG.out
      · intro vs b c wx hG hd hb hc K hK
        replace hK : ∀ w', (fun b c wx => JJ (W.alloc (.cells #[.int .i64 1, .int .i64 n, .slice A1 p.length c1, .slice A2 ks.length c2] 33)) B C d m (cond b a' a) (cond c a' a) wx) b c w' → K _ w' := hK
        simp only [Act.put, List.setIfInBounds_toArray, List.set_cons_zero, List.set_cons_succ] at hK ⊢
        have HK := Lib.hid hK
        have HG := Lib.hid hG
        clear hK hd hb hc
        clear hG
        go_simp
        exact HK.out _ HG.out
      · intro vs b c wx hG hd hb hc K hK
        have e5 : vs 5 = .pointer (some ⟨W.heap.size, 1, none⟩) := hd.get (j := 5) (by simp [depsOf, Region.binds])
        replace hK : ∀ w', (fun b c wx => JJ (W.alloc (.cells #[.int .i64 1, .int .i64 n, .slice A1 p.length c1, .slice A2 ks.length c2] 33)) B C d m (cond b a' a) (cond c a' a) wx) b c w' → K _ w' := hK
        simp only [Act.put, List.setIfInBounds_toArray, List.set_cons_zero, List.set_cons_succ, e5] at hK ⊢
        have HK := Lib.hid hK
        have HG := Lib.hid hG
        clear hK hd hb hc e5
        obtain ⟨x0, x1, x2, x3⟩ := HX.out _ _ _ hG
        clear hG
        go_simp
        exact HK.out _ HG.out
      · intro vs b c wx hG hd hb hc K hK
        have e4 : vs 4 = rP m := hd.get (j := 4) (by simp [depsOf, Region.binds])
        have e6 : vs 6 = .int .i64 n := hd.get (j := 6) (by simp [depsOf, Region.binds])
        obtain rfl : c = false := hc rfl
        replace hK : ∀ w', (fun b c wx => JJ (W.alloc (.cells #[.int .i64 1, .int .i64 n, .slice A1 p.length c1, .slice A2 ks.length c2] 33)) B C d m (cond b a' a) (cond c a' a) wx) b true w' → K _ w' := hK
        simp only [Act.put, List.setIfInBounds_toArray, List.set_cons_zero, List.set_cons_succ, e4, e6] at hK ⊢
        have HK := Lib.hid hK
        have HG := Lib.hid hG
        clear hK hd hb hc e4 e6
        clear hG
        go_simp
        go_at_call 19
        refine ((show JJ _ B C d m (cond b a' a) a wx from HG.out).doc (r := r) (b' := a') (Q := fun e => e = .returned (.int .i64 r)) fun C' R' _ => (rsync_RD R' HL.out HRR.out).mono fun e w' h => ⟨h.1, rfl, h.2⟩).mono ?_
        rintro e w9 ⟨rfl, J9⟩
        exact HK.out _ J9
      · intro vs b c wx hG hd hb hc K hK
        have e3 : vs 3 = .int .i64 r := hd.get (j := 3) (by simp [depsOf, Region.binds])
        have e7 : vs 7 = .int .i64 r := hd.get (j := 7) (by simp [depsOf, Region.binds])
        replace hK : ∀ w', (fun b c wx => JJ (W.alloc (.cells #[.int .i64 1, .int .i64 n, .slice A1 p.length c1, .slice A2 ks.length c2] 33)) B C d m (cond b a' a) (cond c a' a) wx) b c w' → K _ w' := hK
        simp only [Act.put, List.setIfInBounds_toArray, List.set_cons_zero, List.set_cons_succ, e3, e7] at hK ⊢
        have HK := Lib.hid hK
        have HG := Lib.hid hG
        clear hK hd hb hc e3 e7
        clear hG
        go_simp
        exact HK.out _ HG.out
      · intro vs b c wx hG hd hb hc K hK
        have e8 : vs 8 = .bool true := hd.get (j := 8) (by simp [depsOf, Region.binds])
        replace hK : ∀ w', (fun b c wx => JJ (W.alloc (.cells #[.int .i64 1, .int .i64 n, .slice A1 p.length c1, .slice A2 ks.length c2] 33)) B C d m (cond b a' a) (cond c a' a) wx) b c w' → K _ w' := hK
        simp only [Act.put, List.setIfInBounds_toArray, List.set_cons_zero, List.set_cons_succ, e8] at hK ⊢
        have HK := Lib.hid hK
        have HG := Lib.hid hG
        clear hK hd hb hc e8
        clear hG
        go_simp
        exact HK.out _ HG.out
    case hend =>
      intro vs wx hG hv
      have e9 := hv 9 (by decide)
      replace e9 : vs 9 = .bool true := e9
      rw [e9]
      have HR := Lib.hid (HFin.out wx a' hG)
      clear hG hv e9
      go_wp2_with fail
      go_ret
      exact ⟨rfl, HR.out⟩
  · obtain ⟨r, a', hr⟩ : ∃ r a', opD dropA a n = (r, a') := ⟨_, _, rfl⟩
    have HRR := Lib.hid hr
    clear hr
    go_enter Try.func10, Try.ntmps10
    go_wp2_with fail
    apply region_G (fun b c wx => JJ (W.alloc (.cells #[.int .i64 2, .int .i64 n, .slice A1 p.length c1, .slice A2 ks.length c2] 33)) B C d m (cond b a' a) (cond c a' a) wx) 3 7 [dP d, .pointer (some ⟨W.heap.size, 1, none⟩), .int .i64 n, .int .i64 r, rP m, .pointer (some ⟨W.heap.size, 1, none⟩), .int .i64 n, .int .i64 r, .bool true, .bool true]
    case hm => kernel_rfl
    case hf => kernel_rfl
    case hp => kernel_rfl
    case hQ => exact (by intro c x y w e h; exact And.intro (e.symm.trans (And.left h)) (And.right h))
    case hF => intro vs; simp only [putAll, Act.put, List.setIfInBounds_toArray, List.set_cons_zero, List.set_cons_succ, Nat.reduceAdd]; rfl
    case h0 => exact HJ.out.below ⟨rfl, rfl, rfl, Nat.le_refl _, fun _ _ => rfl⟩
    case hstep =>
      repeat' (first | exact AllOps.nil | apply AllOps.cons)
      · intro vs b c wx hG hd hb hc K hK
        replace hK : ∀ w', (fun b c wx => JJ (W.alloc (.cells #[.int .i64 2, .int .i64 n, .slice A1 p.length c1, .slice A2 ks.length c2] 33)) B C d m (cond b a' a) (cond c a' a) wx) b c w' → K _ w' := hK
        simp only [Act.put, List.setIfInBounds_toArray, List.set_cons_zero, List.set_cons_succ] at hK ⊢
        have HK := Lib.hid hK
        have HG := Lib.hid hG
        clear hK hd hb hc
        clear hG
        go_simp
        exact HK.out _ HG.out
      · intro vs b c wx hG hd hb hc K hK
        replace hK : ∀ w', (fun b c wx => JJ (W.alloc (.cells #[.int .i64 2, .int .i64 n, .slice A1 p.length c1, .slice A2 ks.length c2] 33)) B C d m (cond b a' a) (cond c a' a) wx) b c w' → K _ w' := hK
        simp only [Act.put, List.setIfInBounds_toArray, List.set_cons_zero, List.set_cons_succ] at hK ⊢
        have HK := Lib.hid hK
        have HG := Lib.hid hG
        clear hK hd hb hc
        clear hG
        go_simp
        exact HK.out _ HG.out
      · intro vs b c wx hG hd hb hc K hK
        have e1 : vs 1 = .pointer (some ⟨W.heap.size, 1, none⟩) := hd.get (j := 1) (by simp [depsOf, Region.binds])
        replace hK : ∀ w', (fun b c wx => JJ (W.alloc (.cells #[.int .i64 2, .int .i64 n, .slice A1 p.length c1, .slice A2 ks.length c2] 33)) B C d m (cond b a' a) (cond c a' a) wx) b c w' → K _ w' := hK
        simp only [Act.put, List.setIfInBounds_toArray, List.set_cons_zero, List.set_cons_succ, e1] at hK ⊢
        have HK := Lib.hid hK
        have HG := Lib.hid hG
        clear hK hd hb hc e1
        obtain ⟨x0, x1, x2, x3⟩ := HX.out _ _ _ hG
        clear hG
        go_simp
        exact HK.out _ HG.out
      · intro vs b c wx hG hd hb hc K hK
        have e0 : vs 0 = dP d := hd.get (j := 0) (by simp [depsOf, Region.binds])
        have e2 : vs 2 = .int .i64 n := hd.get (j := 2) (by simp [depsOf, Region.binds])
        obtain rfl : b = false := hb rfl
        replace hK : ∀ w', (fun b c wx => JJ (W.alloc (.cells #[.int .i64 2, .int .i64 n, .slice A1 p.length c1, .slice A2 ks.length c2] 33)) B C d m (cond b a' a) (cond c a' a) wx) true c w' → K _ w' := hK
        simp only [Act.put, List.setIfInBounds_toArray, List.set_cons_zero, List.set_cons_succ, e0, e2] at hK ⊢
        have HK := Lib.hid hK
        have HG := Lib.hid hG
        clear hK hd hb hc e0 e2
        clear hG
        go_simp
        go_at_call 27
        refine ((show JJ _ B C d m a (cond c a' a) wx from HG.out).prog (r := r) (a' := a') fun B' D' _ => drop_DD D' n1 n2 HRR.out).mono ?_
        rintro e w9 ⟨rfl, J9⟩
        exact HK.out _ J9
      · intro vs b c wx hG hd hb hc K hK
        replace hK : ∀ w', (fun b c wx => JJ (W.alloc (.cells #[.int .i64 2, .int .i64 n, .slice A1 p.length c1, .slice A2 ks.length c2] 33)) B C d m (cond b a' a) (cond c a' a) wx) b c w' → K _ w' := hK
        simp only [Act.put, List.setIfInBounds_toArray, List.set_cons_zero, List.set_cons_succ] at hK ⊢
        have HK := Lib.hid hK
        have HG := Lib.hid hG
        clear hK hd hb hc
        clear hG
        go_simp
        exact HK.out _ HG.out
      · intro vs b c wx hG hd hb hc K hK
        replace hK : ∀ w', (fun b c wx => JJ (W.alloc (.cells #[.int .i64 2, .int .i64 n, .slice A1 p.length c1, .slice A2 ks.length c2] 33)) B C d m (cond b a' a) (cond c a' a) wx) b c w' → K _ w' := hK
        simp only [Act.put, List.setIfInBounds_toArray, List.set_cons_zero, List.set_cons_succ] at hK ⊢
        have HK := Lib.hid hK
        have HG := Lib.hid hG
        clear hK hd hb hc
        clear hG
        go_simp
        exact HK.out _ HG.out
      · intro vs b c wx hG hd hb hc K hK
        have e5 : vs 5 = .pointer (some ⟨W.heap.size, 1, none⟩) := hd.get (j := 5) (by simp [depsOf, Region.binds])
        replace hK : ∀ w', (fun b c wx => JJ (W.alloc (.cells #[.int .i64 2, .int .i64 n, .slice A1 p.length c1, .slice A2 ks.length c2] 33)) B C d m (cond b a' a) (cond c a' a) wx) b c w' → K _ w' := hK
        simp only [Act.put, List.setIfInBounds_toArray, List.set_cons_zero, List.set_cons_succ, e5] at hK ⊢
        have HK := Lib.hid hK
        have HG := Lib.hid hG
        clear hK hd hb hc e5
        obtain ⟨x0, x1, x2, x3⟩ := HX.out _ _ _ hG
        clear hG
        go_simp
        exact HK.out _ HG.out
      · intro vs b c wx hG hd hb hc K hK
        have e4 : vs 4 = rP m := hd.get (j := 4) (by simp [depsOf, Region.binds])
        have e6 : vs 6 = .int .i64 n := hd.get (j := 6) (by simp [depsOf, Region.binds])
        obtain rfl : c = false := hc rfl
        replace hK : ∀ w', (fun b c wx => JJ (W.alloc (.cells #[.int .i64 2, .int .i64 n, .slice A1 p.length c1, .slice A2 ks.length c2] 33)) B C d m (cond b a' a) (cond c a' a) wx) b true w' → K _ w' := hK
        simp only [Act.put, List.setIfInBounds_toArray, List.set_cons_zero, List.set_cons_succ, e4, e6] at hK ⊢
        have HK := Lib.hid hK
        have HG := Lib.hid hG
        clear hK hd hb hc e4 e6
        clear hG
        go_simp
        go_at_call 28
        refine ((show JJ _ B C d m (cond b a' a) a wx from HG.out).doc (r := r) (b' := a') (Q := fun e => e = .returned (.int .i64 r)) fun C' R' _ => (rdrop_RD R' HL.out HRR.out).mono fun e w' h => ⟨h.1, rfl, h.2⟩).mono ?_
        rintro e w9 ⟨rfl, J9⟩
        exact HK.out _ J9
      · intro vs b c wx hG hd hb hc K hK
        have e3 : vs 3 = .int .i64 r := hd.get (j := 3) (by simp [depsOf, Region.binds])
        have e7 : vs 7 = .int .i64 r := hd.get (j := 7) (by simp [depsOf, Region.binds])
        replace hK : ∀ w', (fun b c wx => JJ (W.alloc (.cells #[.int .i64 2, .int .i64 n, .slice A1 p.length c1, .slice A2 ks.length c2] 33)) B C d m (cond b a' a) (cond c a' a) wx) b c w' → K _ w' := hK
        simp only [Act.put, List.setIfInBounds_toArray, List.set_cons_zero, List.set_cons_succ, e3, e7] at hK ⊢
        have HK := Lib.hid hK
        have HG := Lib.hid hG
        clear hK hd hb hc e3 e7
        clear hG
        go_simp
        exact HK.out _ HG.out
      · intro vs b c wx hG hd hb hc K hK
        have e8 : vs 8 = .bool true := hd.get (j := 8) (by simp [depsOf, Region.binds])
        replace hK : ∀ w', (fun b c wx => JJ (W.alloc (.cells #[.int .i64 2, .int .i64 n, .slice A1 p.length c1, .slice A2 ks.length c2] 33)) B C d m (cond b a' a) (cond c a' a) wx) b c w' → K _ w' := hK
        simp only [Act.put, List.setIfInBounds_toArray, List.set_cons_zero, List.set_cons_succ, e8] at hK ⊢
        have HK := Lib.hid hK
        have HG := Lib.hid hG
        clear hK hd hb hc e8
        clear hG
        go_simp
        exact HK.out _ HG.out
    case hend =>
      intro vs wx hG hv
      have e9 := hv 9 (by decide)
      replace e9 : vs 9 = .bool true := e9
      rw [e9]
      have HR := Lib.hid (HFin.out wx a' hG)
      clear hG hv e9
      go_wp2_with fail
      go_ret
      exact ⟨rfl, HR.out⟩
end
end Go.Proofs.Ytpckbbjlihhpdaa
