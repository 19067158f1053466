/- The document's New; the law's Does for a fuse, and for no step. -/
import Derived.Test.YtpckbbjlihhpdaaRdW
namespace Go.Proofs.Ytpckbbjlihhpdaa
open Go.RowKit Go.BigFrame

theorem rnew_RD (x : Int) (w : World) : Calls Try.prog 9 #[.int .i64 x] w fun e w' => e = .returned (rP w.heap.size) ∧ (∃ C, RD w' C w.heap.size ⟨x, -1, false, []⟩ ∧ ∀ k, C k → w.heap.size ≤ k) ∧ Below w.heap.size w w' := by
  have HR : Hid (RK (w.alloc (.cells #[.int .i64 x, .slice none 0 0, .int .i64 (-1), .bool false] 68)) w.heap.size x (-1) false none 0 []) := Lib.hid ⟨by simp [go_sem], by simp [go_sem], by simp [go_sem], by simp [go_sem], fun j => by simp [go_sem], So.empty _ _ _ _ _, by simp [Value.ownBlock], (fun _ h => by cases h), fun _ h => by cases h⟩
  go_enter Try.func9, Try.ntmps9
  go_wp2
  go_ret
  exact ⟨rfl, ⟨fK w.heap.size none 0 [], ⟨⟨_, _, _, HR.out, rfl, fun _ h => h⟩, fun _ h => HR.out.lt h⟩, fun k hk => by
    rcases hk with rfl | hk | ⟨q, hq, _⟩
    · exact Nat.le_refl _
    · simp [Value.ownBlock] at hk
    · cases hq⟩, (Below.refl _ _).alloc (Nat.le_refl _) _⟩
section
variable {w W wx : World} {B C : Nat → Prop} {d m : Nat} {a b : Ad}
theorem RD.setF (h : RD wx C m b) (x : Int) : RD (wx.setCell ⟨m, 2, none⟩ (.int .i64 x)) C m ⟨b.room, x, b.down, b.L⟩ := by
  obtain ⟨A, cap, qs, D, e, hb⟩ := h.ex
  exact ⟨⟨A, cap, qs, D.setF x, e, hb⟩, fun k hk => Nat.lt_of_lt_of_le (h.bt k hk) (Tn.setCell wx m 2 (.int .i64 x)).size⟩
theorem RD.mem (h : RD wx C m b) : C m := by
  obtain ⟨A, cap, qs, _, _, hb⟩ := h.ex
  exact hb m (.inl rfl)
theorem RD.cells (h : RD wx C m b) : wx.cell? ⟨m, 2, none⟩ = some (.int .i64 b.fuse) ∧ wx.cell? ⟨m, 3, none⟩ = some (.bool b.down) ∧ ∀ j, wx.frozen? ⟨m, j, none⟩ = false := by
  obtain ⟨A, cap, qs, D, _, _⟩ := h.ex
  exact ⟨D.c2, D.c3, D.fr⟩
theorem JJ.setF (J : JJ W B C d m a b wx) (x : Int) : JJ W B C d m a ⟨b.room, x, b.down, b.L⟩ (wx.setCell ⟨m, 2, none⟩ (.int .i64 x)) := by
  obtain ⟨B', C', D, R, h1, h2, h3⟩ := J.ex
  have t := Tn.setCell wx m 2 (.int .i64 x)
  have hs := J.tn.size
  exact ⟨⟨B', C', D.tn t fun k hk e => h3 k hk (e ▸ R.mem), R.setF x, h1, h2, h3⟩, J.tn.thenQ t fun k hk e => (h2 k (by have h9 : k = m := e; rw [h9]; exact R.mem)).elim .inr fun h => absurd hk (by omega)⟩
set_option maxRecDepth 100000 in
set_option maxHeartbeats 6400000 in
theorem does_none {k n : Int} {p : List UInt8} {ks : List Int} {A1 A2 : Option Addr} {c1 c2 : Nat} (k0 : (k == 0) = false) (k1 : (k == 1) = false) (k2 : (k == 2) = false) (k3 : (k == 3) = false) (k4 : (k == 4) = false) (D : DD W B d a) (R : RD W C m a) (hB : ∀ k, B k → w.heap.size ≤ k) (hC : ∀ k, C k → w.heap.size ≤ k) (hBC : ∀ k, B k → ¬ C k) (hbl : Below w.heap.size w W) :
    Calls Try.prog 10 #[dP d, rP m, .agg #[.int .i64 k, .int .i64 n, .slice A1 p.length c1, .slice A2 ks.length c2]] W fun e w' => e = .returned (.bool true) ∧ Dz w d m w' := by
  have HJ : Hid (JJ (W.alloc (.cells #[.int .i64 k, .int .i64 n, .slice A1 p.length c1, .slice A2 ks.length c2] 33)) B C d m a a _) := Lib.hid (JJ.start (D.alloc _) (R.below ((Below.refl _ _).alloc (Nat.le_refl _) _)) hBC)
  have HFin : Hid (∀ wx a', JJ (W.alloc (.cells #[.int .i64 k, .int .i64 n, .slice A1 p.length c1, .slice A2 ks.length c2] 33)) B C d m a' a' wx → Dz w d m wx) := Lib.hid fun wx a' J => J.fin (hbl.alloc hbl.size _) hB hC
  clear D R hB hC hBC
  go_enter Try.func10, Try.ntmps10
  go_wp2_with fail
  go_ret
  exact ⟨rfl, HFin.out _ _ HJ.out⟩
set_option maxRecDepth 100000 in
set_option maxHeartbeats 6400000 in
theorem does_3 {n : Int} {p : List UInt8} {ks : List Int} {A1 A2 : Option Addr} {c1 c2 : Nat} (n2 : n ≤ 9223372036854775807) (D : DD W B d a) (R : RD W C m a) (hB : ∀ k, B k → w.heap.size ≤ k) (hC : ∀ k, C k → w.heap.size ≤ k) (hBC : ∀ k, B k → ¬ C k) (hbl : Below w.heap.size w W) :
    Calls Try.prog 10 #[dP d, rP m, .agg #[.int .i64 3, .int .i64 n, .slice A1 p.length c1, .slice A2 ks.length c2]] W fun e w' => e = .returned (.bool true) ∧ Dz w d m w' := by
  have HJ : Hid (JJ (W.alloc (.cells #[.int .i64 3, .int .i64 n, .slice A1 p.length c1, .slice A2 ks.length c2] 33)) B C d m a a _) := Lib.hid (JJ.start (D.alloc _) (R.below ((Below.refl _ _).alloc (Nat.le_refl _) _)) hBC)
  have HFin : Hid (∀ wx a', JJ (W.alloc (.cells #[.int .i64 3, .int .i64 n, .slice A1 p.length c1, .slice A2 ks.length c2] 33)) B C d m a' a' wx → Dz w d m wx) := Lib.hid fun wx a' J => J.fin (hbl.alloc hbl.size _) hB hC
  have R1 := R.below ((Below.refl W.heap.size W).alloc (Nat.le_refl _) (.cells #[.int .i64 3, .int .i64 n, .slice A1 p.length c1, .slice A2 ks.length c2] 33))
  obtain ⟨y2, y3, yf⟩ := R1.cells
  have yf2 := yf 2
  have hmw : m < W.heap.size := R.bt m R.mem
  have hne : m ≠ W.heap.size := by omega
  clear yf R1 D R hB hC hBC hmw
  cases hd : a.down with
  | true =>
    rw [hd] at y3
    have HP : Hid (fuseD a n = (5, a)) := Lib.hid (by unfold fuseD; rw [if_pos hd])
    clear hd
    go_enter Try.func10, Try.ntmps10
    go_wp2_with fail
    go_at_call 29
    refine (HJ.out.prog (r := 5) (a' := a) fun B' D' _ => fuse_DD D' n2 HP.out).mono ?_
    rintro e w9 ⟨rfl, J9⟩
    have HR := Lib.hid (HFin.out _ _ J9)
    clear J9
    go_wp2_with fail
    go_ret
    exact ⟨rfl, HR.out⟩
  | false =>
    rw [hd] at y3
    have HP : Hid (fuseD a n = (0, ⟨a.room, max n (-1), false, a.L⟩)) := Lib.hid (by unfold fuseD; rw [if_neg (by rw [hd]; decide)])
    have HD := Lib.hid hd
    clear hd
    go_enter Try.func10, Try.ntmps10
    go_wp2_with fail
    have J2 := HJ.out.setF (max n (-1))
    go_at_call 29
    refine (J2.prog (r := 0) (a' := ⟨a.room, max n (-1), false, a.L⟩) fun B' D' _ => fuse_DD D' n2 HP.out).mono ?_
    rintro e w9 ⟨rfl, J9⟩
    rw [HD.out] at J9
    have HR := Lib.hid (HFin.out _ _ J9)
    clear J9 J2
    go_wp2_with fail
    go_ret
    exact ⟨rfl, HR.out⟩
end
end Go.Proofs.Ytpckbbjlihhpdaa
