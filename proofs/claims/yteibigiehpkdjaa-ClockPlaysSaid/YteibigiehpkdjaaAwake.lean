/- The contract of the clock: Raise; and the document's first example. -/
import Derived.Test.YteibigiehpkdjaaNow
namespace Go.Proofs.Yteibigiehpkdjaa
open Go.RowKit


set_option maxHeartbeats 1500000 in
theorem raise_yes (b : Nat) (off up mk lw lt v : Int) (w : World) (hk : Clk w b off up mk lw lt) (h1 : up ≤ v) (h2 : v ≤ 4611686018427387904) :
    Calls Try.prog 30 #[.pointer (some ⟨b, 0, none⟩), .int .i64 v] w fun e w' => e = .returned (.int .i64 0) ∧ Only b w w' ∧ Clk w' b off v mk lw lt := by
  have k1 := hk.c1
  have kf := hk.f
  have HK := Lib.hid hk
  clear hk
  go_enter Try.func30, Try.ntmps30
  go_wp2
  go_ret
  have c0 := HK.out.c0
  have c1 := HK.out.c1
  have c2 := HK.out.c2
  have c3 := HK.out.c3
  have c4 := HK.out.c4
  have c5 := HK.out.c5
  refine ⟨rfl, (Only.refl b w).setCell (Or.inl rfl) _, ⟨?_, ?_, ?_, ?_, ?_, ?_, fun i => frS (kf i)⟩⟩
  all_goals (repeat' (first | (with_reducible assumption) | (with_reducible apply cellS) | ((with_reducible refine cellO ?_ ?_); focus (first | (intro hh; simp at hh; done) | (intro hh; simp at hh; omega))) | (with_reducible apply cellN) | (with_reducible apply keptA) | (with_reducible apply isS) | (with_reducible apply isN) | (with_reducible apply isA) | (with_reducible apply isOf; with_reducible assumption)))

set_option maxHeartbeats 1500000 in
theorem raise_no (b : Nat) (off up mk lw lt v : Int) (w : World) (hk : Clk w b off up mk lw lt) (h : v < up ∨ 4611686018427387904 < v) :
    Calls Try.prog 30 #[.pointer (some ⟨b, 0, none⟩), .int .i64 v] w fun e w' => e = .returned (.int .i64 1) ∧ w = w' := by
  have k1 := hk.c1
  have H := Lib.hid h
  clear hk h
  go_enter Try.func30, Try.ntmps30
  go_wp2
  all_goals first
    | (go_ret; exact ⟨rfl, rfl⟩)
    | (exfalso; have := H.out; omega)

theorem ex1 : gvE 0 5 0 4294967295 = 22 := by decide
theorem ex2 : gvA 0 5 0 4294967295 = 0 := by decide
theorem ex3 : gvB 0 5 0 4294967295 = 0 := by decide
theorem ex4 : gvM 0 3 5 0 4294967295 = 0 := by decide
theorem ex5 : gvW 0 5 0 4294967295 0 = 0 := by decide
theorem ex6 : gvT 0 5 0 4294967295 4294967295 = 4294967295 := by decide
theorem ey1 : gvE 100 5 0 4294967295 = 0 := by decide
theorem ey2 : gvA 100 5 0 4294967295 = 5 := by decide
theorem ey3 : gvB 100 5 0 4294967295 = 0 := by decide
theorem ey4 : gvM 100 3 5 0 4294967295 = 3 := by decide

set_option maxHeartbeats 1500000 in
theorem awake_any (w : World) :
    Calls Try.prog 23 #[] w fun e w' => e = .returned (.bool true) ∧ Below w.heap.size w w' := by
  go_enter Try.func23, Try.ntmps23
  go_wp2_with fail
  refine (new_yes 10 0 3 (by decide) _).mono ?_
  rintro e w1 ⟨b, rfl, hbs, hB1, hk1⟩
  have hl1 := hk1.lt
  have HK1 := Lib.hid hk1
  have Hs := Lib.hid hbs
  have HB1 := Lib.hid hB1
  clear hk1 hbs hB1
  go_wp2_with fail
  refine (now_any b 10 0 3 0 4294967295 5 (by decide) (by decide) _ HK1.out (by decide)).mono ?_
  rintro e w2 ⟨rfl, ho2, hk2⟩
  rw [ex5, ex6] at hk2
  rw [ex1, ex2, ex3, ex4]
  have HO2 := Lib.hid ho2
  have hl2 := ho2.size
  have HK2 := Lib.hid (hk2.below ((Below.refl w2.heap.size w2).alloc (Nat.le_refl _) (.cells #[.int .i64 0, .int .u32 0, .int .u32 0] 26)))
  clear ho2 hk2
  go_wp2_with fail
  refine (raise_yes b 10 0 3 0 4294967295 100 _ HK2.out (by decide) (by decide)).mono ?_
  rintro e w3 ⟨rfl, ho3, hk3⟩
  have HO3 := Lib.hid ho3
  have HK3 := Lib.hid hk3
  have hl3 := ho3.size
  clear ho3 hk3
  go_wp2_with fail
  refine (now_any b 10 100 3 0 4294967295 5 (by decide) (by decide) _ HK3.out (by decide)).mono ?_
  rintro e w4 ⟨rfl, ho4, hk4⟩
  rw [ey1, ey2, ey3, ey4]
  have HO4 := Lib.hid ho4
  clear ho4 hk4
  go_wp2
  go_ret
  refine ⟨rfl, ?_⟩
  have hb := Hs.out
  have o2 := (((HO2.out.alloc _).trans HO3.out).trans HO4.out).alloc (.cells #[.int .i64 5, .int .u32 0, .int .u32 3] 26)
  exact (HB1.out.trans (o2.below hb (HB1.out.size)))

end Go.Proofs.Yteibigiehpkdjaa
