/- What a nil control answers; the document's example; ViewNil's walk. -/
import Derived.Test.YtcgkbpjfbahleaaVw4
import Derived.Test.YtcgkbpjfbahleaaOk0
namespace Go.Proofs.Ytcgkbpjfbahleaa
open Go.RowKit Go.BigFrame

set_option maxHeartbeats 800000 in
theorem change_nil (p : Int) (A : Option Addr) (n cp : Nat) (w : World) : Calls Try.prog 10 #[.pointer none, .int .i64 p, .slice A n cp] w (ChNo w 2) := by
  go_enter Try.func10, Try.ntmps10
  go_wp2_with fail
  exact bodyPost_ret (v := .tuple #[.agg #[.int .i64 0, .int .i64 0, .slice none 0 0], .int .i64 2]) (by simp [results, Try.results10, go_sem]) rfl ⟨rfl, by go_grown⟩
theorem active_nil (n : Int) (w : World) : Calls Try.prog 15 #[.pointer none, .int .i64 n] w fun e w' => e = .returned (.int .i64 2) ∧ w = w' := by
  go_enter Try.func15, Try.ntmps15
  go_wp2_with fail
  go_ret
  exact ⟨rfl, rfl⟩
theorem now_nil (w : World) : Calls Try.prog 16 #[.pointer none] w fun e w' => e = .returned (.agg #[.int .i64 0, .int .i64 0, .slice none 0 0]) ∧ Below w.heap.size w w' := by
  go_enter Try.func16, Try.ntmps16
  go_wp2_with fail
  exact bodyPost_ret (v := .agg #[.int .i64 0, .int .i64 0, .slice none 0 0]) (by simp [results, Try.results16, go_sem]) rfl ⟨rfl, by go_grown⟩
theorem safe_nil (w : World) : Calls Try.prog 18 #[.pointer none] w fun e w' => e = .returned (.slice none 0 0) ∧ w = w' := by
  go_enter Try.func18, Try.ntmps18
  go_wp2_with fail
  go_ret
  exact ⟨rfl, rfl⟩

set_option maxRecDepth 100000 in
set_option maxHeartbeats 1600000 in
theorem awake_any (w : World) : Calls Try.prog 9 #[] w (Ok0 w) := by
  have s0 : ∀ W, So encI 1 (World.alloc W (.cells #[.int .i64 0, .int .i64 1, .int .i64 2] 3)) W.heap.size 3 (.slice (some ⟨W.heap.size, 0, none⟩) 3 3) [0, 1, 2] := fun W => lit_so W _ _ _ rfl (Nat.le_refl _) _ 3 _ encI_len rfl rfl (by decide)
  have s1 : ∀ W H, W.heap.size = H → So encI 1 (World.alloc W (.cells #[.int .i64 1, .int .i64 3] 3)) H 3 (.slice (some ⟨H, 0, none⟩) 2 2) [1, 3] := fun W H hH => lit_so W _ _ H hH (Nat.le_refl _) _ 2 _ encI_len rfl rfl (by decide)
  have H0 := Lib.hid s0
  have H1 := Lib.hid s1
  clear s0 s1
  go_enter Try.func9, Try.ntmps9
  go_wp2_with fail
  go_at_call 7
  refine (new_ok_any _ ⟨w.heap.size, 0, none⟩ 3 [0, 1, 2] 0 _ ((H0.out w).sr encI_len).1 (Nat.le_refl _) (by decide) rfl).mono ?_
  rintro e w1 ⟨b, rfl, h, g, mc, sc, x1, k1, b1⟩
  have HB1 : Hid (Below w.heap.size w w1) := Lib.hid (((Below.refl _ _).alloc (Nat.le_refl _) _).trans (b1.mono (by simp)))
  have HX := Lib.hid x1
  have HK := Lib.hid k1
  have hlt1 := x1.lt
  have hz1 := HB1.out.size
  clear x1 k1 b1
  go_wp2_with fail
  go_at_call 10
  refine (change_yes (HX.out.below ((Below.refl _ _).alloc (Nat.le_refl _) _)) ((H1.out w1 w1.heap.size rfl).sr encI_len).1 (Nat.le_refl _) (fun _ ad e => by cases e; exact ⟨by show w1.heap.size ≠ b; omega, by show w1.heap.size ≠ g; omega⟩) (by decide) (by decide) (by decide) (by decide)).mono ?_
  rintro e w2 ⟨h2, mc2, A2, c2, K2, rfl, x2, kh2, kk2, hk2, so2, t2⟩
  have HB2 : Hid (Below w.heap.size w w2) := Lib.hid ((HB1.out.alloc HB1.out.size _).trans (t2.below (Nat.le_trans HB1.out.size (by simp)) (fun k _ e => by have h9 := HK.out; simp at h9; rcases e with rfl | rfl <;> omega)))
  have hf : ([0, 1, 2] : List Int).filter (fun n => hasB [1, 3] n) = [1] := by decide
  have HX2 : Hid (Ct w2 b h2 g mc2 sc ⟨2, 1, [1, 3], [1]⟩) := Lib.hid (by have x9 := x2; rw [hf] at x9; exact x9)
  clear hf
  have hlt2 := x2.lt
  have hz2 := HB2.out.size
  clear x2 so2 t2
  go_wp2_with fail
  go_at_call 10
  refine (change_no (r := 111) (c' := ⟨2, 1, [1, 3], [1]⟩) (p := 3) (HX2.out.below (by go_grown)) ((H1.out (w2.alloc _) (w2.heap.size + 1) (by simp)).sr encI_len).1 (Nat.le_refl _) (by unfold chV; rw [if_neg (by decide), if_pos (by decide)]) (by decide)).mono ?_
  rintro e w4 ⟨rfl, b4⟩
  have HB4 : Hid (Below w2.heap.size w2 w4) := Lib.hid ((show Below w2.heap.size w2 _ by go_grown).trans (b4.mono (by simp; omega)))
  have y4 := kept b4 (p := ⟨w2.heap.size, 0, none⟩) (v := .int .i64 2) (by simp [go_sem])
  have hz4 : w2.heap.size < w4.heap.size := by have := b4.size; simp at this; omega
  have HBE : Hid (Below w.heap.size w w4) := Lib.hid (HB2.out.trans (HB4.out.mono hz2))
  clear b4
  go_wp2_with fail
  go_ret
  exact ⟨rfl, (HBE.out.alloc HBE.out.size _)⟩
end Go.Proofs.Ytcgkbpjfbahleaa
