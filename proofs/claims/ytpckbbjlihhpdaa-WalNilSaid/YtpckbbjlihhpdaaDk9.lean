/- A disk's Used, Down, Segs, Fuse; what a nil disk answers. -/
import Derived.Test.YtpckbbjlihhpdaaDk6
namespace Go.Proofs.Ytpckbbjlihhpdaa
open Go.RowKit Go.Maps Go.BigFrame

section
variable {K d mb : Nat} {room used fuse : Int} {down : Bool} {M : List Sg} {w : World} {n : Int}
theorem used_nil : Calls Try.prog 32 #[.pointer none] w fun e w' => e = .returned (.int .i64 0) ∧ w' = w := by
  go_enter Try.func32, Try.ntmps32
  go_wp2
  go_ret
  exact ⟨rfl, rfl⟩
theorem used_any (h : Dk w K d mb room used fuse down M) : Calls Try.prog 32 #[dP d] w fun e w' => e = .returned (.int .i64 used) ∧ w' = w := by
  have c1 := h.c1
  clear h
  go_enter Try.func32, Try.ntmps32
  go_wp2
  go_ret
  exact ⟨rfl, rfl⟩
theorem down_nil : Calls Try.prog 31 #[.pointer none] w fun e w' => e = .returned (.bool false) ∧ w' = w := by
  go_enter Try.func31, Try.ntmps31
  go_wp2
  go_ret
  exact ⟨rfl, rfl⟩
theorem down_any (h : Dk w K d mb room used fuse down M) : Calls Try.prog 31 #[dP d] w fun e w' => e = .returned (.bool down) ∧ w' = w := by
  have c4 := h.c4
  clear h
  go_enter Try.func31, Try.ntmps31
  go_wp2
  go_ret
  exact ⟨rfl, rfl⟩
theorem segs_nil : Calls Try.prog 34 #[.pointer none] w fun e w' => e = .returned (.tuple #[.slice none 0 0, .int .i64 2]) ∧ w' = w := by
  go_enter Try.func34, Try.ntmps34
  go_wp2_with (go_at_call 56; refine (ready_nil _).mono ?_; rintro e w' ⟨rfl, rfl⟩)
  refine bodyPost_ret (v := .tuple #[.slice none 0 0, .int .i64 2]) (by simp [results, Try.results34, go_sem]) rfl ⟨rfl, rfl⟩
theorem segs_down (h : Dk w K d mb room used fuse true M) : Calls Try.prog 34 #[dP d] w fun e w' => e = .returned (.tuple #[.slice none 0 0, .int .i64 5]) ∧ w' = w := by
  go_enter Try.func34, Try.ntmps34
  go_wp2_with (go_at_call 56; refine (ready_any K d mb room used fuse true M _ h).mono ?_; rintro e w' ⟨rfl, rfl⟩)
  refine bodyPost_ret (v := .tuple #[.slice none 0 0, .int .i64 5]) (by simp [results, Try.results34, go_sem]) rfl ⟨rfl, rfl⟩
theorem segs_ok (h : Dk w K d mb room used fuse false M) (hM : M.length ≤ 1024) : Calls Try.prog 34 #[dP d] w fun e w' => ∃ v, e = .returned (.tuple #[v, .int .i64 0]) ∧ So encI 1 w' w.heap.size 3 v (M.map Sg.n) ∧ Below w.heap.size w w' := by
  have HN := Lib.hid (numbers_any K d mb room used fuse false M w h hM)
  have HR := Lib.hid (ready_any K d mb room used fuse false M w h)
  clear h
  go_enter Try.func34, Try.ntmps34
  go_wp2_with (first
    | (go_at_call 56; refine HR.out.mono ?_; rintro e w' ⟨rfl, rfl⟩)
    | (go_at_call 53; refine HN.out.mono ?_; rintro e w1 ⟨v, rfl, so, b1⟩))
  refine bodyPost_ret (v := .tuple #[v, .int .i64 0]) (by simp [results, Try.results34, go_sem]) rfl ⟨v, rfl, so, b1⟩
theorem fuse_nil : Calls Try.prog 29 #[.pointer none, .int .i64 n] w fun e w' => e = .returned (.int .i64 2) ∧ w' = w := by
  go_enter Try.func29, Try.ntmps29
  go_wp2_with (go_at_call 56; refine (ready_nil _).mono ?_; rintro e w' ⟨rfl, rfl⟩)
  go_ret
  exact ⟨rfl, rfl⟩
theorem fuse_down (h : Dk w K d mb room used fuse true M) : Calls Try.prog 29 #[dP d, .int .i64 n] w fun e w' => e = .returned (.int .i64 5) ∧ w' = w := by
  go_enter Try.func29, Try.ntmps29
  go_wp2_with (go_at_call 56; refine (ready_any K d mb room used fuse true M _ h).mono ?_; rintro e w' ⟨rfl, rfl⟩)
  go_ret
  exact ⟨rfl, rfl⟩
theorem fuse_ok (h : Dk w K d mb room used fuse false M) : Calls Try.prog 29 #[dP d, .int .i64 n] w fun e w' => e = .returned (.int .i64 0) ∧ Dk w' K d mb room used (max n (-1)) false M ∧ Tn (· = d) w w' := by
  have c3 := h.c3
  have f3 := h.fr 3
  have HR := Lib.hid (ready_any K d mb room used fuse false M w h)
  have HD := Lib.hid h
  clear h
  go_enter Try.func29, Try.ntmps29
  go_wp2_with (go_at_call 56; refine HR.out.mono ?_; rintro e w' ⟨rfl, rfl⟩)
  go_ret
  exact ⟨rfl, HD.out.set3 _, Tn.setCell _ _ _ _⟩
theorem crash_nil (A : Option Addr) (m c : Nat) : Calls Try.prog 24 #[.pointer none, .slice A m c] w fun e w' => e = .returned (.int .i64 2) ∧ w' = w := by
  go_enter Try.func24, Try.ntmps24
  go_wp2
  go_ret
  exact ⟨rfl, rfl⟩
end
end Go.Proofs.Ytpckbbjlihhpdaa
