/- A disk's small methods. -/
import Derived.Test.YtpckbbjlihhpdaaDkM
import Derived.Deep.QuietTactic
import Derived.LoopTactic
namespace Go.Proofs.Ytpckbbjlihhpdaa
open Go.RowKit Go.Maps

theorem keyI : Keyed Try.prog 3 := int_keyed Try.underlying3
theorem zeroP (w : World) : (zeroValue 94).run Try.prog w = .ok (.pointer none) w := by kernel_rfl
theorem wf64 {n : Int} (h1 : -9223372036854775808 ≤ n) (h2 : n ≤ 9223372036854775807) : (Lit.int .i64 n).wf = true := by
  simp [Lit.wf, IntKind.min, IntKind.max, IntKind.signed, IntKind.bits]; omega
section
variable {w : World} {K d mb : Nat} {room used fuse : Int} {down : Bool} {M : List Sg}
/-- What the map has at a number. -/
theorem Dk.look (h : Dk w K d mb room used fuse down M) {s : Sg} (hs : s ∈ M) : (Instr.lookup 63 (.map (some mb)) (.int .i64 s.n) false).run Try.prog w = .ok (.pointer (some ⟨s.g, 0, none⟩)) w := by
  have hc := h.sg s hs
  have n1 := hc.n1
  have n2 := hc.n2
  obtain ⟨v, ps, hrun, hv⟩ := h.mp.lookup keyI Try.underlying63 (zeroP w) (zd := .nil) (zp := []) rfl (keyOf_int_mk Try.underlying3 (wf64 (by omega) n2))
  rw [dm_at h.ri hs] at hv
  rw [ptrE_lit hv] at hrun
  exact hrun
theorem Dk.miss (h : Dk w K d mb room used fuse down M) {n : Int} (h1 : -9223372036854775808 ≤ n) (h2 : n ≤ 9223372036854775807) (hn : ∀ t ∈ M, t.n ≠ n) : (Instr.lookup 63 (.map (some mb)) (.int .i64 n) false).run Try.prog w = .ok (.pointer none) w := by
  obtain ⟨v, ps, hrun, hv⟩ := h.mp.lookup keyI Try.underlying63 (zeroP w) (zd := .nil) (zp := []) rfl (keyOf_int_mk Try.underlying3 (wf64 h1 h2))
  rw [dm_not hn] at hv
  rw [ptrE_nil hv] at hrun
  exact hrun
end
abbrev dP (d : Nat) : Value := .pointer (some ⟨d, 0, none⟩)
section
variable (K d mb : Nat) (room used fuse : Int) (down : Bool) (M : List Sg) (w : World)
theorem ready_nil : Calls Try.prog 56 #[.pointer none] w fun e w' => e = .returned (.int .i64 2) ∧ w' = w := by
  go_enter Try.func56, Try.ntmps56
  go_wp2
  go_ret
  exact ⟨rfl, rfl⟩
theorem ready_any (h : Dk w K d mb room used fuse down M) : Calls Try.prog 56 #[dP d] w fun e w' => e = .returned (.int .i64 (if down then 5 else 0)) ∧ w' = w := by
  have c4 := h.c4
  cases down
  · go_enter Try.func56, Try.ntmps56
    go_wp2
    go_ret
    exact ⟨rfl, rfl⟩
  · go_enter Try.func56, Try.ntmps56
    go_wp2
    go_ret
    exact ⟨rfl, rfl⟩
theorem dlook_nil (n : Int) : Calls Try.prog 51 #[.pointer none, .int .i64 n] w fun e w' => e = .returned (.int .i64 2) ∧ w' = w := by
  go_enter Try.func51, Try.ntmps51
  go_wp2_with (go_at_call 56; refine (ready_nil _).mono ?_; rintro e w' ⟨rfl, rfl⟩)
  go_ret
  exact ⟨rfl, rfl⟩
theorem dlook_down (h : Dk w K d mb room used fuse true M) (n : Int) : Calls Try.prog 51 #[dP d, .int .i64 n] w fun e w' => e = .returned (.int .i64 5) ∧ w' = w := by
  go_enter Try.func51, Try.ntmps51
  go_wp2_with (go_at_call 56; refine (ready_any K d mb room used fuse true M _ h).mono ?_; rintro e w' ⟨rfl, rfl⟩)
  go_ret
  exact ⟨rfl, rfl⟩
theorem dlook_none (h : Dk w K d mb room used fuse false M) {n : Int} (h1 : -9223372036854775808 ≤ n) (h2 : n ≤ 9223372036854775807) (hn : ∀ t ∈ M, t.n ≠ n) : Calls Try.prog 51 #[dP d, .int .i64 n] w fun e w' => e = .returned (.int .i64 6) ∧ w' = w := by
  have c2 := h.c2
  have hl := h.miss h1 h2 hn
  have HR := Lib.hid (ready_any K d mb room used fuse false M _ h)
  go_enter Try.func51, Try.ntmps51
  go_wp2_with (go_at_call 56; refine HR.out.mono ?_; rintro e w' ⟨rfl, rfl⟩)
  go_ret
  exact ⟨rfl, rfl⟩
theorem dlook_ok (h : Dk w K d mb room used fuse false M) {s : Sg} (hs : s ∈ M) : Calls Try.prog 51 #[dP d, .int .i64 s.n] w fun e w' => e = .returned (.int .i64 0) ∧ w' = w := by
  have c2 := h.c2
  have hl := h.look hs
  have HR := Lib.hid (ready_any K d mb room used fuse false M _ h)
  go_enter Try.func51, Try.ntmps51
  go_wp2_with (go_at_call 56; refine HR.out.mono ?_; rintro e w' ⟨rfl, rfl⟩)
  go_ret
  exact ⟨rfl, rfl⟩
theorem step_none (h : Dk w K d mb room used 0 down M) : Calls Try.prog 49 #[dP d] w fun e w' => e = .returned (.bool false) ∧ Dk w' K d mb room used 0 true M ∧ Tn (· = d) w w' := by
  have c3 := h.c3
  have c4 := h.c4
  have f4 := h.fr 4
  have HD := Lib.hid h
  clear h
  go_enter Try.func49, Try.ntmps49
  go_wp2
  go_ret
  exact ⟨rfl, HD.out.set4 true, Tn.setCell _ _ _ _⟩
theorem step_free (h : Dk w K d mb room used fuse false M) (hf : fuse < 0) : Calls Try.prog 49 #[dP d] w fun e w' => e = .returned (.bool true) ∧ w' = w := by
  have c3 := h.c3
  have c4 := h.c4
  have h0 : (fuse == (0 : Int)) = false := by simp; omega
  have h1 : ¬ 0 < fuse := by omega
  clear h
  go_enter Try.func49, Try.ntmps49
  go_wp2
  go_ret
  exact ⟨rfl, rfl⟩
theorem step_fuse (h : Dk w K d mb room used fuse false M) (hf : 0 < fuse) (hf2 : fuse ≤ 9223372036854775807) : Calls Try.prog 49 #[dP d] w fun e w' => e = .returned (.bool true) ∧ Dk w' K d mb room used (fuse - 1) false M ∧ Tn (· = d) w w' := by
  have c3 := h.c3
  have c4 := h.c4
  have f3 := h.fr 3
  have h0 : (fuse == (0 : Int)) = false := by simp; omega
  have HD := Lib.hid h
  clear h
  go_enter Try.func49, Try.ntmps49
  go_wp2
  go_ret
  exact ⟨rfl, HD.out.set3 (fuse - 1), Tn.setCell _ _ _ _⟩
end
end Go.Proofs.Ytpckbbjlihhpdaa
