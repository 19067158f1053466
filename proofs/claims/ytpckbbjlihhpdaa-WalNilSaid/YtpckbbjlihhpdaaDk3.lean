/- A disk's Append. -/
import Derived.Test.YtpckbbjlihhpdaaDk2
import Derived.BigQuiet
namespace Go.Proofs.Ytpckbbjlihhpdaa
open Go.RowKit Go.Maps Go.BigFrame

theorem wrap_in {x : Int} (h1 : -9223372036854775808 ≤ x) (h2 : x ≤ 9223372036854775807) : IntKind.i64.wrap x = x := by
  simp [IntKind.wrap, IntKind.signed, IntKind.bits]
  omega
theorem below_drewN (B : Nat) (w : World) (n : Nat) : Below B w (w.drewN n) := ⟨rfl, rfl, rfl, Nat.le_refl _, fun _ _ => rfl⟩
section
variable {K d mb : Nat} {room used fuse : Int} {down : Bool} {M : List Sg} {w : World} {n : Int} {A : Option Addr} {m c : Nat}
theorem dapp_nil : Calls Try.prog 22 #[.pointer none, .int .i64 n, .slice A m c] w fun e w' => e = .returned (.int .i64 2) ∧ w' = w := by
  go_enter Try.func22, Try.ntmps22
  go_wp2
  go_ret
  exact ⟨rfl, rfl⟩
theorem dapp_down (h : Dk w K d mb room used fuse true M) : Calls Try.prog 22 #[dP d, .int .i64 n, .slice A m c] w fun e w' => e = .returned (.int .i64 5) ∧ w' = w := by
  have c4 := h.c4
  clear h
  go_enter Try.func22, Try.ntmps22
  go_wp2
  go_ret
  exact ⟨rfl, rfl⟩
theorem dapp_arg (h : Dk w K d mb room used fuse false M) (hn : n < 1) : Calls Try.prog 22 #[dP d, .int .i64 n, .slice A m c] w fun e w' => e = .returned (.int .i64 1) ∧ w' = w := by
  have c4 := h.c4
  clear h
  go_enter Try.func22, Try.ntmps22
  go_wp2
  go_ret
  exact ⟨rfl, rfl⟩
theorem Dk.lenM (h : Dk w K d mb room used fuse down M) (ty : TypeId) : (Builtin.len_ #[63] ty #[.map (some mb)]).run Try.prog w = .ok (.int .i64 (M.length : Int)) w := by
  have := h.mp.len Try.underlying63 ty
  rwa [dm_size] at this
set_option maxRecDepth 100000 in
set_option maxHeartbeats 1600000 in
theorem dapp_big (h : Dk w K d mb room used fuse false M) (hn : 1 ≤ n) (hu : 0 ≤ used) (hr : used ≤ room) (hr2 : room ≤ 67108864) (hm : room - used < m) : Calls Try.prog 22 #[dP d, .int .i64 n, .slice A m c] w fun e w' => e = .returned (.int .i64 4) ∧ Below w.heap.size w w' := by
  have c0 := h.c0
  have c1 := h.c1
  have c4 := h.c4
  have h1 : ¬ n < 1 := by omega
  have h2 : decide (room - used < (m : Int)) = true := by simp; omega
  clear h
  go_enter Try.func22, Try.ntmps22
  go_wp2_with fail
  go_big_quiet (fail)
  go_wp2
  go_ret
  exact ⟨rfl, below_drewN _ _ _⟩
set_option maxRecDepth 100000 in
set_option maxHeartbeats 1600000 in
theorem dapp_many (h : Dk w K d mb room used fuse false M) (hn : 1 ≤ n) (hn2 : n ≤ 9223372036854775807) (hu : 0 ≤ used) (hr : used ≤ room) (hr2 : room ≤ 67108864) (hm : m ≤ room - used) (hno : ∀ t ∈ M, t.n ≠ n) (hM : 1024 ≤ M.length) (hM2 : M.length ≤ 1024) : Calls Try.prog 22 #[dP d, .int .i64 n, .slice A m c] w fun e w' => e = .returned (.int .i64 4) ∧ Below w.heap.size w w' := by
  have c0 := h.c0
  have c1 := h.c1
  have c2 := h.c2
  have c4 := h.c4
  have h1 : ¬ n < 1 := by omega
  have h2 : decide (room - used < (m : Int)) = false := by simp; omega
  have hl := fun k => (h.drewN k).miss (n := n) (by omega) hn2 hno
  have hL := fun k ty => (h.drewN k).lenM ty
  have h3 : decide ((1024 : Int) ≤ (M.length : Int)) = true := by simp; omega
  clear h hno
  go_enter Try.func22, Try.ntmps22
  go_wp2_with fail
  go_big_quiet (fail)
  go_wp2
  go_ret
  exact ⟨rfl, below_drewN _ _ _⟩
/-- Is there room? -/
def fits (M : List Sg) (n : Int) : Prop := (∃ s ∈ M, s.n = n) ∨ ((∀ t ∈ M, t.n ≠ n) ∧ M.length < 1024)
set_option maxRecDepth 100000 in
set_option maxHeartbeats 1600000 in
theorem dapp_dead (h : Dk w K d mb room used 0 false M) (hn : 1 ≤ n) (hn2 : n ≤ 9223372036854775807) (hu : 0 ≤ used) (hr : used ≤ room) (hr2 : room ≤ 67108864) (hm : m ≤ room - used) (hf : fits M n) : Calls Try.prog 22 #[dP d, .int .i64 n, .slice A m c] w fun e w' => e = .returned (.int .i64 5) ∧ Dk w' K d mb room used 0 true M ∧ Tn (· = d) w w' := by
  have c0 := h.c0
  have c1 := h.c1
  have c2 := h.c2
  have c4 := h.c4
  have h1 : ¬ n < 1 := by omega
  have h2 : decide (room - used < (m : Int)) = false := by simp; omega
  have HD := Lib.hid h
  rcases hf with ⟨s, hs, rfl⟩ | ⟨hno, hM⟩
  · have hl := fun k => (h.drewN k).look hs
    clear h
    go_enter Try.func22, Try.ntmps22
    go_wp2_with fail
    go_big_quiet (fail)
    go_wp2_with (go_at_call 49; refine (step_none K d mb room used false M _ (HD.out.drewN _)).mono ?_; rintro e w' ⟨rfl, D1, T1⟩)
    go_ret
    exact ⟨rfl, D1, (Tn.ofNew (P := (· = d)) (below_drewN _ _ _)).then T1⟩
  · have hl := fun k => (h.drewN k).miss (n := n) (by omega) hn2 hno
    have hL := fun k ty => (h.drewN k).lenM ty
    have h3 : decide ((1024 : Int) ≤ (M.length : Int)) = false := by simp; omega
    clear h hno
    go_enter Try.func22, Try.ntmps22
    go_wp2_with fail
    go_big_quiet (fail)
    go_wp2_with (go_at_call 49; refine (step_none K d mb room used false M _ (HD.out.drewN _)).mono ?_; rintro e w' ⟨rfl, D1, T1⟩)
    go_ret
    exact ⟨rfl, D1, (Tn.ofNew (P := (· = d)) (below_drewN _ _ _)).then T1⟩
end
end Go.Proofs.Ytpckbbjlihhpdaa
