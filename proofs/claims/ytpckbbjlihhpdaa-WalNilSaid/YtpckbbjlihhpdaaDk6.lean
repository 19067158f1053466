/- A disk's tear. -/
import Derived.Test.YtpckbbjlihhpdaaDk5
namespace Go.Proofs.Ytpckbbjlihhpdaa
open Go.RowKit Go.Maps Go.BigFrame

section
variable {K d mb : Nat} {room used fuse : Int} {down : Bool} {M : List Sg} {w : World} {n : Int}
set_option maxRecDepth 100000 in
set_option maxHeartbeats 3200000 in
theorem tear_keep (h : Dk w K d mb room used fuse down M) {s : Sg} (hs : s ∈ M) (more : Int) (hq : ((s.b.length : Int) - s.l) ≤ max more 0) (hk : s.k = true ∨ 0 < s.b.length) (hlen : s.b.length ≤ 67108864) :
    Calls Try.prog 54 #[dP d, .int .i64 s.n, .int .i64 more] w fun e w' => e = .returned (.tuple #[]) ∧ Dk w' K d mb room used fuse down (upd M (settled s)) ∧ Tn (blD d mb M) w w' ∧ ∀ k, blD d mb (upd M (settled s)) k → blD d mb M k ∨ w.heap.size ≤ k := by
  obtain ⟨sA, sc, hsv⟩ := h.formS hs
  have c2 := h.c2
  have hl := h.look hs
  have k0 := (h.sg s hs).c0
  have k1 := (h.sg s hs).c1
  have k2 := (h.sg s hs).c2
  have hle := (h.sg s hs).le
  rw [hsv] at k0
  have HD := Lib.hid h
  clear h
  have hd : decide (min (max more 0) ((s.b.length : Int) - s.l) < (s.b.length : Int) - s.l) = false := by simp; omega
  have fin : ∀ nq : Nat, Dk (((w.drewN nq).setCell ⟨s.g, 1, none⟩ (.int .i64 (s.b.length : Int))).setCell ⟨s.g, 2, none⟩ (.bool true)) K d mb room used fuse down (upd M (settled s)) ∧ Tn (blD d mb M) w (((w.drewN nq).setCell ⟨s.g, 1, none⟩ (.int .i64 (s.b.length : Int))).setCell ⟨s.g, 2, none⟩ (.bool true)) ∧ ∀ k, blD d mb (upd M (settled s)) k → blD d mb M k ∨ w.heap.size ≤ k := fun nq => by
    obtain ⟨D2, T2, B2⟩ := (HD.out.drewN nq).settleS hs rfl
    exact ⟨D2, (Tn.ofNew (P := blD d mb M) (below_drewN _ _ _)).thenQ T2 (fun k _ e => .inr (.inr ⟨s, hs, e⟩)), B2⟩
  have HF := Lib.hid fin
  clear fin hq
  cases hkk : s.k
  · have hp : 0 < s.b.length := by
      rcases hk with e | e
      · rw [hkk] at e; cases e
      · exact e
    have h0 : ((s.b.length : Int) == (0 : Int)) = false := by rw [beq_eq_false_iff_ne]; omega
    rw [hkk] at k2
    clear hk hkk
    go_enter Try.func54, Try.ntmps54
    go_wp2_with fail
    go_big_quiet (fail)
    clear hl
    go_wp2_with (go_at_call 52; go_loud (refine (settle_any s.g sA s.b.length sc (w.drewN nq) k0 (fun o => ((HD.out.drewN nq).sg s hs).fr o) _ _ k1 k2).mono ?_; rintro e w2 ⟨rfl, rfl⟩))
    go_end0
    obtain ⟨a, b, c⟩ := HF.out nq
    exact ⟨rfl, a, b, c⟩
  · rw [hkk] at k2
    clear hk hkk
    go_enter Try.func54, Try.ntmps54
    go_wp2_with fail
    go_big_quiet (fail)
    clear hl
    go_wp2_with (go_at_call 52; go_loud (refine (settle_any s.g sA s.b.length sc (w.drewN nq) k0 (fun o => ((HD.out.drewN nq).sg s hs).fr o) _ _ k1 k2).mono ?_; rintro e w2 ⟨rfl, rfl⟩))
    go_end0
    obtain ⟨a, b, c⟩ := HF.out nq
    exact ⟨rfl, a, b, c⟩

set_option maxRecDepth 100000 in
set_option maxHeartbeats 3200000 in
theorem tear_drop (h : Dk w K d mb room used fuse down M) {s : Sg} (hs : s ∈ M) (more : Int) (hk : s.k = false) (hb : s.b = []) :
    Calls Try.prog 54 #[dP d, .int .i64 s.n, .int .i64 more] w fun e w' => e = .returned (.tuple #[]) ∧ Dk w' K d mb room used fuse down (M.filter fun t => !decide (t.n = s.n)) ∧ Tn (blD d mb M) w w' ∧ ∀ k, blD d mb (M.filter fun t => !decide (t.n = s.n)) k → blD d mb M k := by
  obtain ⟨sA, sc, hsv⟩ := h.formS hs
  have c2 := h.c2
  have hl := h.look hs
  have k0 := (h.sg s hs).c0
  have k1 := (h.sg s hs).c1
  have k2 := (h.sg s hs).c2
  have hle := (h.sg s hs).le
  have n1 := (h.sg s hs).n1
  have n2 := (h.sg s hs).n2
  have hl0 : s.l = 0 := by rw [hb] at hle; simpa using hle
  rw [hsv, hb] at k0
  rw [hl0] at k1
  rw [hk] at k2
  simp only [List.length_nil] at k0
  have hm0 : decide (min (max more 0) (0 : Int) < 0) = false := by simp; omega
  have HD := Lib.hid h
  clear h hle
  go_enter Try.func54, Try.ntmps54
  go_wp2_with fail
  go_big_quiet (fail)
  clear hl
  go_wp2_with (at_delete; go_loud (refine wpList_delete_own _ rfl _ _ 63 3 rfl 94 keyI Try.underlying63 ptrE mb M.length (Dm M) rfl (HD.out.drewN nq).mp _ _ rfl (keyOf_int_mk Try.underlying3 (wf64 (by omega) n2)) ?_; intro w3 hown3 hturn3))
  obtain ⟨D3, B3⟩ := (HD.out.drewN nq).del s.n ((Tn.ofGrown hturn3.grown).mono fun k _ e => by injection e) hown3
  refine bodyPost_ret (v := .tuple #[]) (by simp [results, Try.results54, go_sem]) rfl ⟨rfl, D3, (Tn.ofNew (P := blD d mb M) (below_drewN _ _ _)).thenQ (Tn.ofGrown hturn3.grown) (fun k _ e => .inr (.inl (by injection e))), B3⟩
end
end Go.Proofs.Ytpckbbjlihhpdaa
