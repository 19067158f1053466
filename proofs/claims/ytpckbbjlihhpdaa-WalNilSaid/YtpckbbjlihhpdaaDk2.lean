/- A disk's numbers, New, grown, settle. -/
import Derived.Test.YtpckbbjlihhpdaaDk1
import Derived.Test.YtpckbbjlihhpdaaShelf
import Derived.Test.YtpckbbjlihhpdaaEl2
import Derived.WalkSpells
import Derived.Test.YtpckbbjlihhpdaaDkZ
namespace Go.Proofs.Ytpckbbjlihhpdaa
open Go.RowKit Go.Maps Go.Sort Go.Shelf

theorem eq_of_perm_rise : ∀ {l2 l1 : List Int}, l1.Perm l2 → l1.Pairwise (· ≤ ·) → l2.Pairwise (· < ·) → l1 = l2
  | [], l1, p, _, _ => List.perm_nil.1 p
  | y :: l2, [], p, _, _ => absurd p.length_eq (by simp)
  | y :: l2, x :: l1, p, h1, h2 => by
    obtain ⟨a1, a2⟩ := List.pairwise_cons.1 h1
    obtain ⟨b1, b2⟩ := List.pairwise_cons.1 h2
    have hx : x ∈ y :: l2 := p.subset (List.mem_cons_self ..)
    have hy : y ∈ x :: l1 := p.symm.subset (List.mem_cons_self ..)
    have e : x = y := by
      rcases List.mem_cons.1 hx with e | hx'
      · exact e
      · rcases List.mem_cons.1 hy with e | hy'
        · exact e.symm
        · have := b1 x hx'
          have := a1 y hy'
          omega
    subst e
    rw [eq_of_perm_rise (List.Perm.cons_inv p) a2 b2]
theorem sorted_keys {ss : List Int} {M : List Sg} (h : Rise M) (p : ss.Perm (intKeys (Dm M))) : ss.mergeSort (fun x y => decide (x ≤ y)) = M.map Sg.n := by
  rw [dm_keys] at p
  refine eq_of_perm_rise ((List.mergeSort_perm ss _).trans p) ?_ ((rise_iff M).1 h)
  have := List.pairwise_mergeSort (le := fun x y : Int => decide (x ≤ y)) (fun a b c h1 h2 => by simp at h1 h2 ⊢; omega) (fun a b => by simp; omega) ss
  exact this.imp fun h => by simpa using h
def encI (n : Int) : List Value := [.int .i64 n]
theorem encI_len (n : Int) : (encI n).length = 1 := rfl
theorem flat_encI (l : List Int) : l.flatMap encI = l.map encZ := by
  induction l with
  | nil => rfl
  | cons x l ih => rw [List.flatMap_cons, ih]; rfl

/-- slices.Sort's two contracts at this dump. -/
theorem sortsA (m : Nat) : AnyZI.SortsIn Try.prog Try.sortedA_ren Fence.wide m :=
  ⟨fun blk off cap ss W hH hblk hsz => callsIn_wide.2 (AnyM.slices_Sort_int Try.sortA blk off cap ss W hH hblk hsz),
   fun p cap W => callsIn_wide.2 (AnyM.slices_Sort_int_none Try.sortA p cap W)⟩
set_option maxHeartbeats 1000000 in
theorem numbers_any (K d mb : Nat) (room used fuse : Int) (down : Bool) (M : List Sg) (w : World) (h : Dk w K d mb room used fuse down M) (hM : M.length ≤ 1024) :
    Calls Try.prog 53 #[dP d] w fun e w' => ∃ v, e = .returned v ∧ So encI 1 w' w.heap.size 3 v (M.map Sg.n) ∧ Below w.heap.size w w' := by
  refine (callsIn_wide (n := 6)).1 ?_
  have hown := h.mp
  have c2 := h.c2
  have hri := h.ri
  clear h
  have hbl := hown.lt
  have hmax : Maps.size (Dm M) ≤ maxLen := by rw [dm_size]; unfold maxLen; omega
  have hbytes : Maps.size (Dm M) * 8 ≤ 140737488355328 := by rw [dm_size]; omega
  have hseq : SeqGives Fence.wide 2 Try.prog 70 #[.pointer (some ⟨w.heap.size, 0, none⟩)] encZ (fun ss => ss.Perm (intKeys (Dm M))) (Maps.size (Dm M)) (w.alloc (.cells #[.map (some mb)] 63)) :=
    AnyZI.keys_gives (ρ := Try.keysA_ren) { Try.keysA with } Fence.wide _ trivial rfl (by omega) w.heap.size mb M.length (Dm M) _ (by simp) (by simp) (by
      obtain ⟨es, clock, hb, Ft, hs, hD⟩ := hown
      exact ⟨es, clock, (Below.heap_alloc _ _ mb hbl).trans hb, Ft, hs, hD⟩)
  have cK : ∀ mb W, CallsIn Fence.wide 5 Try.prog 63 #[.map mb] W fun e w' => e = .returned (.func (.func 70) #[] #[.pointer (some ⟨W.heap.size, 0, none⟩)]) ∧ w' = W.alloc (.cells #[.map mb] 63) := fun mb W => AnyZI.keys_in Try.keysA Fence.wide 5 trivial rfl mb W
  have cS := AnyZI.sorted_in Try.sortedA Fence.wide 5 trivial trivial trivial trivial rfl (by omega) (sortsA _) (enters_of Try.func69 (by kernel_rfl) rfl) 70 #[.pointer (some ⟨w.heap.size, 0, none⟩)] trivial (enters_of Try.func70 (by kernel_rfl) rfl) _ _ hmax hbytes _ hseq
  change CallsIn _ _ Try.prog 62 _ _ _ at cS
  have hfK : Fence.wide.fn 63 := trivial
  have hfS : Fence.wide.fn 62 := trivial
  refine callsIn_of_wp Try.func53 rfl trivial ?_ rfl
  simp only [Try.ntmps53, List.size_toArray, List.length_cons, List.length_nil, Nat.reduceAdd, Nat.reduceSub, Array.replicate_succ, Array.replicate_zero, List.push_toArray, List.append_toArray, List.nil_append, List.cons_append]
  gi_wp2_with (first
    | (gi_at_call 63; refine (cK _ _).mono ?_; rintro e w' ⟨rfl, rfl⟩)
    | (gi_at_call 62; refine cS.mono ?_; rintro e w' ⟨v, ss, rfl, hS, hrow, hnil, hb⟩))
  go_ret
  refine ⟨v, rfl, ?_, ((Below.refl _ w).alloc (B := w.heap.size) (Nat.le_refl _) (.cells #[.map (some mb)] 63)).trans (hb.mono (by simp))⟩
  have e1 := sorted_keys hri hS
  have e2 : ss.length = (M.map Sg.n).length := by rw [← e1, List.length_mergeSort]
  have hr : w'.ownsRow w.heap.size 3 1 v ss.length ((ss.mergeSort (fun x y => decide (x ≤ y))).map encZ) := ownsRow_base_a hrow (by simp)
  rw [e1, e2] at hr
  unfold So
  rw [flat_encI]
  exact hr
theorem settle_any (g : Nat) (A : Option Addr) (n c : Nat) (w : World) (c0 : w.cell? ⟨g, 0, none⟩ = some (.slice A n c)) (fr : ∀ o, w.frozen? ⟨g, o, none⟩ = false) (u1 u2 : Value) (c1 : w.cell? ⟨g, 1, none⟩ = some u1) (c2 : w.cell? ⟨g, 2, none⟩ = some u2) :
    Calls Try.prog 52 #[dP g] w fun e w' => e = .returned (.tuple #[]) ∧ w' = (w.setCell ⟨g, 1, none⟩ (.int .i64 (n : Int))).setCell ⟨g, 2, none⟩ (.bool true) := by
  have f1 := fr 1
  have f2 := fr 2
  clear fr
  go_enter Try.func52, Try.ntmps52
  go_wp2
  go_end0
  exact ⟨rfl, rfl⟩
theorem step_yes (K d mb : Nat) (room used fuse : Int) (M : List Sg) (w : World) (h : Dk w K d mb room used fuse false M) (hf : fuse ≠ 0) (hf2 : fuse ≤ 9223372036854775807) : Calls Try.prog 49 #[dP d] w fun e w' => e = .returned (.bool true) ∧ Dk w' K d mb room used (fz fuse) false M ∧ Tn (· = d) w w' := by
  by_cases h0 : 0 < fuse
  · have e : fz fuse = fuse - 1 := by simp [fz, h0]
    rw [e]
    exact step_fuse K d mb room used fuse M w h h0 hf2
  · have e : fz fuse = fuse := by simp [fz, h0]
    rw [e]
    refine (step_free K d mb room used fuse M w h (by omega)).mono ?_
    rintro e w' ⟨rfl, rfl⟩
    exact ⟨rfl, h, Tn.refl _ _⟩
theorem dnew_bad (x : Int) (h : x < 0 ∨ 67108864 < x) (w : World) : Calls Try.prog 8 #[.int .i64 x] w fun e w' => e = .returned (.tuple #[.pointer none, .int .i64 1]) ∧ w' = w := by
  by_cases h0 : x < 0
  · go_enter Try.func8, Try.ntmps8
    go_wp2
    refine bodyPost_ret (v := .tuple #[.pointer none, .int .i64 1]) (by simp [results, Try.results8, go_sem]) rfl ⟨rfl, rfl⟩
  · have h1 : 67108864 < x := by omega
    go_enter Try.func8, Try.ntmps8
    go_wp2
    refine bodyPost_ret (v := .tuple #[.pointer none, .int .i64 1]) (by simp [results, Try.results8, go_sem]) rfl ⟨rfl, rfl⟩
theorem dnew_ok (x : Int) (h1 : 0 ≤ x) (h2 : x ≤ 67108864) (w : World) : Calls Try.prog 8 #[.int .i64 x] w fun e w' => e = .returned (.tuple #[dP (w.heap.size + 1), .int .i64 0]) ∧ Dk w' w.heap.size (w.heap.size + 1) w.heap.size x 0 (-1) false [] ∧ Below w.heap.size w w' := by
  have h0 : ¬ x < 0 := by omega
  have h3 : ¬ 67108864 < x := by omega
  have hmm := @run_makeMap Try.prog
  go_enter Try.func8, Try.ntmps8
  go_wp2
  refine bodyPost_ret (v := .tuple #[dP (w.heap.size + 1), .int .i64 0]) (by simp [results, Try.results8, go_sem]) rfl ?_
  refine ⟨rfl, ⟨by simp, by simp, by simp, by simp, by simp, fun o => by simp, (World.ownsMap_made w _ _ _).alloc _, List.Pairwise.nil, fun s hs => absurd hs (by simp), fun s hs => absurd hs (by simp), fun s hs => absurd hs (by simp), by omega, by omega, Nat.le_refl _⟩, by go_grown⟩
section
variable (K d mb : Nat) (room used fuse : Int) (down : Bool) (M : List Sg) (w : World)
set_option maxRecDepth 100000 in
theorem grown_there (h : Dk w K d mb room used fuse down M) {s : Sg} (hs : s ∈ M) : Calls Try.prog 50 #[dP d, .int .i64 s.n] w fun e w' => e = .returned (dP s.g) ∧ w' = w := by
  have c2 := h.c2
  have hl := h.look hs
  have hq := run_eql_map_nil (P := Try.prog) w 63 3 94 (some mb) Try.underlying63
  clear h
  go_enter Try.func50, Try.ntmps50
  go_wp2
  go_ret
  exact ⟨rfl, rfl⟩
abbrev newSg (n : Int) (g : Nat) : Sg := ⟨n, g, .slice none 0 0, [], 0, false⟩
set_option maxRecDepth 100000 in
set_option maxHeartbeats 800000 in
theorem grown_new (h : Dk w K d mb room used fuse down M) {n : Int} (h1 : 1 ≤ n) (h2 : n ≤ 9223372036854775807) (hn : ∀ t ∈ M, t.n ≠ n) (hM : M.length ≤ 1024) (hK : K ≤ w.heap.size) :
    Calls Try.prog 50 #[dP d, .int .i64 n] w fun e w' => e = .returned (dP w.heap.size) ∧ Dk w' K d mb room used fuse down (ins (newSg n w.heap.size) M) ∧ Tn (· = mb) w w' ∧ (∀ k, blD d mb (ins (newSg n w.heap.size) M) k → blD d mb M k ∨ w.heap.size ≤ k) := by
  have c2 := h.c2
  have hdl := h.lt
  have hl := h.miss (n := n) (by omega) h2 hn
  have hq := run_eql_map_nil (P := Try.prog) w 63 3 94 (some mb) Try.underlying63
  have HD := Lib.hid h
  have HM := Lib.hid (h.mp.alloc (.cells #[.slice none 0 0, .int .i64 0, .bool false] 97))
  clear h
  go_enter Try.func50, Try.ntmps50
  go_wp2_with (at_mapUpdate; go_loud (refine wpList_mapUpdate_own _ rfl _ _ _ 63 rfl 3 94 keyI Try.underlying63 ptrE mb M.length (Dm M) rfl HM.out (by unfold maxLen; omega) _ _ _ rfl rfl (keyOf_int_mk Try.underlying3 (wf64 (by omega) h2)) (.lit (.int .i64 (w.heap.size : Int))) [] rfl ?_; intro w1 hown1 hgrow1))
  go_ret
  have hA : Dk (w.alloc (.cells #[.slice none 0 0, .int .i64 0, .bool false] 97)) K d mb room used fuse down M := HD.out.below ((Below.refl _ _).alloc (Nat.le_refl _) _)
  have t1 : Tn (· = mb) (w.alloc (.cells #[.slice none 0 0, .int .i64 0, .bool false] 97)) w1 := (Tn.ofGrown hgrow1).mono fun k _ e => by injection e
  have hmb := HD.out.mp.lt
  have hne : ¬ w.heap.size = mb := by omega
  have hs1 : SgC w1 K (newSg n w.heap.size) := ⟨t1.cell (by simp) hne, t1.cell (by simp) hne, t1.cell (by simp) hne, fun o => (t1.frozen (p := ⟨w.heap.size, o, none⟩) (by simp) hne).trans (by simp), Ob.empty _ _, hK, Nat.le_refl _, by simp [Value.ownBlock], h1, h2⟩
  have hz : (w.alloc (.cells #[.slice none 0 0, .int .i64 0, .bool false] 97)).heap.size = w.heap.size + 1 := by simp
  obtain ⟨D1, B1⟩ := HD.out.ins1 hA hn t1 hown1 hs1 (fun k e => e.elim (fun e => Nat.le_of_eq e.symm) (fun e => by simp [Value.ownBlock] at e))
  exact ⟨rfl, D1, ((Tn.alloc (P := (· = mb)) w _).thenQ t1 (fun _ _ e => e)), B1⟩
end
end Go.Proofs.Ytpckbbjlihhpdaa
