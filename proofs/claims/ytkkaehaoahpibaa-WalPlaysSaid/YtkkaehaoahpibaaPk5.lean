/- A disk's tear, where bytes are lost. -/
import Derived.Test.YtkkaehaoahpibaaPk4
import Derived.Test.YtkkaehaoahpibaaPk0
import Derived.WalkSpells
import Derived.BigQuiet
import Derived.Deep.RegionLaw
namespace Go.Proofs.Ytkkaehaoahpibaa
open Go.RowKit Go.Maps Go.Sort Go.Shelf

theorem eq_of_perm_rise : ∀ {l2 l1 : List Int}, l1.Perm l2 → l1.Pairwise (· ≤ ·) → l2.Pairwise (· < ·) → l1 = l2
  | [], l1, p, _, _ => List.perm_nil.1 p
  | y :: l2, [], p, _, _ => absurd p.length_eq (by simp)
  | y :: l2, x :: l1, p, h1, h2 => by
    obtain ⟨a1, a2⟩ := List.pairwise_cons.1 h1
    obtain ⟨b1, b2⟩ := List.pairwise_cons.1 h2
    have hx : x ∈ y :: l2 := p.subset (List.mem_cons_self ..)
    have hy : y ∈ x :: l1 := p.symm.subset (List.mem_cons_self ..)
    have e : x = y := by
      rcases List.mem_cons.1 hx with e | hx'
      · exact e
      · rcases List.mem_cons.1 hy with e | hy'
        · exact e.symm
        · have := b1 x hx'
          have := a1 y hy'
          omega
    subst e
    rw [eq_of_perm_rise (List.Perm.cons_inv p) a2 b2]
theorem sorted_keys {ss : List Int} {M : List Sg} (h : Rise M) (p : ss.Perm (intKeys (Dm M))) : ss.mergeSort (fun x y => decide (x ≤ y)) = M.map Sg.n := by
  rw [dm_keys] at p
  refine eq_of_perm_rise ((List.mergeSort_perm ss _).trans p) ?_ ((rise_iff M).1 h)
  have := List.pairwise_mergeSort (le := fun x y : Int => decide (x ≤ y)) (fun a b c h1 h2 => by simp at h1 h2 ⊢; omega) (fun a b => by simp; omega) ss
  exact this.imp fun h => by simpa using h
def encI (n : Int) : List Value := [.int .i64 n]
theorem encI_len (n : Int) : (encI n).length = 1 := rfl
theorem flat_encI (l : List Int) : l.flatMap encI = l.map encZ := by
  induction l with
  | nil => rfl
  | cons x l ih => rw [List.flatMap_cons, ih]; rfl

/-- slices.Sort's two contracts at this dump. -/
theorem sortsA (m : Nat) : AnyZI.SortsIn Try.prog Try.sortedA_ren Fence.wide m :=
  ⟨fun blk off cap ss W hH hblk hsz => callsIn_wide.2 (AnyM.slices_Sort_int Try.sortA blk off cap ss W hH hblk hsz),
   fun p cap W => callsIn_wide.2 (AnyM.slices_Sort_int_none Try.sortA p cap W)⟩
set_option maxHeartbeats 1000000 in
theorem numbers_any (K d mb : Nat) (room used fuse : Int) (down : Bool) (M : List Sg) (w : World) (h : Dk w K d mb room used fuse down M) (hM : M.length ≤ 1024) :
    Calls Try.prog 45 #[dP d] w fun e w' => ∃ v, e = .returned v ∧ So encI 1 w' w.heap.size 3 v (M.map Sg.n) ∧ Below w.heap.size w w' := by
  refine (callsIn_wide (n := 6)).1 ?_
  have hown := h.mp
  have c2 := h.c2
  have hri := h.ri
  clear h
  have hbl := hown.lt
  have hmax : Maps.size (Dm M) ≤ maxLen := by rw [dm_size]; unfold maxLen; omega
  have hbytes : Maps.size (Dm M) * 8 ≤ 140737488355328 := by rw [dm_size]; omega
  have hseq : SeqGives Fence.wide 2 Try.prog 66 #[.pointer (some ⟨w.heap.size, 0, none⟩)] encZ (fun ss => ss.Perm (intKeys (Dm M))) (Maps.size (Dm M)) (w.alloc (.cells #[.map (some mb)] 56)) :=
    AnyZI.keys_gives (ρ := Try.keysA_ren) { Try.keysA with } Fence.wide _ trivial rfl (by omega) w.heap.size mb M.length (Dm M) _ (by simp) (by simp) (by
      obtain ⟨es, clock, hb, Ft, hs, hD⟩ := hown
      exact ⟨es, clock, (Below.heap_alloc _ _ mb hbl).trans hb, Ft, hs, hD⟩)
  have cK : ∀ mb W, CallsIn Fence.wide 5 Try.prog 59 #[.map mb] W fun e w' => e = .returned (.func (.func 66) #[] #[.pointer (some ⟨W.heap.size, 0, none⟩)]) ∧ w' = W.alloc (.cells #[.map mb] 56) := fun mb W => AnyZI.keys_in Try.keysA Fence.wide 5 trivial rfl mb W
  have cS := AnyZI.sorted_in Try.sortedA Fence.wide 5 trivial trivial trivial trivial rfl (by omega) (sortsA _) (enters_of Try.func65 (by kernel_rfl) rfl) 66 #[.pointer (some ⟨w.heap.size, 0, none⟩)] trivial (enters_of Try.func66 (by kernel_rfl) rfl) _ _ hmax hbytes _ hseq
  change CallsIn _ _ Try.prog 58 _ _ _ at cS
  have hfK : Fence.wide.fn 59 := trivial
  have hfS : Fence.wide.fn 58 := trivial
  refine callsIn_of_wp Try.func45 rfl trivial ?_ rfl
  simp only [Try.ntmps45, List.size_toArray, List.length_cons, List.length_nil, Nat.reduceAdd, Nat.reduceSub, Array.replicate_succ, Array.replicate_zero, List.push_toArray, List.append_toArray, List.nil_append, List.cons_append]
  gi_wp2_with (first
    | (gi_at_call 59; refine (cK _ _).mono ?_; rintro e w' ⟨rfl, rfl⟩)
    | (gi_at_call 58; refine cS.mono ?_; rintro e w' ⟨v, ss, rfl, hS, hrow, hnil, hb⟩))
  go_ret
  refine ⟨v, rfl, ?_, ((Below.refl _ w).alloc (B := w.heap.size) (Nat.le_refl _) (.cells #[.map (some mb)] 56)).trans (hb.mono (by simp))⟩
  have e1 := sorted_keys hri hS
  have e2 : ss.length = (M.map Sg.n).length := by rw [← e1, List.length_mergeSort]
  have hr : w'.ownsRow w.heap.size 3 1 v ss.length ((ss.mergeSort (fun x y => decide (x ≤ y))).map encZ) := ownsRow_base_a hrow (by simp)
  rw [e1, e2] at hr
  unfold So
  rw [flat_encI]
  exact hr
theorem settle_any (g : Nat) (A : Option Addr) (n c : Nat) (w : World) (c0 : w.cell? ⟨g, 0, none⟩ = some (.slice A n c)) (fr : ∀ o, w.frozen? ⟨g, o, none⟩ = false) (u1 u2 : Value) (c1 : w.cell? ⟨g, 1, none⟩ = some u1) (c2 : w.cell? ⟨g, 2, none⟩ = some u2) :
    Calls Try.prog 50 #[dP g] w fun e w' => e = .returned (.tuple #[]) ∧ w' = (w.setCell ⟨g, 1, none⟩ (.int .i64 (n : Int))).setCell ⟨g, 2, none⟩ (.bool true) := by
  have f1 := fr 1
  have f2 := fr 2
  clear fr
  go_enter Try.func50, Try.ntmps50
  go_wp2
  go_end0
  exact ⟨rfl, rfl⟩
theorem step_yes (K d mb : Nat) (room used fuse : Int) (M : List Sg) (w : World) (h : Dk w K d mb room used fuse false M) (hf : fuse ≠ 0) (hf2 : fuse ≤ 9223372036854775807) : Calls Try.prog 47 #[dP d] w fun e w' => e = .returned (.bool true) ∧ Dk w' K d mb room used (fz fuse) false M ∧ Tn (· = d) w w' := by
  by_cases h0 : 0 < fuse
  · have e : fz fuse = fuse - 1 := by simp [fz, h0]
    rw [e]
    exact step_fuse K d mb room used fuse M w h h0 hf2
  · have e : fz fuse = fuse := by simp [fz, h0]
    rw [e]
    refine (step_free K d mb room used fuse M w h (by omega)).mono ?_
    rintro e w' ⟨rfl, rfl⟩
    exact ⟨rfl, h, Tn.refl _ _⟩
theorem dnew_bad (x : Int) (h : x < 0 ∨ 67108864 < x) (w : World) : Calls Try.prog 5 #[.int .i64 x] w fun e w' => e = .returned (.tuple #[.pointer none, .int .i64 1]) ∧ w' = w := by
  by_cases h0 : x < 0
  · go_enter Try.func5, Try.ntmps5
    go_wp2
    refine bodyPost_ret (v := .tuple #[.pointer none, .int .i64 1]) (by simp [results, Try.results5, go_sem]) rfl ⟨rfl, rfl⟩
  · have h1 : 67108864 < x := by omega
    go_enter Try.func5, Try.ntmps5
    go_wp2
    refine bodyPost_ret (v := .tuple #[.pointer none, .int .i64 1]) (by simp [results, Try.results5, go_sem]) rfl ⟨rfl, rfl⟩
theorem dnew_ok (x : Int) (h1 : 0 ≤ x) (h2 : x ≤ 67108864) (w : World) : Calls Try.prog 5 #[.int .i64 x] w fun e w' => e = .returned (.tuple #[dP (w.heap.size + 1), .int .i64 0]) ∧ Dk w' w.heap.size (w.heap.size + 1) w.heap.size x 0 (-1) false [] ∧ Below w.heap.size w w' := by
  have h0 : ¬ x < 0 := by omega
  have h3 : ¬ 67108864 < x := by omega
  have hmm := @run_makeMap Try.prog
  go_enter Try.func5, Try.ntmps5
  go_wp2
  refine bodyPost_ret (v := .tuple #[dP (w.heap.size + 1), .int .i64 0]) (by simp [results, Try.results5, go_sem]) rfl ?_
  refine ⟨rfl, ⟨by simp, by simp, by simp, by simp, by simp, fun o => by simp, (World.ownsMap_made w _ _ _).alloc _, List.Pairwise.nil, fun s hs => absurd hs (by simp), fun s hs => absurd hs (by simp), fun s hs => absurd hs (by simp), by omega, by omega, Nat.le_refl _⟩, by go_grown⟩
section
variable (K d mb : Nat) (room used fuse : Int) (down : Bool) (M : List Sg) (w : World)
set_option maxRecDepth 100000 in
theorem grown_there (h : Dk w K d mb room used fuse down M) {s : Sg} (hs : s ∈ M) : Calls Try.prog 48 #[dP d, .int .i64 s.n] w fun e w' => e = .returned (dP s.g) ∧ w' = w := by
  have c2 := h.c2
  have hl := h.look hs
  have hq := run_eql_map_nil (P := Try.prog) w 56 3 93 (some mb) Try.underlying56
  clear h
  go_enter Try.func48, Try.ntmps48
  go_wp2
  go_ret
  exact ⟨rfl, rfl⟩
abbrev newSg (n : Int) (g : Nat) : Sg := ⟨n, g, .slice none 0 0, [], 0, false⟩
set_option maxRecDepth 100000 in
set_option maxHeartbeats 800000 in
theorem grown_new (h : Dk w K d mb room used fuse down M) {n : Int} (h1 : 1 ≤ n) (h2 : n ≤ 9223372036854775807) (hn : ∀ t ∈ M, t.n ≠ n) (hM : M.length ≤ 1024) (hK : K ≤ w.heap.size) :
    Calls Try.prog 48 #[dP d, .int .i64 n] w fun e w' => e = .returned (dP w.heap.size) ∧ Dk w' K d mb room used fuse down (ins (newSg n w.heap.size) M) ∧ Tn (· = mb) w w' ∧ (∀ k, blD d mb (ins (newSg n w.heap.size) M) k → blD d mb M k ∨ w.heap.size ≤ k) := by
  have c2 := h.c2
  have hdl := h.lt
  have hl := h.miss (n := n) (by omega) h2 hn
  have hq := run_eql_map_nil (P := Try.prog) w 56 3 93 (some mb) Try.underlying56
  have HD := Lib.hid h
  have HM := Lib.hid (h.mp.alloc (.cells #[.slice none 0 0, .int .i64 0, .bool false] 96))
  clear h
  go_enter Try.func48, Try.ntmps48
  go_wp2_with (at_mapUpdate; go_loud (refine wpList_mapUpdate_own _ rfl _ _ _ 56 rfl 3 93 keyI Try.underlying56 ptrE mb M.length (Dm M) rfl HM.out (by unfold maxLen; omega) _ _ _ rfl rfl (keyOf_int_mk Try.underlying3 (wf64 (by omega) h2)) (.lit (.int .i64 (w.heap.size : Int))) [] rfl ?_; intro w1 hown1 hgrow1))
  go_ret
  have hA : Dk (w.alloc (.cells #[.slice none 0 0, .int .i64 0, .bool false] 96)) K d mb room used fuse down M := HD.out.below ((Below.refl _ _).alloc (Nat.le_refl _) _)
  have t1 : Tn (· = mb) (w.alloc (.cells #[.slice none 0 0, .int .i64 0, .bool false] 96)) w1 := (Tn.ofGrown hgrow1).mono fun k _ e => by injection e
  have hmb := HD.out.mp.lt
  have hne : ¬ w.heap.size = mb := by omega
  have hs1 : SgC w1 K (newSg n w.heap.size) := ⟨t1.cell (by simp) hne, t1.cell (by simp) hne, t1.cell (by simp) hne, fun o => (t1.frozen (p := ⟨w.heap.size, o, none⟩) (by simp) hne).trans (by simp), Ob.empty _ _, hK, Nat.le_refl _, by simp [Value.ownBlock], h1, h2⟩
  have hz : (w.alloc (.cells #[.slice none 0 0, .int .i64 0, .bool false] 96)).heap.size = w.heap.size + 1 := by simp
  obtain ⟨D1, B1⟩ := HD.out.ins1 hA hn t1 hown1 hs1 (fun k e => e.elim (fun e => Nat.le_of_eq e.symm) (fun e => by simp [Value.ownBlock] at e))
  exact ⟨rfl, D1, ((Tn.alloc (P := (· = mb)) w _).thenQ t1 (fun _ _ e => e)), B1⟩
end
end Go.Proofs.Ytkkaehaoahpibaa
namespace Go.Proofs.Ytkkaehaoahpibaa
open Go.RowKit Go.Maps Go.BigFrame

theorem wrap_in {x : Int} (h1 : -9223372036854775808 ≤ x) (h2 : x ≤ 9223372036854775807) : IntKind.i64.wrap x = x := by
  simp [IntKind.wrap, IntKind.signed, IntKind.bits]
  omega
theorem below_drewN (B : Nat) (w : World) (n : Nat) : Below B w (w.drewN n) := ⟨rfl, rfl, rfl, Nat.le_refl _, fun _ _ => rfl⟩
section
variable {K d mb : Nat} {room used fuse : Int} {down : Bool} {M : List Sg} {w : World} {n : Int} {A : Option Addr} {m c : Nat}
theorem dapp_nil : Calls Try.prog 19 #[.pointer none, .int .i64 n, .slice A m c] w fun e w' => e = .returned (.int .i64 2) ∧ w' = w := by
  go_enter Try.func19, Try.ntmps19
  go_wp2
  go_ret
  exact ⟨rfl, rfl⟩
theorem dapp_down (h : Dk w K d mb room used fuse true M) : Calls Try.prog 19 #[dP d, .int .i64 n, .slice A m c] w fun e w' => e = .returned (.int .i64 5) ∧ w' = w := by
  have c4 := h.c4
  clear h
  go_enter Try.func19, Try.ntmps19
  go_wp2
  go_ret
  exact ⟨rfl, rfl⟩
theorem dapp_arg (h : Dk w K d mb room used fuse false M) (hn : n < 1) : Calls Try.prog 19 #[dP d, .int .i64 n, .slice A m c] w fun e w' => e = .returned (.int .i64 1) ∧ w' = w := by
  have c4 := h.c4
  clear h
  go_enter Try.func19, Try.ntmps19
  go_wp2
  go_ret
  exact ⟨rfl, rfl⟩
theorem Dk.lenM (h : Dk w K d mb room used fuse down M) (ty : TypeId) : (Builtin.len_ #[56] ty #[.map (some mb)]).run Try.prog w = .ok (.int .i64 (M.length : Int)) w := by
  have := h.mp.len Try.underlying56 ty
  rwa [dm_size] at this
set_option maxRecDepth 100000 in
set_option maxHeartbeats 1600000 in
theorem dapp_big (h : Dk w K d mb room used fuse false M) (hn : 1 ≤ n) (hu : 0 ≤ used) (hr : used ≤ room) (hr2 : room ≤ 67108864) (hm : room - used < m) : Calls Try.prog 19 #[dP d, .int .i64 n, .slice A m c] w fun e w' => e = .returned (.int .i64 4) ∧ Below w.heap.size w w' := by
  have c0 := h.c0
  have c1 := h.c1
  have c4 := h.c4
  have h1 : ¬ n < 1 := by omega
  have h2 : decide (room - used < (m : Int)) = true := by simp; omega
  clear h
  go_enter Try.func19, Try.ntmps19
  go_wp2_with fail
  go_big_quiet (fail)
  go_wp2
  go_ret
  exact ⟨rfl, below_drewN _ _ _⟩
set_option maxRecDepth 100000 in
set_option maxHeartbeats 1600000 in
theorem dapp_many (h : Dk w K d mb room used fuse false M) (hn : 1 ≤ n) (hn2 : n ≤ 9223372036854775807) (hu : 0 ≤ used) (hr : used ≤ room) (hr2 : room ≤ 67108864) (hm : m ≤ room - used) (hno : ∀ t ∈ M, t.n ≠ n) (hM : 1024 ≤ M.length) (hM2 : M.length ≤ 1024) : Calls Try.prog 19 #[dP d, .int .i64 n, .slice A m c] w fun e w' => e = .returned (.int .i64 4) ∧ Below w.heap.size w w' := by
  have c0 := h.c0
  have c1 := h.c1
  have c2 := h.c2
  have c4 := h.c4
  have h1 : ¬ n < 1 := by omega
  have h2 : decide (room - used < (m : Int)) = false := by simp; omega
  have hl := fun k => (h.drewN k).miss (n := n) (by omega) hn2 hno
  have hL := fun k ty => (h.drewN k).lenM ty
  have h3 : decide ((1024 : Int) ≤ (M.length : Int)) = true := by simp; omega
  clear h hno
  go_enter Try.func19, Try.ntmps19
  go_wp2_with fail
  go_big_quiet (fail)
  go_wp2
  go_ret
  exact ⟨rfl, below_drewN _ _ _⟩
/-- Is there room? -/
def fits (M : List Sg) (n : Int) : Prop := (∃ s ∈ M, s.n = n) ∨ ((∀ t ∈ M, t.n ≠ n) ∧ M.length < 1024)
set_option maxRecDepth 100000 in
set_option maxHeartbeats 1600000 in
theorem dapp_dead (h : Dk w K d mb room used 0 false M) (hn : 1 ≤ n) (hn2 : n ≤ 9223372036854775807) (hu : 0 ≤ used) (hr : used ≤ room) (hr2 : room ≤ 67108864) (hm : m ≤ room - used) (hf : fits M n) : Calls Try.prog 19 #[dP d, .int .i64 n, .slice A m c] w fun e w' => e = .returned (.int .i64 5) ∧ Dk w' K d mb room used 0 true M ∧ Tn (· = d) w w' := by
  have c0 := h.c0
  have c1 := h.c1
  have c2 := h.c2
  have c4 := h.c4
  have h1 : ¬ n < 1 := by omega
  have h2 : decide (room - used < (m : Int)) = false := by simp; omega
  have HD := Lib.hid h
  rcases hf with ⟨s, hs, rfl⟩ | ⟨hno, hM⟩
  · have hl := fun k => (h.drewN k).look hs
    clear h
    go_enter Try.func19, Try.ntmps19
    go_wp2_with fail
    go_big_quiet (fail)
    go_wp2_with (go_at_call 47; refine (step_none K d mb room used false M _ (HD.out.drewN _)).mono ?_; rintro e w' ⟨rfl, D1, T1⟩)
    go_ret
    exact ⟨rfl, D1, (Tn.ofNew (P := (· = d)) (below_drewN _ _ _)).then T1⟩
  · have hl := fun k => (h.drewN k).miss (n := n) (by omega) hn2 hno
    have hL := fun k ty => (h.drewN k).lenM ty
    have h3 : decide ((1024 : Int) ≤ (M.length : Int)) = false := by simp; omega
    clear h hno
    go_enter Try.func19, Try.ntmps19
    go_wp2_with fail
    go_big_quiet (fail)
    go_wp2_with (go_at_call 47; refine (step_none K d mb room used false M _ (HD.out.drewN _)).mono ?_; rintro e w' ⟨rfl, D1, T1⟩)
    go_ret
    exact ⟨rfl, D1, (Tn.ofNew (P := (· = d)) (below_drewN _ _ _)).then T1⟩
end
end Go.Proofs.Ytkkaehaoahpibaa
namespace Go.Proofs.Ytkkaehaoahpibaa
open Go.RowKit Go.Maps Go.BigFrame

section
variable {K d mb : Nat} {room used fuse : Int} {down : Bool} {M : List Sg} {w : World} {n : Int} {A : Option Addr} {m c : Nat}
/-- What an append to a segment leaves. -/
theorem Dk.appS {w1 w3 : World} {s : Sg} {b' : List UInt8} {A3 : Option Addr} {c3 N : Nat} (h : Dk w1 K d mb room used fuse down M) (hs : s ∈ M) (ob : Ob w3 K (.slice A3 N c3) (s.b ++ b')) (g : w1.grownBy w3 s.v.ownBlock) (at_ : (Value.slice A3 N c3).ownBlock = s.v.ownBlock ∨ (Value.slice A3 N c3).ownBlock = some w1.heap.size) :
    Dk (w3.setCell ⟨s.g, 0, none⟩ (.slice A3 N c3)) K d mb room used fuse down (upd M ⟨s.n, s.g, .slice A3 N c3, s.b ++ b', s.l, s.k⟩) ∧ Tn (bl s) w1 (w3.setCell ⟨s.g, 0, none⟩ (.slice A3 N c3)) ∧
      ∀ k, blD d mb (upd M ⟨s.n, s.g, .slice A3 N c3, s.b ++ b', s.l, s.k⟩) k → blD d mb M k ∨ w1.heap.size ≤ k := by
  have hc := h.sg s hs
  have t3 : Tn (bl s) w1 w3 := (Tn.ofGrown g).mono fun k _ e => .inr e.symm
  have t4 := Tn.setCell w3 s.g 0 (.slice A3 N c3)
  have t : Tn (bl s) w1 (w3.setCell ⟨s.g, 0, none⟩ (.slice A3 N c3)) := t3.thenQ t4 fun k _ e => .inl e
  have hse : ∀ {k}, some k = s.v.ownBlock → k ≠ s.g := fun e e2 => hc.se (by rw [← e, e2])
  have tg := Tn.ofGrown g
  have ng : ¬ some s.g = s.v.ownBlock := fun e => hc.se e.symm
  have x0 := tg.cell hc.c0 ng
  have x1 := tg.cell hc.c1 ng
  have x2 := tg.cell hc.c2 ng
  have xf : ∀ o, w3.frozen? ⟨s.g, o, none⟩ = false := fun o => (tg.frozen (p := ⟨s.g, o, none⟩) hc.lt ng).trans (hc.fr o)
  have ho : (Value.slice A3 N c3).ownBlock ≠ some s.g := by
    rcases at_ with e | e
    · rw [e]; exact hc.se
    · rw [e]; intro e2; injection e2 with e2; have := hc.lt; omega
  obtain ⟨D, B⟩ := h.setS (s' := ⟨s.n, s.g, .slice A3 N c3, s.b ++ b', s.l, s.k⟩) hs rfl rfl t ⟨World.cell?_setCell_same' _ _ _ (by rw [x0]; rfl), by rw [World.cell?_setCell_other _ _ _ _ (by simp)]; exact x1, by rw [World.cell?_setCell_other _ _ _ _ (by simp)]; exact x2, fun o => by rw [World.frozen?_setCell]; exact xf o, t4.ob ob fun k hk e => ho (by rw [hk, e]), hc.kg, by have := hc.le; simp; omega, ho, hc.n1, hc.n2⟩ (at_.imp id fun e k hk => by rw [e] at hk; injection hk with hk; omega)
  exact ⟨D, t, B⟩
set_option maxRecDepth 100000 in
set_option maxHeartbeats 3200000 in
theorem dapp_there (h : Dk w K d mb room used fuse false M) {s : Sg} (hs : s ∈ M) (hu : 0 ≤ used) (hr : used ≤ room) (hr2 : room ≤ 67108864) (hf : fuse ≠ 0) (hf2 : fuse ≤ 9223372036854775807) {K' : Nat} {b' : List UInt8} (hb : Bs w K' A c b') (hml : b'.length = m) (hm : m ≤ room - used)
    (hap : 0 < b'.length → ∀ ad : Addr, A = some ad → ad.block ≠ d) (hlen : s.b.length ≤ used) :
    Calls Try.prog 19 #[dP d, .int .i64 s.n, .slice A m c] w fun e w' => e = .returned (.int .i64 0) ∧ ∃ v, Dk w' K d mb room (used + m) (fz fuse) false (upd M ⟨s.n, s.g, v, s.b ++ b', s.l, s.k⟩) ∧ Tn (blD d mb M) w w' ∧ ∀ k, blD d mb (upd M ⟨s.n, s.g, v, s.b ++ b', s.l, s.k⟩) k → blD d mb M k ∨ w.heap.size ≤ k := by
  have c0 := h.c0
  have c1 := h.c1
  have c2 := h.c2
  have c4 := h.c4
  have hc := h.sg s hs
  have n1 := hc.n1
  have n2 := hc.n2
  have h1 : ¬ s.n < 1 := by omega
  have h2 : decide (room - used < (m : Int)) = false := by simp; omega
  have hw : IntKind.i64.wrap (used + (m : Int)) = used + (m : Int) := wrap_in (by omega) (by omega)
  have hne : d ≠ s.g := fun e => (h.of_ s hs s.g (.inl rfl)).1 e.symm
  have HKB : K ≤ w.heap.size := by have := h.kd; have := h.lt; omega
  have HD := Lib.hid h
  have HB := Lib.hid hb
  have hl := fun k => (h.drewN k).look hs
  clear h hb hc
  go_enter Try.func19, Try.ntmps19
  go_wp2_with fail
  go_big_quiet (fail)
  clear c0 c1 c2 c4 hl
  go_wp2_with (first
    | (go_at_call 47; refine (step_yes K d mb room used fuse M _ (HD.out.drewN _) hf hf2).mono ?_; rintro e w1 ⟨rfl, D1, T1⟩; have HD1 := Lib.hid D1; have HT1 := Lib.hid T1; clear D1 T1)
    | (go_at_call 48; refine (grown_there K d mb room used (fz fuse) false M _ HD1.out hs).mono ?_; rintro e w' ⟨rfl, rfl⟩; rename World => w1; have k0 := (HD1.out.sg s hs).c0)
    | (at_builtin; go_loud (refine wpList_app _ rfl (.tmp 60) (.tmp 61) rfl K s.v s.b rfl (HD1.out.sg s hs).ob A m c b' rfl hml K' (HT1.out.bs (HB.out.drewN _) hap) (s.b.length + m) (by rw [hml]) (by omega) (by have := HD1.out.kd; have := HD1.out.lt; omega) ?_; intro A3 c3 w3 ob3 gr3 at3; have tg := Tn.ofGrown gr3; have y0 := tg.cell k0 (fun e => (HD1.out.sg s hs).se e.symm); have yf := (tg.frozen (p := ⟨s.g, 0, none⟩) (HD1.out.sg s hs).lt (fun e => (HD1.out.sg s hs).se e.symm)).trans ((HD1.out.sg s hs).fr 0); have nd : ¬ some d = s.v.ownBlock := fun e => (HD1.out.of_ s hs d (.inr e.symm)).1 rfl; have z1 := tg.cell HD1.out.c1 nd; have zf := (tg.frozen (p := ⟨d, 1, none⟩) HD1.out.lt nd).trans (HD1.out.fr 1))))
  go_ret
  obtain ⟨D2, T2, B2⟩ := HD1.out.appS hs ob3 gr3 at3
  have hz : w.heap.size ≤ w1.heap.size := HT1.out.size
  exact ⟨rfl, _, D2.set1 (used + m), (((Tn.ofNew (P := blD d mb M) (below_drewN _ _ _)).thenQ HT1.out (fun _ _ e => .inl e)).thenQ T2 (fun _ _ e => .inr (.inr ⟨s, hs, e⟩))).thenQ (Tn.setCell _ d 1 _) (fun _ _ e => .inl e), fun k hk => (B2 k hk).imp id fun e => Nat.le_trans hz e⟩
set_option maxRecDepth 100000 in
set_option maxHeartbeats 3200000 in
theorem dapp_new (h : Dk w K d mb room used fuse false M) (h1n : 1 ≤ n) (h2n : n ≤ 9223372036854775807) (hno : ∀ t ∈ M, t.n ≠ n) (hM : M.length < 1024) (hu : 0 ≤ used) (hr : used ≤ room) (hr2 : room ≤ 67108864) (hf : fuse ≠ 0) (hf2 : fuse ≤ 9223372036854775807) {K' : Nat} {b' : List UInt8} (hb : Bs w K' A c b') (hml : b'.length = m) (hm : m ≤ room - used)
    (hap : 0 < b'.length → ∀ ad : Addr, A = some ad → ad.block ≠ d ∧ ad.block ≠ mb) :
    Calls Try.prog 19 #[dP d, .int .i64 n, .slice A m c] w fun e w' => e = .returned (.int .i64 0) ∧ ∃ g v, Dk w' K d mb room (used + m) (fz fuse) false (upd (ins (newSg n g) M) ⟨n, g, v, b', 0, false⟩) ∧ Tn (blD d mb M) w w' ∧ ∀ k, blD d mb (upd (ins (newSg n g) M) ⟨n, g, v, b', 0, false⟩) k → blD d mb M k ∨ w.heap.size ≤ k := by
  have c0 := h.c0
  have c1 := h.c1
  have c2 := h.c2
  have c4 := h.c4
  have h1 : ¬ n < 1 := by omega
  have h2 : decide (room - used < (m : Int)) = false := by simp; omega
  have h3 : decide ((1024 : Int) ≤ (M.length : Int)) = false := by simp; omega
  have hw : IntKind.i64.wrap (used + (m : Int)) = used + (m : Int) := wrap_in (by omega) (by omega)
  have HKB : K ≤ w.heap.size := by have := h.kd; have := h.lt; omega
  have HD := Lib.hid h
  have HB := Lib.hid hb
  have HN := Lib.hid hno
  have hl := fun k => (h.drewN k).miss (n := n) (by omega) h2n hno
  have hL := fun k ty => (h.drewN k).lenM ty
  clear h hb hno
  go_enter Try.func19, Try.ntmps19
  go_wp2_with fail
  go_big_quiet (fail)
  clear c0 c1 c2 c4 hl hL h3
  go_wp2_with (first
    | (go_at_call 47; refine (step_yes K d mb room used fuse M _ (HD.out.drewN _) hf hf2).mono ?_; rintro e w1 ⟨rfl, D1, T1⟩; have HD1 := Lib.hid D1; have HT1 := Lib.hid T1; have hz1 : w.heap.size ≤ w1.heap.size := T1.size; clear D1 T1)
    | (go_at_call 48; refine (grown_new K d mb room used (fz fuse) false M _ HD1.out h1n h2n HN.out (by omega) (by omega)).mono ?_; rintro e w2 ⟨rfl, D2, T2, B2⟩; have hin : newSg n w1.heap.size ∈ ins (newSg n w1.heap.size) M := mem_ins.2 (.inl rfl); have hsg := D2.sg _ hin; have k0 := hsg.c0; simp only at k0; have kf := hsg.fr 0; simp only at kf; have HD2 := Lib.hid D2; have HT2 := Lib.hid T2; have HB2 := Lib.hid B2; have HIN := Lib.hid hin; clear D2 T2 B2 hin hsg)
    | (at_builtin; go_loud (refine wpList_app _ rfl (.tmp 60) (.tmp 61) rfl K (.slice none 0 0) [] rfl (Ob.empty _ _) A m c b' rfl hml K' (HT2.out.bs (HT1.out.bs (HB.out.drewN _) (fun a b e => (hap a b e).1)) (fun a b e => (hap a b e).2)) m (by simp [hml]) (by simp; omega) (by have := HD2.out.kd; have := HD2.out.lt; omega) ?_; intro A3 c3 w3 ob3 gr3 at3; have tg := Tn.ofGrown gr3; have y0 := tg.cell k0 (by simp [Value.ownBlock]); have yf := (tg.frozen (p := ⟨w1.heap.size, 0, none⟩) (HD2.out.sg _ HIN.out).lt (by simp [Value.ownBlock])).trans kf; have z1 := tg.cell HD2.out.c1 (by simp [Value.ownBlock]); have zf := (tg.frozen (p := ⟨d, 1, none⟩) HD2.out.lt (by simp [Value.ownBlock])).trans (HD2.out.fr 1); have hne : d ≠ w1.heap.size := by have := HD1.out.lt; omega)))
  go_ret
  obtain ⟨D3, T3, B3⟩ := HD2.out.appS HIN.out ob3 gr3 at3
  have hz2 : w1.heap.size ≤ w2.heap.size := HT2.out.size
  refine ⟨rfl, w1.heap.size, _, D3.set1 (used + m), ?_, fun k hk => ?_⟩
  · exact ((((Tn.ofNew (P := blD d mb M) (below_drewN _ _ _)).thenQ HT1.out (fun _ _ e => .inl e)).thenQ HT2.out (fun _ _ e => .inr (.inl e))).thenQ T3 (fun k hk e => by
      rcases e with e | e
      · have e2 : k = w1.heap.size := e
        have hk2 : k < w.heap.size := hk
        omega
      · simp [Value.ownBlock] at e)).thenQ (Tn.setCell _ d 1 _) (fun _ _ e => .inl e)
  · rcases B3 k hk with e | e
    · rcases HB2.out k e with e | e
      · exact .inl e
      · exact .inr (by omega)
    · exact .inr (by omega)
end
end Go.Proofs.Ytkkaehaoahpibaa
namespace Go.Proofs.Ytkkaehaoahpibaa
open Go.RowKit Go.Maps Go.BigFrame

section
variable {K d mb : Nat} {room used fuse : Int} {down : Bool} {M : List Sg} {w : World} {n : Int}
def settled (s : Sg) : Sg := ⟨s.n, s.g, s.v, s.b, s.b.length, true⟩
theorem Dk.settleS (h : Dk w K d mb room used fuse down M) {s : Sg} (hs : s ∈ M) {N : Nat} (hN : N = s.b.length) :
    Dk ((w.setCell ⟨s.g, 1, none⟩ (.int .i64 (N : Int))).setCell ⟨s.g, 2, none⟩ (.bool true)) K d mb room used fuse down (upd M (settled s)) ∧ Tn (bl s) w ((w.setCell ⟨s.g, 1, none⟩ (.int .i64 (N : Int))).setCell ⟨s.g, 2, none⟩ (.bool true)) ∧ ∀ k, blD d mb (upd M (settled s)) k → blD d mb M k ∨ w.heap.size ≤ k := by
  subst hN
  have hc := h.sg s hs
  have t0 := (Tn.setCell w s.g 1 (.int .i64 (s.b.length : Int))).then (Tn.setCell _ s.g 2 (.bool true))
  have t : Tn (bl s) w _ := t0.mono fun k _ e => .inl e
  obtain ⟨D, B⟩ := h.setS (s' := settled s) hs rfl rfl t ⟨by
      rw [World.cell?_setCell_other _ _ _ _ (by simp [settled]), World.cell?_setCell_other _ _ _ _ (by simp [settled])]; exact hc.c0, by
      rw [World.cell?_setCell_other _ _ _ _ (by simp [settled])]
      exact World.cell?_setCell_same' _ _ _ (by rw [hc.c1]; rfl), World.cell?_setCell_same' _ _ _ (by rw [World.cell?_setCell_other _ _ _ _ (by simp), hc.c2]; rfl), fun o => by
      rw [World.frozen?_setCell, World.frozen?_setCell]; exact hc.fr o, t0.ob hc.ob fun k hk e => hc.se (show s.v.ownBlock = some s.g from e ▸ hk), hc.kg, Nat.le_refl _, hc.se, hc.n1, hc.n2⟩ (.inl rfl)
  exact ⟨D, t, B⟩
theorem Dk.formS (h : Dk w K d mb room used fuse down M) {s : Sg} (hs : s ∈ M) : ∃ A c, s.v = .slice A s.b.length c := by
  rcases (h.sg s hs).ob.2 with ⟨he, h0⟩ | ⟨g, cap', cur, he, _⟩
  · exact ⟨none, 0, by rw [he, h0]⟩
  · exact ⟨_, _, he⟩
theorem sync_err (pv : Value) (v : Int) (hv : v ≠ 0) (HL : Calls Try.prog 49 #[pv, .int .i64 n] w fun e w' => e = .returned (.int .i64 v) ∧ w' = w) : Calls Try.prog 21 #[pv, .int .i64 n] w fun e w' => e = .returned (.int .i64 v) ∧ w' = w := by
  have h0 : (v != (0 : Int)) = true := by simpa using hv
  go_enter Try.func21, Try.ntmps21
  go_wp2_with (go_at_call 49; refine HL.mono ?_; rintro e w' ⟨rfl, rfl⟩)
  go_ret
  exact ⟨rfl, rfl⟩
theorem drop_err (pv : Value) (v : Int) (hv : v ≠ 0) (HL : Calls Try.prog 49 #[pv, .int .i64 n] w fun e w' => e = .returned (.int .i64 v) ∧ w' = w) : Calls Try.prog 22 #[pv, .int .i64 n] w fun e w' => e = .returned (.int .i64 v) ∧ w' = w := by
  have h0 : (v != (0 : Int)) = true := by simpa using hv
  go_enter Try.func22, Try.ntmps22
  go_wp2_with (go_at_call 49; refine HL.mono ?_; rintro e w' ⟨rfl, rfl⟩)
  go_ret
  exact ⟨rfl, rfl⟩
theorem read_err (pv : Value) (v : Int) (hv : v ≠ 0) (HL : Calls Try.prog 49 #[pv, .int .i64 n] w fun e w' => e = .returned (.int .i64 v) ∧ w' = w) : Calls Try.prog 37 #[pv, .int .i64 n] w fun e w' => e = .returned (.tuple #[.slice none 0 0, .int .i64 v]) ∧ w' = w := by
  have h0 : (v != (0 : Int)) = true := by simpa using hv
  go_enter Try.func37, Try.ntmps37
  go_wp2_with (go_at_call 49; refine HL.mono ?_; rintro e w' ⟨rfl, rfl⟩)
  refine bodyPost_ret (v := .tuple #[.slice none 0 0, .int .i64 v]) (by simp [results, Try.results37, go_sem]) rfl ⟨rfl, rfl⟩
theorem sync_dead (h : Dk w K d mb room used 0 false M) {s : Sg} (hs : s ∈ M) : Calls Try.prog 21 #[dP d, .int .i64 s.n] w fun e w' => e = .returned (.int .i64 5) ∧ Dk w' K d mb room used 0 true M ∧ Tn (· = d) w w' := by
  have HL := Lib.hid (dlook_ok K d mb room used 0 M w h hs)
  have HD := Lib.hid h
  clear h
  go_enter Try.func21, Try.ntmps21
  go_wp2_with (first
    | (go_at_call 49; refine HL.out.mono ?_; rintro e w' ⟨rfl, rfl⟩)
    | (go_at_call 47; refine (step_none K d mb room used false M _ HD.out).mono ?_; rintro e w' ⟨rfl, D1, T1⟩))
  go_ret
  exact ⟨rfl, D1, T1⟩
set_option maxRecDepth 100000 in
theorem drop_dead (h : Dk w K d mb room used 0 false M) {s : Sg} (hs : s ∈ M) : Calls Try.prog 22 #[dP d, .int .i64 s.n] w fun e w' => e = .returned (.int .i64 5) ∧ Dk w' K d mb room used 0 true M ∧ Tn (· = d) w w' := by
  have HL := Lib.hid (dlook_ok K d mb room used 0 M w h hs)
  have HD := Lib.hid h
  clear h
  go_enter Try.func22, Try.ntmps22
  go_wp2_with (first
    | (go_at_call 49; refine HL.out.mono ?_; rintro e w' ⟨rfl, rfl⟩)
    | (go_at_call 47; refine (step_none K d mb room used false M _ HD.out).mono ?_; rintro e w' ⟨rfl, D1, T1⟩))
  go_ret
  exact ⟨rfl, D1, T1⟩
set_option maxRecDepth 100000 in
theorem sync_ok (h : Dk w K d mb room used fuse false M) {s : Sg} (hs : s ∈ M) (hf : fuse ≠ 0) (hf2 : fuse ≤ 9223372036854775807) : Calls Try.prog 21 #[dP d, .int .i64 s.n] w fun e w' => e = .returned (.int .i64 0) ∧ Dk w' K d mb room used (fz fuse) false (upd M (settled s)) ∧ Tn (blD d mb M) w w' ∧ ∀ k, blD d mb (upd M (settled s)) k → blD d mb M k ∨ w.heap.size ≤ k := by
  have HL := Lib.hid (dlook_ok K d mb room used fuse M w h hs)
  have HD := Lib.hid h
  clear h
  go_enter Try.func21, Try.ntmps21
  go_wp2_with (first
    | (go_at_call 49; refine HL.out.mono ?_; rintro e w' ⟨rfl, rfl⟩)
    | (go_at_call 47; refine (step_yes K d mb room used fuse M _ HD.out hf hf2).mono ?_; rintro e w1 ⟨rfl, D1, T1⟩; have hl := D1.look hs; have c2 := D1.c2; have HD1 := Lib.hid D1; have HT1 := Lib.hid T1; have hz1 := T1.size; clear D1 T1)
    | (go_at_call 50; obtain ⟨sA, sc, hsv⟩ := HD1.out.formS hs; refine (settle_any s.g sA s.b.length sc _ (by rw [← hsv]; exact (HD1.out.sg s hs).c0) (HD1.out.sg s hs).fr _ _ (HD1.out.sg s hs).c1 (HD1.out.sg s hs).c2).mono ?_; rintro e w2 ⟨rfl, rfl⟩))
  go_ret
  obtain ⟨D2, T2, B2⟩ := HD1.out.settleS hs rfl
  exact ⟨rfl, D2, (HT1.out.mono (Q := blD d mb M) (fun k _ e => .inl e)).thenQ T2 (fun k _ e => .inr (.inr ⟨s, hs, e⟩)), fun k hk => (B2 k hk).imp id fun e => Nat.le_trans hz1 e⟩
set_option maxRecDepth 100000 in
theorem read_ok (h : Dk w K d mb room used fuse false M) {s : Sg} (hs : s ∈ M) (hsz : s.b.length ≤ 140737488355328) : Calls Try.prog 37 #[dP d, .int .i64 s.n] w fun e w' => ∃ A c, e = .returned (.tuple #[.slice A s.b.length c, .int .i64 0]) ∧ Ob w' w.heap.size (.slice A s.b.length c) s.b ∧ Below w.heap.size w w' := by
  have HL := Lib.hid (dlook_ok K d mb room used fuse M w h hs)
  obtain ⟨sA, sc, hsv⟩ := h.formS hs
  have c2 := h.c2
  have hl := h.look hs
  have k0 := (h.sg s hs).c0
  have ob := (h.sg s hs).ob
  rw [hsv] at k0 ob
  have HB := Lib.hid ob.bs.1
  clear h ob
  go_enter Try.func37, Try.ntmps37
  go_wp2_with (first
    | (go_at_call 49; refine HL.out.mono ?_; rintro e w' ⟨rfl, rfl⟩)
    | (go_at_call 55; refine (clone_any _ sA s.b.length sc s.b _ rfl HB.out (Nat.le_refl _) hsz).mono ?_; rintro e w1 ⟨A1, c1, rfl, ob1, b1⟩))
  refine bodyPost_ret (v := .tuple #[.slice A1 s.b.length c1, .int .i64 0]) (by simp [results, Try.results37, go_sem]) rfl ⟨A1, c1, rfl, ob1, b1⟩
/-- Drop. -/
theorem Dk.delLook (h : Dk w K d mb room used fuse down M) {s : Sg} (hs : s ∈ M) : (Instr.lookup 56 (.map (some mb)) (.int .i64 s.n) false).run Try.prog w.drew = .ok (.pointer (some ⟨s.g, 0, none⟩)) w.drew := (h.below (⟨rfl, rfl, rfl, Nat.le_refl _, fun _ _ => rfl⟩ : Below w.heap.size w w.drew)).look hs
set_option maxRecDepth 100000 in
set_option maxHeartbeats 3200000 in
theorem drop_ok (h : Dk w K d mb room used fuse false M) {s : Sg} (hs : s ∈ M) (hf : fuse ≠ 0) (hf2 : fuse ≤ 9223372036854775807) (hu : (s.b.length : Int) ≤ used) (hu2 : used ≤ 67108864) : Calls Try.prog 22 #[dP d, .int .i64 s.n] w fun e w' => e = .returned (.int .i64 0) ∧ Dk w' K d mb room (used - s.b.length) (fz fuse) false (M.filter fun t => !decide (t.n = s.n)) ∧ Tn (blD d mb M) w w' ∧ ∀ k, blD d mb (M.filter fun t => !decide (t.n = s.n)) k → blD d mb M k := by
  have HL := Lib.hid (dlook_ok K d mb room used fuse M w h hs)
  have HD := Lib.hid h
  have n1 := (h.sg s hs).n1
  have n2 := (h.sg s hs).n2
  have hw : IntKind.i64.wrap (used - (s.b.length : Int)) = used - (s.b.length : Int) := wrap_in (by omega) (by omega)
  clear h
  go_enter Try.func22, Try.ntmps22
  go_wp2_with (first
    | (go_at_call 49; refine HL.out.mono ?_; rintro e w' ⟨rfl, rfl⟩)
    | (go_at_call 47; refine (step_yes K d mb room used fuse M _ HD.out hf hf2).mono ?_; rintro e w1 ⟨rfl, D1, T1⟩; have hl := D1.delLook hs; have c1 := D1.c1; have f1 := D1.fr 1; have c2 := D1.c2; have hk := D1.formS hs; have k0 := (D1.sg s hs).c0; have HD1 := Lib.hid D1; have HT1 := Lib.hid T1; clear D1 T1))
  obtain ⟨sA, sc, hsv⟩ := hk
  rw [hsv] at k0
  go_region_law (fail)
  all_goals
    have HD2 := Lib.hid ((HD1.out.below (⟨rfl, rfl, rfl, Nat.le_refl _, fun _ _ => rfl⟩ : Below w1.heap.size w1 w1.drew)).set1 (used - (s.b.length : Int)))
    have c22 := HD2.out.c2
    go_wp2_with (at_delete; go_loud (refine wpList_delete_own _ rfl _ _ 56 3 rfl 93 keyI Try.underlying56 ptrE mb M.length (Dm M) rfl HD2.out.mp _ _ rfl (keyOf_int_mk Try.underlying3 (wf64 (by omega) n2)) ?_; intro w3 hown3 hturn3))
    go_ret
    obtain ⟨D3, B3⟩ := HD2.out.del s.n ((Tn.ofGrown hturn3.grown).mono fun k _ e => by injection e) hown3
    exact ⟨rfl, D3, (((HT1.out.mono (Q := blD d mb M) (fun k _ e => .inl e)).thenQ (Tn.ofNew (P := blD d mb M) (⟨rfl, rfl, rfl, Nat.le_refl _, fun _ _ => rfl⟩ : Below w1.heap.size w1 w1.drew)) (fun _ _ e => e)).thenQ (Tn.setCell _ d 1 _) (fun _ _ e => .inl e)).thenQ (Tn.ofGrown hturn3.grown) (fun k _ e => .inr (.inl (by injection e))), B3⟩
end
end Go.Proofs.Ytkkaehaoahpibaa
namespace Go.Proofs.Ytkkaehaoahpibaa
open Go.RowKit Go.Maps Go.BigFrame

section
variable {K d mb : Nat} {room used fuse : Int} {down : Bool} {M : List Sg} {w : World} {n : Int}
set_option maxRecDepth 100000 in
set_option maxHeartbeats 3200000 in
theorem tear_keep (h : Dk w K d mb room used fuse down M) {s : Sg} (hs : s ∈ M) (more : Int) (hq : ((s.b.length : Int) - s.l) ≤ max more 0) (hk : s.k = true ∨ 0 < s.b.length) (hlen : s.b.length ≤ 67108864) :
    Calls Try.prog 46 #[dP d, .int .i64 s.n, .int .i64 more] w fun e w' => e = .returned (.tuple #[]) ∧ Dk w' K d mb room used fuse down (upd M (settled s)) ∧ Tn (blD d mb M) w w' ∧ ∀ k, blD d mb (upd M (settled s)) k → blD d mb M k ∨ w.heap.size ≤ k := by
  obtain ⟨sA, sc, hsv⟩ := h.formS hs
  have c2 := h.c2
  have hl := h.look hs
  have k0 := (h.sg s hs).c0
  have k1 := (h.sg s hs).c1
  have k2 := (h.sg s hs).c2
  have hle := (h.sg s hs).le
  rw [hsv] at k0
  have HD := Lib.hid h
  clear h
  have hd : decide (min (max more 0) ((s.b.length : Int) - s.l) < (s.b.length : Int) - s.l) = false := by simp; omega
  have fin : ∀ nq : Nat, Dk (((w.drewN nq).setCell ⟨s.g, 1, none⟩ (.int .i64 (s.b.length : Int))).setCell ⟨s.g, 2, none⟩ (.bool true)) K d mb room used fuse down (upd M (settled s)) ∧ Tn (blD d mb M) w (((w.drewN nq).setCell ⟨s.g, 1, none⟩ (.int .i64 (s.b.length : Int))).setCell ⟨s.g, 2, none⟩ (.bool true)) ∧ ∀ k, blD d mb (upd M (settled s)) k → blD d mb M k ∨ w.heap.size ≤ k := fun nq => by
    obtain ⟨D2, T2, B2⟩ := (HD.out.drewN nq).settleS hs rfl
    exact ⟨D2, (Tn.ofNew (P := blD d mb M) (below_drewN _ _ _)).thenQ T2 (fun k _ e => .inr (.inr ⟨s, hs, e⟩)), B2⟩
  have HF := Lib.hid fin
  clear fin hq
  cases hkk : s.k
  · have hp : 0 < s.b.length := by
      rcases hk with e | e
      · rw [hkk] at e; cases e
      · exact e
    have h0 : ((s.b.length : Int) == (0 : Int)) = false := by rw [beq_eq_false_iff_ne]; omega
    rw [hkk] at k2
    clear hk hkk
    go_enter Try.func46, Try.ntmps46
    go_wp2_with fail
    go_big_quiet (fail)
    clear hl
    go_wp2_with (go_at_call 50; go_loud (refine (settle_any s.g sA s.b.length sc (w.drewN nq) k0 (fun o => ((HD.out.drewN nq).sg s hs).fr o) _ _ k1 k2).mono ?_; rintro e w2 ⟨rfl, rfl⟩))
    go_end0
    obtain ⟨a, b, c⟩ := HF.out nq
    exact ⟨rfl, a, b, c⟩
  · rw [hkk] at k2
    clear hk hkk
    go_enter Try.func46, Try.ntmps46
    go_wp2_with fail
    go_big_quiet (fail)
    clear hl
    go_wp2_with (go_at_call 50; go_loud (refine (settle_any s.g sA s.b.length sc (w.drewN nq) k0 (fun o => ((HD.out.drewN nq).sg s hs).fr o) _ _ k1 k2).mono ?_; rintro e w2 ⟨rfl, rfl⟩))
    go_end0
    obtain ⟨a, b, c⟩ := HF.out nq
    exact ⟨rfl, a, b, c⟩

set_option maxRecDepth 100000 in
set_option maxHeartbeats 3200000 in
theorem tear_drop (h : Dk w K d mb room used fuse down M) {s : Sg} (hs : s ∈ M) (more : Int) (hk : s.k = false) (hb : s.b = []) :
    Calls Try.prog 46 #[dP d, .int .i64 s.n, .int .i64 more] w fun e w' => e = .returned (.tuple #[]) ∧ Dk w' K d mb room used fuse down (M.filter fun t => !decide (t.n = s.n)) ∧ Tn (blD d mb M) w w' ∧ ∀ k, blD d mb (M.filter fun t => !decide (t.n = s.n)) k → blD d mb M k := by
  obtain ⟨sA, sc, hsv⟩ := h.formS hs
  have c2 := h.c2
  have hl := h.look hs
  have k0 := (h.sg s hs).c0
  have k1 := (h.sg s hs).c1
  have k2 := (h.sg s hs).c2
  have hle := (h.sg s hs).le
  have n1 := (h.sg s hs).n1
  have n2 := (h.sg s hs).n2
  have hl0 : s.l = 0 := by rw [hb] at hle; simpa using hle
  rw [hsv, hb] at k0
  rw [hl0] at k1
  rw [hk] at k2
  simp only [List.length_nil] at k0
  have hm0 : decide (min (max more 0) (0 : Int) < 0) = false := by simp; omega
  have HD := Lib.hid h
  clear h hle
  go_enter Try.func46, Try.ntmps46
  go_wp2_with fail
  go_big_quiet (fail)
  clear hl
  go_wp2_with (at_delete; go_loud (refine wpList_delete_own _ rfl _ _ 56 3 rfl 93 keyI Try.underlying56 ptrE mb M.length (Dm M) rfl (HD.out.drewN nq).mp _ _ rfl (keyOf_int_mk Try.underlying3 (wf64 (by omega) n2)) ?_; intro w3 hown3 hturn3))
  obtain ⟨D3, B3⟩ := (HD.out.drewN nq).del s.n ((Tn.ofGrown hturn3.grown).mono fun k _ e => by injection e) hown3
  refine bodyPost_ret (v := .tuple #[]) (by simp [results, Try.results46, go_sem]) rfl ⟨rfl, D3, (Tn.ofNew (P := blD d mb M) (below_drewN _ _ _)).thenQ (Tn.ofGrown hturn3.grown) (fun k _ e => .inr (.inl (by injection e))), B3⟩
end
end Go.Proofs.Ytkkaehaoahpibaa
namespace Go.Proofs.Ytkkaehaoahpibaa
open Go.RowKit Go.Maps Go.BigFrame

theorem Bs.to {w : World} {K cap : Nat} {A : Option Addr} {l : List UInt8} (h : Bs w K A cap l) {j : Nat} (hj : j ≤ l.length) : Bs w K A cap (l.take j) := by
  have hle := h.le
  have hlen : (l.take j).length = j := by simp; omega
  refine ⟨by omega, h.max, h.nil, fun hn => ?_⟩
  obtain ⟨ad, e, hb, hc⟩ := h.at_ (by omega)
  refine ⟨ad, e, hb, fun k c hk => hc k c ?_⟩
  rw [List.getElem?_take] at hk
  split at hk
  · exact hk
  · cases hk
theorem upd_upd (M : List Sg) {a b : Sg} (e : a.n = b.n) : upd (upd M a) b = upd M b := by
  unfold upd
  rw [List.map_map]
  refine List.map_congr_left fun t _ => ?_
  show (if (if t.n = a.n then a else t).n = b.n then b else (if t.n = a.n then a else t)) = if t.n = b.n then b else t
  by_cases h : t.n = a.n
  · rw [if_pos h, if_pos e, if_pos (h.trans e)]
  · rw [if_neg h]
theorem filter_upd (M : List Sg) (a : Sg) : ((upd M a).filter fun t => !decide (t.n = a.n)) = M.filter fun t => !decide (t.n = a.n) := by
  induction M with
  | nil => rfl
  | cons x M ih =>
    have e : upd (x :: M) a = (if x.n = a.n then a else x) :: upd M a := rfl
    rw [e]
    by_cases h : x.n = a.n
    · rw [if_pos h, List.filter_cons, List.filter_cons, ih]
      simp [h]
    · rw [if_neg h, List.filter_cons, List.filter_cons, ih]
theorem mem_upd_self {M : List Sg} {s a : Sg} (hs : s ∈ M) (e : a.n = s.n) : a ∈ upd M a := List.mem_map.2 ⟨s, hs, by simp [e]⟩
section
variable {K d mb : Nat} {room used fuse : Int} {down : Bool} {M : List Sg} {w : World} {n : Int}
/-- What a cut of a segment leaves, ahead of its settling. -/
theorem Dk.cutS {w2 : World} (h : Dk w K d mb room used fuse down M) {s : Sg} (hs : s ∈ M) {j : Nat} (hj : s.l ≤ j) (hj2 : j ≤ s.b.length) {A2 : Option Addr} {c2 N : Nat} (hN : N = j) (hb : Below w.heap.size w w2) (ob : Ob w2 w.heap.size (.slice A2 N c2) (s.b.take j)) :
    Dk (w2.setCell ⟨s.g, 0, none⟩ (.slice A2 N c2)) K d mb room used fuse down (upd M ⟨s.n, s.g, .slice A2 N c2, s.b.take j, s.l, s.k⟩) ∧ Tn (bl s) w (w2.setCell ⟨s.g, 0, none⟩ (.slice A2 N c2)) ∧ ∀ k, blD d mb (upd M ⟨s.n, s.g, .slice A2 N c2, s.b.take j, s.l, s.k⟩) k → blD d mb M k ∨ w.heap.size ≤ k := by
  subst hN
  have h2 := h.below hb
  have hc := h2.sg s hs
  have hlt := (h.sg s hs).lt
  have hKw : K ≤ w.heap.size := by have := h.kd; have := h.lt; omega
  have t4 := Tn.setCell w2 s.g 0 (.slice A2 N c2)
  have ho : (Value.slice A2 N c2).ownBlock ≠ some s.g := fun e => by have := (ob.lt _ e).1; omega
  have hlen : (s.b.take N).length = N := by simp; omega
  obtain ⟨D, B⟩ := h2.setN (N := w.heap.size) (fun _ hk => (h.top hk).2) (s' := ⟨s.n, s.g, .slice A2 N c2, s.b.take N, s.l, s.k⟩) hs rfl rfl (t4.mono fun k _ e => .inl e) ⟨World.cell?_setCell_same' _ _ _ (by rw [hc.c0]; rfl), by rw [World.cell?_setCell_other _ _ _ _ (by simp)]; exact hc.c1, by rw [World.cell?_setCell_other _ _ _ _ (by simp)]; exact hc.c2, fun o => by rw [World.frozen?_setCell]; exact hc.fr o, (t4.ob ob fun k hk e => ho (by rw [hk, e])).more hKw, hc.kg, by show s.l ≤ (s.b.take N).length; omega, ho, hc.n1, hc.n2⟩ (.inr fun k hk => (ob.lt k hk).1)
  exact ⟨D, (Tn.ofNew (P := bl s) hb).thenQ t4 fun k _ e => .inl e, B⟩
end
end Go.Proofs.Ytkkaehaoahpibaa
