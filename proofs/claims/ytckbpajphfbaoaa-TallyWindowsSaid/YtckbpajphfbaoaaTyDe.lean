/- TallyDeltas: its walk. -/
import Derived.Test.YtckbpajphfbaoaaTyH
import Derived.Deep.CutBlock
namespace Go.Proofs.Ytckbpajphfbaoaa
open Go.RowKit Go.BigFrame

theorem u64_of (t : Int) : ∃ U : Nat, IntKind.u64.wrap t = (U : Int) ∧ U < 18446744073709551616 := by
  refine ⟨(t % 18446744073709551616).toNat, ?_, by omega⟩
  simp [IntKind.wrap, IntKind.bits, IntKind.signed]
  omega
def Ok0 (w : World) (e : Ending) (w' : World) : Prop := e = .returned (.bool true) ∧ Below w.heap.size w w'
theorem undS : Try.prog.underlying 26 = some (.slice (Try.prog.elem 26)) := Try.underlying26
theorem szS : ∀ w, (sizeOf (Try.prog.elem 26)).run Try.prog w = .ok 2 w := fun _ => by kernel_rfl
/-- What Delta tells of a list that isn't empty, nor too long. -/
theorem delta_is {l : List Smp} (h0 : 0 < l.length) (h1 : l.length ≤ 65536) : foldB 5 l = ((rangeB (lastI l - firstI l)).1, ((rangeB (lastI l - firstI l)).2 == 0), (rangeB (lastI l - firstI l)).2) := by
  have hb : ¬ badB 5 l = true := by
    unfold badB
    simp
    omega
  have hn : ¬ l = [] := by rintro rfl; simp at h0
  unfold foldB
  rw [if_neg hb, if_neg hn]
  rfl
theorem range_cases (x : Int) : (rangeB x = (x, 0) ∧ -9223372036854775808 ≤ x ∧ x ≤ 9223372036854775807) ∨ rangeB x = (0, 20) := by
  unfold rangeB
  split
  · exact .inl ⟨rfl, by assumption⟩
  · exact .inr rfl
theorem first_take {l : List Smp} {k : Nat} : firstI (l.take (k + 1)) = firstI l := by cases l <;> simp [firstI]
theorem last_take {l : List Smp} {k : Nat} (h : k < l.length) : lastI (l.take (k + 1)) = (l.getD k (0, 0)).2 := by
  unfold lastI
  rw [List.length_take, show min (k + 1) l.length - 1 = k by omega, List.getD_eq_getElem?_getD, List.getD_eq_getElem?_getD, List.getElem?_take, if_pos (by omega)]
theorem first_drop {l : List Smp} {k : Nat} : firstI (l.drop k) = (l.getD k (0, 0)).2 := by
  unfold firstI
  rw [List.getD_eq_getElem?_getD, List.getD_eq_getElem?_getD, List.getElem?_drop, Nat.add_zero]
theorem last_drop {l : List Smp} {k : Nat} (h : k < l.length) : lastI (l.drop k) = lastI l := by
  unfold lastI
  rw [List.length_drop, List.getD_eq_getElem?_getD, List.getD_eq_getElem?_getD, List.getElem?_drop, show k + (l.length - k - 1) = l.length - 1 by omega]

set_option maxRecDepth 100000 in
set_option maxHeartbeats 3200000 in
theorem tydeltas_any (A0 : Option Addr) (cap0 : Nat) (l : List Smp) (t : Int) (w : World) (h0 : Sr encS 2 w w.heap.size A0 cap0 l) (ho : ∀ u ∈ l, Sok u) (hl : l.length * 16 ≤ 140737488355328) (_ht : -9223372036854775808 ≤ t ∧ t ≤ 9223372036854775807) :
    Calls Try.prog 8 #[.slice A0 l.length cap0, .int .i64 t] w (Ok0 w) := by
  have HTo := Lib.hid (to_any w.heap.size A0 l.length cap0 l w rfl h0 (Nat.le_refl _) hl)
  have HO := Lib.hid ho
  clear h0 ho
  go_enter Try.func8, Try.ntmps8
  go_wp2_with fail
  refine HTo.out.mono ?_
  rintro e w1 ⟨A, cap, rfl, so1, b1⟩
  have s1 := (so1.sr encS_len).1
  have hle := s1.le
  have hmax := s1.max
  unfold maxLen at hmax
  have HS1 := Lib.hid s1
  have HB1 := Lib.hid b1
  clear so1 s1 b1 HTo
  go_wp2_with fail
  refine (awake_any _).mono ?_
  rintro e w2 ⟨rfl, b2⟩
  have HS2 := Lib.hid ((HS1.out.below b2).more b2.size)
  have HB2 := Lib.hid (HB1.out.trans (b2.mono HB1.out.size))
  clear b2 HS1 HB1
  by_cases hz : l.length = 0
  · have i1 : ((l.length : Int) == 0) = true := by rw [hz]; rfl
    clear hl hle hmax hz
    go_wp2_with fail
    refine (awake_any _).mono ?_
    rintro e w3 ⟨rfl, b3⟩
    go_wp2_with fail
    go_ret
    exact ⟨rfl, HB2.out.trans (b3.mono HB2.out.size)⟩
  have i1 : ((l.length : Int) == 0) = false := beq_eq_false_iff_ne.2 (by omega)
  by_cases hbig : 65536 < l.length
  · have i2 : (65536 : Int) < l.length := by omega
    go_wp2_with fail
    refine (awake_any _).mono ?_
    rintro e w3 ⟨rfl, b3⟩
    go_wp2_with fail
    go_ret
    exact ⟨rfl, HB2.out.trans (b3.mono HB2.out.size)⟩
  have i2 : ¬ (65536 : Int) < l.length := by omega
  obtain ⟨U, hu, huB⟩ := u64_of t
  obtain ⟨k, hk, hkb⟩ : ∃ k : Nat, (U : Int) % (l.length : Int) = (k : Int) ∧ k < l.length := ⟨U % l.length, (Int.natCast_emod U l.length).symm, Nat.mod_lt _ (by omega)⟩
  have hs1 : ∀ W, (Instr.slice 26 (.slice A l.length cap) none (some (.int .i64 ((k : Int) + 1))) none).run Try.prog W = .ok (.slice A (k + 1) cap) W := fun W => slice_toK undS szS A l.length cap (k + 1) (by omega) W
  have hs2 := fun W => slice_fromK undS szS A l.length cap k (by omega) W
  have HF1 := Lib.hid (fun W (h : Below w2.heap.size w2 W) => fold_any 5 w2.heap.size A (k + 1) cap (l.take (k + 1)) W (by simp; omega) ((HS2.out.to (j := k + 1) (by omega)).below h) h.size (fun x hx => HO.out x (List.mem_of_mem_take hx)))
  have HF2 := Lib.hid (fun W (h : Below w2.heap.size w2 W) => fold_any 5 w2.heap.size (if cap = k then A else A.map (·.add (k * 2))) (l.length - k) (cap - k) (l.drop k) W (by simp) ((HS2.out.from (j := k) (by omega)).below h) h.size (fun x hx => HO.out x (List.mem_of_mem_drop hx)))
  have HF3 := Lib.hid (fun W (h : Below w2.heap.size w2 W) => fold_any 5 w2.heap.size A l.length cap l W rfl (HS2.out.below h) h.size HO.out)
  rw [delta_is (by simp; omega) (by simp; omega), first_take, last_take hkb] at HF1
  rw [delta_is (by simp; omega) (by simp; omega), first_drop, last_drop hkb] at HF2
  rw [delta_is (by omega) (by omega)] at HF3
  generalize (l.getD k (0, 0)).2 = y at *
  generalize lastI l = z at *
  generalize firstI l = x at *
  generalize (if cap = k then A else A.map (·.add (k * 2))) = A2 at *
  have c1 := range_cases (y - x)
  have c2 := range_cases (z - y)
  have c3 := range_cases (z - x)
  obtain ⟨p1, hp1⟩ : ∃ p, p = rangeB (y - x) := ⟨_, rfl⟩
  obtain ⟨p2, hp2⟩ : ∃ p, p = rangeB (z - y) := ⟨_, rfl⟩
  obtain ⟨p3, hp3⟩ : ∃ p, p = rangeB (z - x) := ⟨_, rfl⟩
  rw [← hp1] at HF1 c1
  rw [← hp2] at HF2 c2
  rw [← hp3] at HF3 c3
  obtain ⟨v1, e1⟩ := p1
  obtain ⟨v2, e2⟩ := p2
  obtain ⟨v3, e3⟩ := p3
  have C1 := Lib.hid c1
  have C2 := Lib.hid c2
  have C3 := Lib.hid c3
  have HR := Lib.hid (Below.refl w2.heap.size w2)
  have i3 : ¬ l.length = 0 := hz
  have HU := Lib.hid huB
  clear c1 c2 c3 hp1 hp2 hp3 huB hbig hz hl HO HS2 hle hmax
  go_wp2_with fail
  refine (HF1.out _ HR.out).mono ?_
  rintro e w3 ⟨rfl, b3⟩
  have HR3 := Lib.hid (HR.out.trans (b3.mono HR.out.size))
  clear b3
  go_wp2_with fail
  refine (HF2.out _ HR3.out).mono ?_
  rintro e w4 ⟨rfl, b4⟩
  have HR4 := Lib.hid (HR3.out.trans (b4.mono HR3.out.size))
  clear b4
  go_wp2_with fail
  refine (HF3.out _ HR4.out).mono ?_
  rintro e w5 ⟨rfl, b5⟩
  have HR5 := Lib.hid (HB2.out.trans ((HR4.out.trans (b5.mono HR4.out.size)).mono HB2.out.size))
  clear b5 HF1 HF2 HF3 HR HR3 HR4 HB2 hs1 hs2 hk hkb hu HU i2
  rcases C1.out with ⟨c1, q1, q2⟩ | c1 <;> rcases C2.out with ⟨c2, q3, q4⟩ | c2 <;> rcases C3.out with ⟨c3, q5, q6⟩ | c3
  all_goals injection c1 with c1 c1'
  all_goals injection c2 with c2 c2'
  all_goals injection c3 with c3 c3'
  all_goals subst c1' c2' c3'
  case inl.inl.inl =>
    have hs : v1 + v2 = v3 := by omega
    have hw : wrap64 (v1 + v2) = v3 := by unfold wrap64; omega
    clear C1 C2 C3 c1 c2 c3 q1 q2 q3 q4 q5 q6 hs
    go_wp2_with fail
    go_ret
    exact ⟨rfl, HR5.out⟩
  all_goals
    clear C1 C2 C3 c1 c2 c3
    go_wp2_with fail
    go_ret
    exact ⟨rfl, HR5.out⟩
end Go.Proofs.Ytckbpajphfbaoaa
