/- Members of a view: areMembers, slices.Index, slices.Contains, slices.Clone over ints, view.Right. -/
import Derived.Test.YtcgkbpjfbahleaaVwM
import Derived.Test.YtcgkbpjfbahleaaEnI
import Derived.LoopTactic
import Derived.Lib.SliceRun
import Derived.BigQuiet
import Derived.Deep.QuietTactic
namespace Go.Proofs.Ytcgkbpjfbahleaa
open Go.RowKit Go.BigFrame

theorem info_i64 : (Try.prog.info? 3).map (fun i => (i.zero, i.size, i.bytes)) = some (some (.int .i64 0), 1, 8) := by kernel_rfl
theorem take_snocI (l : List Int) (k : Nat) (h : k < l.length) : l.take (k + 1) = l.take k ++ [l[k]] := by
  rw [List.take_succ_eq_append_getElem h]
set_option maxHeartbeats 800000 in
theorem mems_any (K : Nat) (A : Option Addr) (n cap : Nat) (l : List Int) (w : World) (hn : l.length = n) (hp : Sr encI 1 w K A cap l) :
    Calls Try.prog 32 #[.slice A n cap] w fun e w' => e = .returned (.bool (memsB l)) ∧ w = w' := by
  subst hn
  have hle := hp.le
  have hmax := hp.max
  unfold maxLen at hmax
  have HP := Lib.hid hp
  clear hp
  go_enter Try.func32, Try.ntmps32
  go_wp2
  go_loop [3, 8] (fun lv iv => ∃ (k : Nat) (q : Int), k ≤ l.length ∧ iv = .int .i64 k ∧ lv = .int .i64 q ∧ Hid (q = (l.take k).getLastD (-1)) ∧ Hid (riseB (-1) (l.take k) = true)) (fun _ i => l.length - (intOf i).toNat)
  case atStart => exact ⟨0, -1, Nat.zero_le _, rfl, rfl, Lib.hid rfl, Lib.hid rfl⟩
  case round =>
    obtain ⟨k, q, hk, rfl, rfl, HQ, HR⟩ := hrel
    by_cases hlt : k < l.length
    · obtain ⟨ad, rfl, hadK, hc⟩ := HP.out.int hlt
      have HS := Lib.hid (take_snocI l k hlt)
      generalize l[k] = x at *
      have HX : Hid (riseB (-1) (l.take (k + 1)) = (decide (q < x) && decide (x < 8))) := Lib.hid (by rw [HS.out, riseB_snoc, HR.out, HQ.out]; simp)
      have HY : Hid (x = (l.take (k + 1)).getLastD (-1)) := Lib.hid (by rw [HS.out]; simp)
      by_cases c1 : x ≤ q
      · have HZ : Hid (false = memsB l) := Lib.hid (by
          unfold memsB
          cases hr : riseB (-1) l with
          | false => rfl
          | true => have := riseB_take hr (k + 1); rw [HX.out] at this; simp at this; omega)
        have d1 : decide (x ≤ q) = true := by simpa using c1
        clear c1
        go_wp2
        go_ret
        exact ⟨ret_bool HZ.out, rfl⟩
      · have d1 : decide (x ≤ q) = false := by simpa using c1
        have d1' := c1
        clear c1
        by_cases c2 : 8 ≤ x
        · have HZ : Hid (false = memsB l) := Lib.hid (by
            unfold memsB
            cases hr : riseB (-1) l with
            | false => rfl
            | true => have := riseB_take hr (k + 1); rw [HX.out] at this; simp at this; omega)
          have d2 : decide (8 ≤ x) = true := by simpa using c2
          clear c2
          go_wp2
          go_ret
          exact ⟨ret_bool HZ.out, rfl⟩
        · have d2 : decide (8 ≤ x) = false := by simpa using c2
          have HZ : Hid (riseB (-1) (l.take (k + 1)) = true) := Lib.hid (by rw [HX.out]; simp; omega)
          clear c2 d1'
          go_wp2
          go_round
          case rel => exact ⟨k + 1, x, by omega, by go_num, rfl, Lib.hid HY.out, Lib.hid HZ.out⟩
          case measure => simp [intOf]; omega
    · have hkl : k = l.length := by omega
      subst hkl
      have HZ : Hid (decide (0 < (l.length : Int)) = memsB l) := Lib.hid (by
        have := HR.out
        rw [List.take_length] at this
        unfold memsB; rw [this]; simp)
      go_wp2
      go_ret
      exact ⟨ret_bool (by rw [← HZ.out]; simp), rfl⟩

/-- slices.Index tells a place, or -1. -/
def IdxP (l : List Int) (v : Int) (w : World) (e : Ending) (w' : World) : Prop := ∃ r : Int, e = .returned (.int .i64 r) ∧ hasB l v = decide (0 ≤ r) ∧ w = w'
set_option maxHeartbeats 800000 in
theorem idx_any (K : Nat) (A : Option Addr) (n cap : Nat) (l : List Int) (v : Int) (w : World) (hn : l.length = n) (hp : Sr encI 1 w K A cap l) :
    Calls Try.prog 47 #[.slice A n cap, .int .i64 v] w (IdxP l v w) := by
  subst hn
  have hle := hp.le
  have hmax := hp.max
  unfold maxLen at hmax
  have HP := Lib.hid hp
  clear hp
  go_enter Try.func47, Try.ntmps47
  go_wp2
  go_loop [8] (fun iv => ∃ (k : Nat), k ≤ l.length ∧ iv = .int .i64 k ∧ Hid (v ∉ l.take k)) (fun i => l.length - (intOf i).toNat)
  case atStart => exact ⟨0, Nat.zero_le _, rfl, Lib.hid (by simp)⟩
  case round =>
    obtain ⟨k, hk, rfl, HR⟩ := hrel
    by_cases hlt : k < l.length
    · obtain ⟨ad, rfl, hadK, hc⟩ := HP.out.int hlt
      have HS := Lib.hid (take_snocI l k hlt)
      have HM : Hid (l[k] ∈ l) := Lib.hid (List.getElem_mem hlt)
      generalize l[k] = x at *
      by_cases c1 : v = x
      · subst c1
        have HZ : Hid (hasB l v = decide ((0 : Int) ≤ (k : Int))) := Lib.hid (by unfold hasB; simp [HM.out])
        go_wp2
        go_ret
        exact ⟨_, rfl, HZ.out, rfl⟩
      · have d1 : (v == x) = false := by simpa using c1
        have HZ : Hid (v ∉ l.take (k + 1)) := Lib.hid (by rw [HS.out]; simp only [List.mem_append, List.mem_singleton, not_or]; exact ⟨HR.out, c1⟩)
        clear c1
        go_wp2
        go_round
        case rel => exact ⟨k + 1, by omega, by go_num, Lib.hid HZ.out⟩
        case measure => simp [intOf]; omega
    · have hkl : k = l.length := by omega
      subst hkl
      have HZ : Hid (hasB l v = decide ((0 : Int) ≤ -1)) := Lib.hid (by
        have := HR.out
        rw [List.take_length] at this
        unfold hasB; simp [this])
      go_wp2
      go_ret
      exact ⟨_, rfl, HZ.out, rfl⟩
set_option maxHeartbeats 400000 in
theorem has_any (K : Nat) (A : Option Addr) (n cap : Nat) (l : List Int) (v : Int) (w : World) (hn : l.length = n) (hp : Sr encI 1 w K A cap l) :
    Calls Try.prog 34 #[.slice A n cap, .int .i64 v] w fun e w' => e = .returned (.bool (hasB l v)) ∧ w = w' := by
  have HP := Lib.hid (idx_any K A n cap l v w hn hp)
  clear hp
  go_enter Try.func34, Try.ntmps34
  go_wp2_with fail
  refine HP.out.mono ?_
  rintro e w' ⟨r, rfl, hr, rfl⟩
  have HR := Lib.hid hr
  clear hr
  go_wp2_with fail
  go_ret
  exact ⟨ret_bool (by rw [HR.out]), rfl⟩
/-- A new slice of ints. -/
def NewI (w : World) (l : List Int) (e : Ending) (w' : World) : Prop := ∃ A' cap', e = .returned (.slice A' l.length cap') ∧ So encI 1 w' w.heap.size 3 (.slice A' l.length cap') l ∧ Below w.heap.size w w'
theorem grown_belowI {W w w1 : World} {v : Value} {B : Nat} (h : Below B W w) (hg : w.grownBy w1 v.ownBlock) (hB : B ≤ w.heap.size) (ho : ∀ k, v.ownBlock = some k → B ≤ k) : Below B W w1 := h.grown hg hB ho
theorem clone_ints (K : Nat) (A : Option Addr) (n cap : Nat) (l : List Int) (w : World) (hn : l.length = n) (hb : Sr encI 1 w K A cap l) (hK : K ≤ w.heap.size) (hsz : l.length * 8 ≤ 140737488355328) :
    Calls Try.prog 33 #[.slice A n cap] w (NewI w l) := by
  subst hn
  have hle := hb.le
  have hmax := hb.max
  unfold maxLen at hmax
  cases A with
  | none =>
    have hc := hb.nil rfl
    have hl : l = [] := List.eq_nil_of_length_eq_zero (by omega)
    subst hl hc
    have hq := Lib.run_eql_slice_nil (P := Try.prog) w 22 3 none 0 0 0 0 Try.underlying22
    go_enter Try.func33, Try.ntmps33
    go_wp2
    go_ret
    exact ⟨none, 0, rfl, So.empty _ _ _ _ _, Below.refl _ _⟩
  | some ad =>
    have hq := Lib.run_eql_slice_nil (P := Try.prog) w 22 3 (some ad) l.length cap 0 0 Try.underlying22
    go_enter Try.func33, Try.ntmps33
    go_wp2_with (at_builtin; refine wpList_appE Try.underlying22 info_i64 (by kernel_rfl) (by decide) encI_len encI_one _ rfl (.tmp 5) (.tmp 6) rfl w.heap.size (.slice (some ⟨w.heap.size, 0, none⟩) 0 0) [] rfl (lit_so (α := Int) (enc := encI) (k := 1) w w.heap.size 3 w.heap.size rfl (Nat.le_refl _) _ 0 [] encI_len rfl rfl (by decide)) (some ad) l.length cap l rfl rfl K (hb.alloc hK _) l.length (by simp) (by unfold maxLen; omega) (by omega) (by simp) ?_; intro A2 cap2 w2 hown2 hgrow2 hat2; have B2 : Below w.heap.size w w2 := grown_belowI ((Below.refl _ _).alloc (Nat.le_refl _) _) hgrow2 (by simp) (by simp [Value.ownBlock]))
    go_ret
    exact ⟨A2, cap2, rfl, hown2, B2⟩
set_option maxHeartbeats 800000 in
/-- view.Right of a view by value. -/
theorem vright_any (e p : Int) (K : Nat) (A : Option Addr) (n cap : Nat) (l : List Int) (w : World) (hn : l.length = n) (hp : Sr encI 1 w K A cap l) (hK : K ≤ w.heap.size) :
    Calls Try.prog 19 #[.agg #[.int .i64 e, .int .i64 p, .slice A n cap]] w fun r w' => r = .returned (.bool (rightV e p l)) ∧ Below w.heap.size w w' := by
  subst hn
  have HM := Lib.hid (mems_any K A l.length cap l (w.alloc (.cells #[.int .i64 e, .int .i64 p, .slice A l.length cap] 37)) rfl (hp.alloc hK _))
  have HC := Lib.hid (has_any K A l.length cap l p (w.alloc (.cells #[.int .i64 e, .int .i64 p, .slice A l.length cap] 37)) rfl (hp.alloc hK _))
  have HB : Hid (Below w.heap.size w (w.alloc (.cells #[.int .i64 e, .int .i64 p, .slice A l.length cap] 37))) := Lib.hid ((Below.refl _ _).alloc (Nat.le_refl _) _)
  clear hp hK
  have HR : ∀ (b1 b2 b3 b4 : Bool), decide (1 ≤ e) = b1 → decide (e ≤ 4611686018427387904) = b2 → memsB l = b3 → hasB l p = b4 → Hid (rightV e p l = (b1 && b2 && b3 && b4)) := by
    rintro b1 b2 b3 b4 rfl rfl rfl rfl
    exact Lib.hid rfl
  cases h1 : decide (1 ≤ e) with
  | false =>
    have HQ := Lib.hid ((HR _ _ _ _ h1 rfl rfl rfl).out)
    clear HR
    go_enter Try.func19, Try.ntmps19
    go_wp2_with fail
    go_ret
    exact ⟨ret_bool (by rw [HQ.out]; rfl), HB.out⟩
  | true =>
    cases h2 : decide (e ≤ 4611686018427387904) with
    | false =>
      have HQ := Lib.hid ((HR _ _ _ _ h1 h2 rfl rfl).out)
      clear HR
      go_enter Try.func19, Try.ntmps19
      go_wp2_with fail
      go_ret
      exact ⟨ret_bool (by rw [HQ.out]; rfl), HB.out⟩
    | true =>
      cases h3 : memsB l with
      | false =>
        rw [h3] at HM
        have HQ := Lib.hid ((HR _ _ _ _ h1 h2 h3 rfl).out)
        clear HR h3
        go_enter Try.func19, Try.ntmps19
        go_wp2_with (go_at_call 32; refine HM.out.mono ?_; rintro r w1 ⟨rfl, rfl⟩)
        go_ret
        exact ⟨ret_bool (by rw [HQ.out]; rfl), HB.out⟩
      | true =>
        rw [h3] at HM
        have HQ := Lib.hid ((HR _ _ _ _ h1 h2 h3 rfl).out)
        clear HR h3
        go_enter Try.func19, Try.ntmps19
        go_wp2_with (first
          | (go_at_call 32; refine HM.out.mono ?_; rintro r w1 ⟨rfl, rfl⟩)
          | (go_at_call 34; refine HC.out.mono ?_; rintro r w1 ⟨rfl, rfl⟩))
        go_ret
        exact ⟨ret_bool (by rw [HQ.out]; rfl), HB.out⟩
end Go.Proofs.Ytcgkbpjfbahleaa
