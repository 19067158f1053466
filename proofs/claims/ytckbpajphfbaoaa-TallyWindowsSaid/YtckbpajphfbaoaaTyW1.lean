/- The program's ahead: with how many samples ahead of a time a list begins; its spans. -/
import Derived.Test.YtckbpajphfbaoaaTyDe
import Derived.BigQuiet
namespace Go.Proofs.Ytckbpajphfbaoaa
open Go.RowKit

/-- With how many samples ahead of a time a list begins. -/
def ah (l : List Smp) (T : Int) : Nat := (l.takeWhile fun s => decide (s.1 < T)).length
theorem ah_le (l : List Smp) (T : Int) : ah l T ≤ l.length := by
  have := congrArg List.length (List.takeWhile_append_dropWhile (p := fun s : Smp => decide (s.1 < T)) (l := l))
  rw [List.length_append] at this
  unfold ah
  omega
theorem ah_at {l : List Smp} {T : Int} {k : Nat} (hk : k < l.length) (h : ∀ j (hj : j < k), l[j].1 < T) (hx : ¬ l[k].1 < T) : ah l T = k := by
  induction l generalizing k with
  | nil => simp at hk
  | cons x l ih =>
    cases k with
    | zero =>
      simp only [List.getElem_cons_zero] at hx
      unfold ah
      rw [List.takeWhile_cons, if_neg (by simpa using hx)]
      rfl
    | succ k =>
      have h0 := h 0 (by omega)
      simp only [List.getElem_cons_zero] at h0
      have := ih (k := k) (by simpa using hk) (fun j hj => by have := h (j + 1) (by omega); simpa using this) (by simpa using hx)
      unfold ah at this ⊢
      rw [List.takeWhile_cons, if_pos (by simpa using h0), List.length_cons, this]
theorem ah_all {l : List Smp} {T : Int} (h : ∀ j (hj : j < l.length), l[j].1 < T) : ah l T = l.length := by
  induction l with
  | nil => rfl
  | cons x l ih =>
    have h0 := h 0 (by simp)
    simp only [List.getElem_cons_zero] at h0
    have := ih fun j hj => by have := h (j + 1) (by simp; omega); simpa using this
    unfold ah at this ⊢
    rw [List.takeWhile_cons, if_pos (by simpa using h0), List.length_cons, this, List.length_cons]
set_option maxHeartbeats 800000 in
theorem ahead1_any (x : Smp) (b : Nat) (T : Int) (w : World) (h : w.cell? ⟨b, 0, none⟩ = some (.int .i64 T)) :
    Calls Try.prog 30 #[agS x, .pointer (some ⟨b, 0, none⟩)] w fun e w' => e = .returned (.bool (decide (T ≤ x.1))) ∧ Below w.heap.size w w' := by
  have hb := World.block_lt_of_cell? w _ h
  go_enter Try.func30, Try.ntmps30
  go_wp2
  go_ret
  exact ⟨rfl, by go_grown⟩
/-- What IndexFunc tells. -/
def ixI (l : List Smp) (T : Int) : Int := if ah l T = l.length then -1 else (ah l T : Int)
set_option maxRecDepth 100000 in
set_option maxHeartbeats 1600000 in
theorem index_any (K : Nat) (A : Option Addr) (n cap : Nat) (l : List Smp) (b : Nat) (T : Int) (w : World) (hln : l.length = n) (hp : Sr encS 2 w K A cap l) (hK : K ≤ w.heap.size) (h : w.cell? ⟨b, 0, none⟩ = some (.int .i64 T)) :
    Calls Try.prog 29 #[.slice A n cap, .func (.func 30) #[] #[.pointer (some ⟨b, 0, none⟩)]] w fun e w' => e = .returned (.int .i64 (ixI l T)) ∧ Below w.heap.size w w' := by
  subst hln
  have hle := hp.le
  have hmax := hp.max
  unfold maxLen at hmax
  go_enter Try.func29, Try.ntmps29
  go_wp2
  go_loopw [8] (fun i wr => ∃ (k : Nat), k ≤ l.length ∧ i = .int .i64 k ∧ Hid (∀ j (hj : j < l.length), j < k → l[j].1 < T) ∧ Below w.heap.size w wr) (fun i _ => l.length - (intOf i).toNat)
  case atStart => exact ⟨0, Nat.zero_le _, rfl, Lib.hid (fun j _ h => absurd h (by omega)), Below.refl _ _⟩
  case round =>
    obtain ⟨k, hk, rfl, HJ, hbl⟩ := hrel
    have z := hbl.size
    have hc := kept hbl h
    by_cases hlt : k < l.length
    · obtain ⟨ad, rfl, hadK, h1, h2⟩ := s_cells (hp.below (hbl.mono hK)) hlt
      have HX : Hid (∀ x, l[k] = x → (∀ (hx : T ≤ x.1), ixI l T = (k : Int)) ∧ (¬ T ≤ x.1 → ∀ j (hj : j < l.length), j < k + 1 → l[j].1 < T)) := Lib.hid (fun x hx => ⟨fun hT => by
          have e : ah l T = k := ah_at hlt (fun j hj => HJ.out j (by omega) hj) (by rw [hx]; omega)
          unfold ixI
          rw [e, if_neg (by omega)], fun hT j hj hjk => by
          by_cases e : j = k
          · subst e; rw [hx]; omega
          · exact HJ.out j hj (by omega)⟩)
      generalize hxx : l[k] = x at *
      have HXX := Lib.hid (HX.out x rfl)
      clear HX hxx
      obtain ⟨xn, xv⟩ := x
      simp only at h1 h2
      have HA := Lib.hid (ahead1_any (xn, xv) b T wr hc)
      cases hd : decide (T ≤ xn) with
      | true =>
        have HA2 : Hid (Calls Try.prog 30 #[agS (xn, xv), .pointer (some ⟨b, 0, none⟩)] wr fun e w' => e = .returned (.bool true) ∧ Below wr.heap.size wr w') := Lib.hid (by have := HA.out; simp only [hd] at this; exact this)
        have HI := Lib.hid (HXX.out.1 (of_decide_eq_true hd))
        clear HA hd
        go_wp2_with (go_at_call 30; refine HA2.out.mono ?_; rintro e w1 ⟨rfl, hb1⟩)
        go_ret
        exact ⟨ret_int HI.out.symm, hbl.trans (hb1.mono z)⟩
      | false =>
        have HA2 : Hid (Calls Try.prog 30 #[agS (xn, xv), .pointer (some ⟨b, 0, none⟩)] wr fun e w' => e = .returned (.bool false) ∧ Below wr.heap.size wr w') := Lib.hid (by have := HA.out; simp only [hd] at this; exact this)
        have HI := Lib.hid (HXX.out.2 (of_decide_eq_false hd))
        clear HA hd
        go_wp2_with (go_at_call 30; refine HA2.out.mono ?_; rintro e w1 ⟨rfl, hb1⟩)
        go_roundw
        case rel => exact ⟨k + 1, by omega, by go_num, Lib.hid HI.out, hbl.trans (hb1.mono z)⟩
        case measure => simp [intOf]; omega
    · have hkl : k = l.length := by omega
      subst hkl
      have HI : Hid (ixI l T = -1) := Lib.hid (if_pos (ah_all fun j hj => HJ.out j hj hj))
      go_wp2
      go_ret
      exact ⟨ret_int HI.out.symm, hbl⟩
set_option maxHeartbeats 800000 in
theorem ahead_any (K : Nat) (A : Option Addr) (n cap : Nat) (l : List Smp) (T : Int) (w : World) (hln : l.length = n) (hp : Sr encS 2 w K A cap l) (hK : K ≤ w.heap.size) :
    Calls Try.prog 23 #[.slice A n cap, .int .i64 T] w fun e w' => e = .returned (.int .i64 (ah l T : Nat)) ∧ Below w.heap.size w w' := by
  subst hln
  have HI := Lib.hid (fun W (h : Sr encS 2 W K A cap l) (hW : K ≤ W.heap.size) (hc : W.cell? ⟨w.heap.size, 0, none⟩ = some (.int .i64 T)) => index_any K A l.length cap l w.heap.size T W rfl h hW hc)
  have hs := fun o => hp.alloc hK o
  by_cases h0 : ah l T = l.length
  · have e : ixI l T = -1 := if_pos h0
    rw [h0]
    rw [e] at HI
    clear e h0
    go_enter Try.func23, Try.ntmps23
    go_wp2_with (go_at_call 29; refine (HI.out _ (hs _) (by simp; omega) (by simp [go_sem])).mono ?_; rintro e w1 ⟨rfl, hb1⟩)
    go_ret
    exact ⟨rfl, via hb1 (by go_grown) (by simp)⟩
  · have e : ixI l T = (ah l T : Int) := if_neg h0
    rw [e] at HI
    generalize ah l T = q at *
    clear e h0
    go_enter Try.func23, Try.ntmps23
    go_wp2_with (go_at_call 29; refine (HI.out _ (hs _) (by simp; omega) (by simp [go_sem])).mono ?_; rintro e w1 ⟨rfl, hb1⟩)
    go_ret
    exact ⟨rfl, via hb1 (by go_grown) (by simp)⟩
def spanB (a b : Int) : Bool := decide (0 ≤ a) && decide (a ≤ b) && decide (b ≤ 4611686018427387904)
set_option maxHeartbeats 800000 in
theorem isSpan_any (a b : Int) (w : World) : Calls Try.prog 21 #[.int .i64 a, .int .i64 b] w fun e w' => e = .returned (.bool (spanB a b)) ∧ w' = w := by
  cases h1 : decide (0 ≤ a) <;> cases h2 : decide (a ≤ b) <;> cases h3 : decide (b ≤ 4611686018427387904)
  all_goals
    unfold spanB
    rw [h1, h2, h3]
    go_enter Try.func21, Try.ntmps21
    go_wp2
    go_ret
    exact ⟨rfl, rfl⟩
def longB (a b s : Int) : Bool := decide (1024 ≤ (b - a - 1).tdiv s)
set_option maxHeartbeats 800000 in
theorem isLong_any (a b s : Int) (h : spanB a b = true) (hs : 1 ≤ s) (hs2 : s ≤ 9223372036854775807) (w : World) : Calls Try.prog 22 #[.int .i64 a, .int .i64 b, .int .i64 s] w fun e w' => e = .returned (.bool (longB a b s)) ∧ w' = w := by
  unfold spanB at h
  simp at h
  have h1 := wrapI (b - a) (by omega) (by omega)
  have h2 := wrapI (b - a - 1) (by omega) (by omega)
  have h0 : ¬ s = 0 := by omega
  have h00 : (s == 0) = false := beq_eq_false_iff_ne.2 h0
  obtain ⟨d, hd⟩ : ∃ d, b - a - 1 = d := ⟨_, rfl⟩
  have e1 : wrap64 (b - a - 1) = d := by unfold wrap64; omega
  have e2 : -1 ≤ d ∧ d ≤ 4611686018427387904 := by omega
  unfold longB
  rw [hd]
  clear h1 h2
  go_enter Try.func22, Try.ntmps22
  go_wp2
  go_ret
  exact ⟨rfl, rfl⟩
end Go.Proofs.Ytckbpajphfbaoaa
