/- A post with the document's messages. -/
import Derived.Test.YtejbjnjnabcleaaPMr
import Derived.LoopTactic
import Derived.Deep.RegionHeld3
namespace Go.Proofs.Ytejbjnjnabcleaa
open Go.RowKit Go.Conc

/-- The post's messages are these of the document's. -/
def Alike (l : List Mg) (ms : List Rm) : Prop := l.length = ms.length ∧ ∀ (i : Nat) (m : Mg) (x : Rm), l[i]? = some m → ms[i]? = some x → m.f = x.f ∧ m.t = x.t
/-- A post with these messages; the blocks that its methods turn lie below N. -/
structure PoL (w : World) (K p ch room : Nat) (ms : List Rm) (N : Nat) : Prop where
  out : ∃ v l, Po w K p ch room v l (ms.map Rm.b) ∧ Alike l ms ∧ ∀ k, TP p ch v k → k < N
/-- What its methods turn. -/
abbrev TN (K N : Nat) : Nat → Prop := fun k => K ≤ k ∧ k < N
theorem Po.tN {w w' : World} {K p ch room N : Nat} {v : Value} {l : List Mg} {B : List (List UInt8)} (h : Po w K p ch room v l B) (hN : ∀ k, TP p ch v k → k < N) (t : Tn (TP p ch v) w w') : Tn (TN K N) w w' :=
  t.mono fun k _ e => ⟨by
    have h1 := h.kp
    have h2 := h.kc
    rcases e with e | e | e
    · omega
    · omega
    · exact (h.so.lt k e).1, hN k e⟩
theorem Tn.belN {w w' : World} {K N : Nat} (t : Tn (TN K N) w w') (hK : K ≤ w.heap.size) : Below K w w' := t.below hK fun _ _ e => e.1
theorem Po.top {w : World} {K p ch room : Nat} {v : Value} {l : List Mg} {B : List (List UInt8)} (h : Po w K p ch room v l B) : ∀ k, TP p ch v k → k < w.heap.size := fun k e => by
  have h1 := h.lt
  have h2 := h.ltc
  rcases e with e | e | e
  · omega
  · omega
  · exact (h.so.lt k e).2
section
variable {w w' : World} {K p ch room N : Nat} {ms : List Rm}
theorem PoL.below (h : PoL w K p ch room ms N) (hb : Below w.heap.size w w') : PoL w' K p ch room ms N := by
  obtain ⟨v, l, hp, ha, hN⟩ := h.out
  exact ⟨v, l, hp.below hb, ha, hN⟩
theorem PoL.alloc (h : PoL w K p ch room ms N) (o : Obj) : PoL (w.alloc o) K p ch room ms N := h.below ((Below.refl _ _).alloc (Nat.le_refl _) _)
theorem PoL.drew (h : PoL w K p ch room ms N) : PoL w.drew K p ch room ms N := h.below ((Tn.drew (P := fun _ => False) w).below (Nat.le_refl _) (fun _ _ h => h.elim))
theorem PoL.lt (h : PoL w K p ch room ms N) : K ≤ w.heap.size := by
  obtain ⟨v, l, hp, _⟩ := h.out
  have := hp.lt
  have := hp.kp
  omega
/-- Send, Take, Len of such a post. -/
theorem sendL (h : PoL w K p ch room ms N) (x : Rm) (A : Option Addr) (c K' : Nat) (hb : Bs w K' A c x.b) (hK' : K' ≤ K) (hsz : x.b.length ≤ 1048576) (hroom : ms.length < room) (hmax : room ≤ 4096) :
    Calls Try.prog 8 #[.pointer (some ⟨p, 0, none⟩), .agg #[.int .i64 x.f, .int .i64 x.t, .slice A x.b.length c]] w fun e w' => e = .returned (.int .i64 0) ∧ PoL w' K p ch room (ms ++ [x]) w'.heap.size ∧ Tn (TN K N) w w' := by
  have hKw := h.lt
  obtain ⟨v, l, hp, ha, hN⟩ := h.out
  refine (send_ok K p ch room v l _ x.f x.t A c x.b w hp ⟨rfl, hb.more (by omega), fun hl ad e hbad => ?_⟩ hsz (by rw [ha.1]; exact hroom) hmax).mono ?_
  · obtain ⟨ad', e', hlt, _⟩ := hb.at_ hl
    have e3 : A = some ad := e
    rw [e3] at e'; cases e'
    have h1 := hp.kp
    have h2 := hp.kc
    rcases hbad with h | h | h
    · omega
    · omega
    · have := (hp.so.lt _ h).1; omega
  · rintro e w' ⟨rfl, v', A', c', hp', ht, _, _⟩
    refine ⟨rfl, ⟨v', _, by rw [List.map_append]; exact hp', ⟨by simp [ha.1], fun i m y hm hy => ?_⟩, hp'.top⟩, hp.tN hN ht⟩
    by_cases hi : i < l.length
    · rw [List.getElem?_append_left hi] at hm
      rw [List.getElem?_append_left (by rw [← ha.1]; exact hi)] at hy
      exact ha.2 i m y hm hy
    · rw [List.getElem?_append_right (by omega)] at hm
      rw [List.getElem?_append_right (by rw [← ha.1]; omega), ← ha.1] at hy
      have h0 : i - l.length = 0 := by
        rcases Nat.eq_zero_or_pos (i - l.length) with h0 | h0
        · exact h0
        · rw [List.getElem?_eq_none (by simp; omega)] at hm; cases hm
      rw [h0] at hm hy
      simp at hm hy
      subst hm hy
      exact ⟨rfl, rfl⟩
theorem takeL {x : Rm} (h : PoL w K p ch room (x :: ms) N) (hsz : x.b.length ≤ 140737488355328) (hmax : room ≤ 4096) :
    Calls Try.prog 10 #[.pointer (some ⟨p, 0, none⟩), .int .i64 0] w fun e w' => ∃ A c, e = .returned (.tuple #[.agg #[.int .i64 x.f, .int .i64 x.t, .slice A x.b.length c], .int .i64 0]) ∧ Ob w' w.heap.size (.slice A x.b.length c) x.b ∧ PoL w' K p ch room ms w'.heap.size ∧ Tn (TN K N) w w' := by
  obtain ⟨v, l, hp, ha, hN⟩ := h.out
  match l, ha, hp with
  | [], ha, _ => exact absurd ha.1 (by simp)
  | m :: l, ha, hp =>
    refine (take_ok K p ch room v (m :: l) _ 0 m x.b w hp rfl rfl hsz hmax).mono ?_
    rintro e w' ⟨A, c, v', rfl, ho, hp', ht, _⟩
    have hm := ha.2 0 m x rfl rfl
    refine ⟨A, c, by rw [hm.1, hm.2], ho, ⟨v', l, hp', ⟨by have := ha.1; simpa using this, fun i m' y h1 h2 => ha.2 (i + 1) m' y h1 h2⟩, hp'.top⟩, hp.tN hN ht⟩
theorem lenL (h : PoL w K p ch room ms N) :
    Calls Try.prog 18 #[.pointer (some ⟨p, 0, none⟩)] w fun e w' => e = .returned (.int .i64 (ms.length : Int)) ∧ w = w' := by
  obtain ⟨v, l, hp, ha, _⟩ := h.out
  rw [← ha.1]
  exact len_any K p ch room v l _ w hp
end
theorem newL (n : Nat) (hn : n ≤ 4096) (w : World) : Calls Try.prog 5 #[.int .i64 (n : Int)] w fun e w' => e = .returned (.tuple #[.pointer (some ⟨w.heap.size + 1, 0, none⟩), .int .i64 0]) ∧ PoL w' w.heap.size (w.heap.size + 1) w.heap.size n [] w'.heap.size ∧ Below w.heap.size w w' := by
  refine (new_ok n hn w).mono ?_
  rintro e w' ⟨rfl, hp, hb⟩
  exact ⟨rfl, ⟨_, [], hp, ⟨rfl, fun i m x hm _ => by simp at hm⟩, hp.top⟩, hb⟩
theorem PoL.upto {w : World} {K p ch room N : Nat} {ms : List Rm} (h : PoL w K p ch room ms N) : PoL w K p ch room ms w.heap.size := by
  obtain ⟨v, l, hp, ha, _⟩ := h.out
  exact ⟨v, l, hp, ha, hp.top⟩

theorem wrap_in {x : Int} (h1 : -9223372036854775808 ≤ x) (h2 : x ≤ 9223372036854775807) : IntKind.i64.wrap x = x := by
  simp [IntKind.wrap, IntKind.signed, IntKind.bits]
  omega
theorem lenL' {w : World} {K p ch room N : Nat} {ms : List Rm} {n : Int} (hn : (ms.length : Int) = n) (h : PoL w K p ch room ms N) :
    Calls Try.prog 18 #[.pointer (some ⟨p, 0, none⟩)] w fun e w' => e = .returned (.int .i64 n) ∧ w = w' := hn ▸ lenL h
theorem sameM_refl (f t : Int) (A A' : Option Addr) (c c' K K' : Nat) (b : List UInt8) (w : World) (hb : Bs w K A c b) (hb' : Bs w K' A' c' b) (hK : K ≤ w.heap.size) (hK' : K' ≤ w.heap.size) :
    Calls Try.prog 12 #[.agg #[.int .i64 f, .int .i64 t, .slice A b.length c], .agg #[.int .i64 f, .int .i64 t, .slice A' b.length c']] w fun e w' => e = .returned (.bool true) ∧ Below w.heap.size w w' := by
  have := sameM_any f t f t A A' c c' K K' b b w hb hb' hK hK'
  simpa using this
structure HBs (w : World) (K : Nat) (A : Option Addr) (c : Nat) (b : List UInt8) : Prop where
  out : Bs w K A c b
  le : K ≤ w.heap.size
theorem hbs_keep {w w' : World} {K c : Nat} {A : Option Addr} {b : List UInt8} (h : HBs w K A c b) (hb : Below w.heap.size w w') : HBs w' K A c b := ⟨h.out.below (hb.mono h.le), Nat.le_trans h.le hb.size⟩
theorem hbs_drew {w : World} {K c : Nat} {A : Option Addr} {b : List UInt8} (h : HBs w K A c b) : HBs w.drew K A c b := ⟨h.out.drew, h.le⟩

end Go.Proofs.Ytejbjnjnabcleaa
