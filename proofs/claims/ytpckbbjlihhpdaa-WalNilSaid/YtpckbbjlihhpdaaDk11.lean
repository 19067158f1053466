/- A disk's tear, in one; what a crash leaves of a list of segments. -/
import Derived.Test.YtpckbbjlihhpdaaDk10
import Derived.Test.YtpckbbjlihhpdaaDk9
import Derived.Test.YtpckbbjlihhpdaaDkZ
namespace Go.Proofs.Ytpckbbjlihhpdaa
open Go.RowKit Go.Maps Go.BigFrame

def ab (s : Sg) : As := ⟨s.n, s.b, s.l, s.k⟩
theorem Rise.apart {T R : List Sg} {s : Sg} (h : Rise (T ++ s :: R)) : (∀ t ∈ T, t.n < s.n) ∧ (∀ t ∈ R, s.n < t.n) := by
  obtain ⟨_, h2, h3⟩ := List.pairwise_append.1 h
  exact ⟨fun t ht => h3 t ht s (List.mem_cons_self ..), (List.pairwise_cons.1 h2).1⟩
theorem map_keep (T : List Sg) (f : Sg → Sg) (h : ∀ t ∈ T, f t = t) : T.map f = T := by
  induction T with
  | nil => rfl
  | cons x T ih => rw [List.map_cons, h x (List.mem_cons_self ..), ih fun t ht => h t (List.mem_cons_of_mem _ ht)]
theorem upd_at {T R : List Sg} {s s' : Sg} (h : Rise (T ++ s :: R)) (e : s'.n = s.n) : upd (T ++ s :: R) s' = T ++ s' :: R := by
  obtain ⟨h1, h2⟩ := h.apart
  unfold upd
  rw [List.map_append, List.map_cons, if_pos e.symm, map_keep T _ fun t ht => by have := h1 t ht; rw [if_neg (by omega)], map_keep R _ fun t ht => by have := h2 t ht; rw [if_neg (by omega)]]
theorem filter_at {T R : List Sg} {s : Sg} (h : Rise (T ++ s :: R)) : ((T ++ s :: R).filter fun t => !decide (t.n = s.n)) = T ++ R := by
  obtain ⟨h1, h2⟩ := h.apart
  rw [List.filter_append, List.filter_cons, List.filter_eq_self.2 fun t ht => by have := h1 t ht; simp; omega, List.filter_eq_self.2 fun t ht => by have := h2 t ht; simp; omega]
  simp
section
variable {K d mb : Nat} {room used fuse : Int} {down : Bool} {T R : List Sg} {s : Sg} {w : World}
/-- What the tear of the segment behind T leaves. -/
def TearAt (w : World) (K d mb : Nat) (room used fuse : Int) (down : Bool) (T R : List Sg) (s : Sg) (more : Int) (e : Ending) (w' : World) : Prop :=
  e = .returned (.tuple #[]) ∧ ∃ T', T'.map ab = tornA (ab s) more ∧ Dk w' K d mb room (used - ((s.b.length : Int) - (kq (ab s) more : Nat))) fuse down (T ++ T' ++ R) ∧ Tn (blD d mb (T ++ s :: R)) w w' ∧ ∀ k, blD d mb (T ++ T' ++ R) k → blD d mb (T ++ s :: R) k ∨ w.heap.size ≤ k
theorem tear_at (h : Dk w K d mb room used fuse down (T ++ s :: R)) (more : Int) (hlen : s.b.length ≤ 67108864) (hu : (s.b.length : Int) ≤ used) (hu2 : used ≤ 67108864) :
    Calls Try.prog 54 #[dP d, .int .i64 s.n, .int .i64 more] w (TearAt w K d mb room used fuse down T R s more) := by
  have hs : s ∈ T ++ s :: R := by simp
  have hr := h.ri
  have hle := (h.sg s hs).le
  have hmx : max more 0 = ((more.toNat : Nat) : Int) := by omega
  have eS : ∀ s' : Sg, s'.n = s.n → upd (T ++ s :: R) s' = T ++ [s'] ++ R := fun s' e => by rw [upd_at hr e]; simp
  have eF : ((T ++ s :: R).filter fun t => !decide (t.n = s.n)) = T ++ [] ++ R := by rw [filter_at hr]; simp
  by_cases hc : s.l + more.toNat < s.b.length
  · have hkq : kq (ab s) more = s.l + more.toNat := by unfold kq ab; simp only; omega
    have hused : used - ((s.b.length : Int) - ((s.l + more.toNat : Nat) : Int)) = used - ((s.b.length : Int) - s.l - (more.toNat : Nat)) := by omega
    by_cases hk : s.k = true ∨ 0 < s.l + more.toNat
    · refine (tear_cut h hs more more.toNat hmx hc hk hlen hu hu2).mono ?_
      rintro e w' ⟨rfl, v, D, t, B⟩
      rw [eS ⟨s.n, s.g, v, s.b.take (s.l + more.toNat), s.l + more.toNat, true⟩ rfl] at D B
      refine ⟨rfl, [_], ?_, ?_, t, B⟩
      · unfold tornA; rw [hkq]; exact (if_pos hk).symm
      · rw [hkq, hused]; exact D
    · refine (tear_gone h hs more more.toNat hmx hc (by simpa using (not_or.1 hk).1) (by omega) hlen hu hu2).mono ?_
      rintro e w' ⟨rfl, D, t, B⟩
      rw [eF] at D B
      refine ⟨rfl, [], ?_, ?_, t, B⟩
      · unfold tornA; rw [hkq]; exact (if_neg hk).symm
      · rw [hkq, hused]; exact D
  · have hkq : kq (ab s) more = s.b.length := by unfold kq ab; simp only; omega
    have hused : used - ((s.b.length : Int) - (s.b.length : Nat)) = used := by omega
    by_cases hk : s.k = true ∨ 0 < s.b.length
    · refine (tear_keep h hs more (by omega) hk hlen).mono ?_
      rintro e w' ⟨rfl, D, t, B⟩
      rw [eS (settled s) rfl] at D B
      refine ⟨rfl, [_], ?_, ?_, t, B⟩
      · unfold tornA
        rw [hkq]
        refine Eq.trans ?_ (if_pos hk).symm
        show [(⟨s.n, s.b, s.b.length, true⟩ : As)] = [⟨s.n, s.b.take s.b.length, s.b.length, true⟩]
        rw [List.take_length]
      · rw [hkq, hused]; exact D
    · refine (tear_drop h hs more (by simpa using (not_or.1 hk).1) (List.eq_nil_of_length_eq_zero (by omega))).mono ?_
      rintro e w' ⟨rfl, D, t, B⟩
      rw [eF] at D B
      refine ⟨rfl, [], ?_, ?_, t, fun k hk => .inl (B k hk)⟩
      · unfold tornA; rw [hkq]; exact (if_neg hk).symm
      · rw [hkq, hused]; exact D
end
end Go.Proofs.Ytpckbbjlihhpdaa
