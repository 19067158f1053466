/- The program's Make. -/
import Derived.Test.YtpkadghdnlkfiaaLbS
import Derived.Test.YtpkadghdnlkfiaaLbC
import Derived.Test.YtpkadghdnlkfiaaLbH
import Derived.Shelf.SlSortCmp.NoneTotal
namespace Go.Proofs.Ytpkadghdnlkfiaa
open Go.RowKit

theorem so_addr {w : World} {K n cap : Nat} {A : Option Addr} {l : List Pp} (h : La w K (.slice A n cap) l) : (A = none ∧ cap = 0 ∧ l = [] ∧ n = 0) ∨ ∃ g, A = some ⟨g, 0, none⟩ ∧ K ≤ g ∧ g < w.heap.size := by
  rcases h.2 with ⟨he, h0⟩ | ⟨g, cap', cur, he, hb, hg, _⟩
  · injection he with h1 h2 h3
    exact .inl ⟨h1, h3, List.eq_nil_of_length_eq_zero h0, h2⟩
  · injection he with h1 h2 h3
    refine .inr ⟨g, h1, hb, ?_⟩
    rcases Nat.lt_or_ge g w.heap.size with hlt | hge
    · exact hlt
    · rw [Array.getElem?_eq_none hge] at hg; cases hg

theorem sort_any (K n cap : Nat) (A : Option Addr) (l : List Pp) (w : World) (h : La w K (.slice A n cap) l) (hK : K ≤ w.heap.size) (hl : l.length ≤ 140737488355328) :
    Calls Try.prog 34 #[.slice A n cap, .func (.func 35) #[] #[]] w fun e w' =>
      e = .returned (.tuple #[]) ∧ ∃ m, m.Perm l ∧ Srt m ∧ La w' K (.slice A n cap) m ∧ Below K w w' := by
  rcases so_addr h with ⟨rfl, rfl, rfl, rfl⟩ | ⟨g, rfl, _, _⟩
  · refine (AnyF.slices_SortFunc_none sh_sortP none 0 (.func (.func 35) #[] #[]) w).mono ?_
    rintro e w' ⟨rfl, rfl⟩
    exact ⟨rfl, [], List.Perm.refl _, List.Pairwise.nil, h, Below.refl _ _⟩
  · exact sort_some K g n cap l w h hl

def MakePost (w : World) (l : List Pp) (e : Ending) (w' : World) : Prop :=
  ∃ A' cap', e = .returned (.tuple #[.slice A' (makeL l).length cap', .int .i64 (makeE l)]) ∧ La w' w.heap.size (.slice A' (makeL l).length cap') (makeL l) ∧ Below w.heap.size w w'

theorem make_7 {l : List Pp} (h : twL (srt l) = true) : makeE l = 7 ∧ makeL l = [] := by
  have e : makeE l = 7 := by rw [makeE, if_pos h]
  exact ⟨e, by rw [makeL, e]; rfl⟩
theorem make_40 {l : List Pp} (h : twL (srt l) = false) (h2 : rightL (srt l) = false) : makeE l = 40 ∧ makeL l = [] := by
  have e : makeE l = 40 := by simp [makeE, h, h2]
  exact ⟨e, by rw [makeL, e]; rfl⟩
theorem make_0 {l : List Pp} (h : twL (srt l) = false) (h2 : rightL (srt l) = true) : makeE l = 0 ∧ makeL l = srt l := by
  have e : makeE l = 0 := by simp [makeE, h, h2]
  exact ⟨e, by rw [makeL, e]; rfl⟩
theorem ret_make {A : Option Addr} {n cap : Nat} {a x : Int} {m : Nat} (h1 : n = m) (h2 : a = x) : Ending.returned (.tuple #[.slice A n cap, .int .i64 a]) = .returned (.tuple #[.slice A m cap, .int .i64 x]) := by rw [h1, h2]

set_option maxHeartbeats 1600000 in
theorem make_any (K : Nat) (A : Option Addr) (n cap : Nat) (l : List Pp) (w : World) (hln : l.length = n) (hp : Lr w K A cap l) (hK : K ≤ w.heap.size) (hS : Sm l) (hl : l.length ≤ 1048576) :
    Calls Try.prog 14 #[.slice A n cap] w (MakePost w l) := by
  have hc := clone_any K A n cap l w hln hp hK (by omega)
  have HC := Lib.hid hc
  have HLN := Lib.hid hln
  clear hc hp hln
  go_enter Try.func14, Try.ntmps14
  go_wp2_with (go_at_call 33; refine HC.out.mono ?_; rintro e w1 ⟨A1, c1, rfl, ha1, hb1⟩)
  have z1 := hb1.size
  refine (sort_any w.heap.size l.length c1 A1 l _ ha1 z1 (by omega)).mono ?_
  rintro e w2 ⟨rfl, m, hpm, hsm, ha2, hb2⟩
  have B2 := hb1.trans hb2
  have z2 := B2.size
  have hml : m.length = l.length := hpm.length_eq
  obtain ⟨hr2, _⟩ := So.sr encP_len ha2
  have htw := sorted_tw hpm hsm
  have heq := sorted_eq hpm hsm
  have hSm := hS.perm hpm
  have HML := Lib.hid hml
  have HTW := Lib.hid htw
  have HEQ := Lib.hid heq
  have HSM := Lib.hid hSm
  clear hb1 hb2 ha1 hml htw heq hSm HC
  have h1 := hasTwice_any w2.heap.size A1 l.length c1 m w2 HML.out hr2 (Nat.le_refl _)
  have H1 := Lib.hid h1
  clear h1
  by_cases ht : twL m = true
  · obtain ⟨e1, e2⟩ := make_7 (l := l) (by rw [← HTW.out]; exact ht)
    have E1 := Lib.hid e1
    have E2 := Lib.hid e2
    clear e1 e2
    go_wp2_with (go_at_call 37; refine H1.out.mono ?_; rintro e w3 ⟨rfl, hb3⟩)
    go_ret2
    refine ⟨none, 0, ret_make (by rw [E2.out]; rfl) E1.out.symm, ?_, B2.trans (hb3.mono z2)⟩
    rw [E2.out]
    exact So.empty _ _ _ _ _
  · have ht : twL m = false := by simpa using ht
    have hms : m = srt l := HEQ.out (by rw [← HTW.out]; exact ht)
    have HMS := Lib.hid hms
    clear hms
    by_cases hr : rightL m = true
    · obtain ⟨e1, e2⟩ := make_0 (l := l) (by rw [← HTW.out]; exact ht) (by rw [← HMS.out]; exact hr)
      have E1 := Lib.hid e1
      have E2 := Lib.hid (e2.trans HMS.out.symm)
      clear e1 e2
      go_wp2_with (first
        | (go_at_call 37; refine H1.out.mono ?_; rintro e w3 ⟨rfl, hb3⟩; have z3 := hb3.size)
        | (go_at_call 18; refine (right_any w2.heap.size A1 l.length c1 m _ HML.out (hr2.below hb3) z3 HSM.out).mono ?_; rintro e w4 ⟨rfl, hb4⟩))
      go_ret2
      have B4 : Below w2.heap.size w2 w4 := hb3.trans (hb4.mono z3)
      refine ⟨A1, c1, ret_make (by rw [E2.out, HML.out]) E1.out.symm, ?_, B2.trans (B4.mono z2)⟩
      rw [E2.out, HML.out]
      exact So.below ha2 B4
    · have hr : rightL m = false := by simpa using hr
      obtain ⟨e1, e2⟩ := make_40 (l := l) (by rw [← HTW.out]; exact ht) (by rw [← HMS.out]; exact hr)
      have E1 := Lib.hid e1
      have E2 := Lib.hid e2
      clear e1 e2
      go_wp2_with (first
        | (go_at_call 37; refine H1.out.mono ?_; rintro e w3 ⟨rfl, hb3⟩; have z3 := hb3.size)
        | (go_at_call 18; refine (right_any w2.heap.size A1 l.length c1 m _ HML.out (hr2.below hb3) z3 HSM.out).mono ?_; rintro e w4 ⟨rfl, hb4⟩))
      go_ret2
      have B4 : Below w2.heap.size w2 w4 := hb3.trans (hb4.mono z3)
      refine ⟨none, 0, ret_make (by rw [E2.out]; rfl) E1.out.symm, ?_, B2.trans (B4.mono z2)⟩
      rw [E2.out]
      exact So.empty _ _ _ _ _
end Go.Proofs.Ytpkadghdnlkfiaa
