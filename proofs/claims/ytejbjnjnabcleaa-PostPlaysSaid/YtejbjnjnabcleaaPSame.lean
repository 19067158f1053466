/- Messages as the document's: From, Same; a slice of them among a law's arguments. -/
import Derived.Test.YtejbjnjnabcleaaPAwk
import Derived.Test.YtejbjnjnabcleaaStr
import Derived.Test.YtejbjnjnabcleaaRow
import Derived.Deep.Slices
import Derived.Deep.Fields
namespace Go.Proofs.Ytejbjnjnabcleaa
open Go.RowKit Go.Conc

set_option maxRecDepth 100000 in
theorem fromM_any (f t : Int) (A : Option Addr) (n c : Nat) (w : World) : Calls Try.prog 13 #[.agg #[.int .i64 f, .int .i64 t, .slice A n c]] w fun e w' => e = .returned (.agg #[.int .i64 f, .int .i64 t, .slice A n c]) ∧ Below w.heap.size w w' := by
  go_enter Try.func13, Try.ntmps13
  go_wp2
  exact bodyPost_ret (v := .agg #[.int .i64 f, .int .i64 t, .slice A n c]) (by simp [results, Try.results13, go_sem]) rfl ⟨rfl, by go_grown⟩

set_option maxRecDepth 100000 in
set_option maxHeartbeats 1600000 in
theorem sameM_any (f t f' t' : Int) (A A' : Option Addr) (c c' K K' : Nat) (b b' : List UInt8) (w : World) (hb : Bs w K A c b) (hb' : Bs w K' A' c' b') (hK : K ≤ w.heap.size) (hK' : K' ≤ w.heap.size) :
    Calls Try.prog 12 #[.agg #[.int .i64 f, .int .i64 t, .slice A b.length c], .agg #[.int .i64 f', .int .i64 t', .slice A' b'.length c']] w fun e w' => e = .returned (.bool (decide (f = f' ∧ t = t' ∧ b = b'))) ∧ Below w.heap.size w w' := by
  obtain ⟨s, hs⟩ : ∃ s, s = strB b := ⟨_, rfl⟩
  obtain ⟨s', hs'⟩ : ∃ s, s = strB b' := ⟨_, rfl⟩
  have tl : s.toList = b := by rw [ByteArray.toList_eq, hs]; rfl
  have tl' : s'.toList = b' := by rw [ByteArray.toList_eq, hs']; rfl
  have hq : (s.toList == s'.toList) = decide (b = b') := by rw [tl, tl', Bool.eq_iff_iff, beq_iff_eq, decide_eq_true_eq]
  have r1 := fun o o' => bs_str ((hb.alloc hK o).alloc (by simp; omega) o') rfl
  have r2 := fun o o' => bs_str ((hb'.alloc hK' o).alloc (by simp; omega) o') rfl
  rw [← hs] at r1
  rw [← hs'] at r2
  clear hb hb' hs hs' tl tl'
  generalize hB : decide (b = b') = B at *
  have HB := Lib.hid hB
  clear hB
  by_cases h1 : f = f'
  · subst h1
    by_cases h2 : t = t'
    · subst h2
      go_enter Try.func12, Try.ntmps12
      go_wp2
      go_ret
      exact ⟨ret_bool (by simp [← HB.out]), by go_grown⟩
    · have e2 : (t == t') = false := by simpa using h2
      have HE := Lib.hid h2
      clear h2
      go_enter Try.func12, Try.ntmps12
      go_wp2
      go_ret
      exact ⟨ret_bool (by simp [HE.out]), by go_grown⟩
  · have e1 : (f == f') = false := by simpa using h1
    have HE := Lib.hid h1
    clear h1
    go_enter Try.func12, Try.ntmps12
    go_wp2
    go_ret
    exact ⟨ret_bool (by simp [HE.out]), by go_grown⟩
end Go.Proofs.Ytejbjnjnabcleaa
