/- The frames of bytes, as plain lists. -/
import Derived.Test.YtpckbbjlihhpdaaOpenM
namespace Go.Proofs.Ytpckbbjlihhpdaa

def scanF : Nat → List UInt8 → List (UInt8 × List UInt8) × Nat
  | 0, _ => ([], 0)
  | f + 1, l => if (openB l).2.2.2 = 0 then (((openB l).1, (openB l).2.1) :: (scanF f (l.drop (openB l).2.2.1)).1, (openB l).2.2.1 + (scanF f (l.drop (openB l).2.2.1)).2) else ([], 0)
def scanB (l : List UInt8) : List (UInt8 × List UInt8) × Nat := scanF (l.length + 1) l

/-- What stands behind an Open without an error. -/
theorem openB_inv {l : List UInt8} (h : (openB l).2.2.2 = 0) : at0 l 0 = 167 ∧ 9 + lenB l ≤ l.length ∧ lenB l ≤ 1048576 ∧ sum4 l = sumO l ∧ openB l = (l.getD 1 0, payB l, 9 + lenB l, 0) := by
  by_cases h0 : 0 < l.length ∧ at0 l 0 ≠ 167
  · rw [openB, if_pos h0] at h; simp at h
  by_cases h9 : l.length < 9
  · rw [openB, if_neg h0, if_pos h9] at h; simp at h
  by_cases hm : 1048576 < lenB l
  · rw [openB, if_neg h0, if_neg h9, if_pos hm] at h; simp at h
  by_cases hl : l.length < 9 + lenB l
  · rw [openB, if_neg h0, if_neg h9, if_neg hm, if_pos hl] at h; simp at h
  by_cases hs : sum4 l = sumO l
  · have h1 : at0 l 0 = 167 := by
      rcases Nat.decEq (at0 l 0) 167 with h' | h'
      · exact absurd ⟨by omega, h'⟩ h0
      · exact h'
    exact ⟨h1, by omega, by omega, hs, openB_ok h1 (by omega) (by omega) (by omega) hs⟩
  · rw [openB, if_neg h0, if_neg h9, if_neg hm, if_neg hl, if_pos hs] at h; simp at h
theorem openB_used {l : List UInt8} (h : (openB l).2.2.2 = 0) : 9 ≤ (openB l).2.2.1 ∧ (openB l).2.2.1 ≤ l.length ∧ (openB l).2.1.length ≤ 1048576 ∧ (openB l).2.2.1 = 9 + (openB l).2.1.length := by
  obtain ⟨_, h2, h3, _, h5⟩ := openB_inv h
  have := payB_length h2
  rw [h5]
  simp only
  omega

theorem scanF_fuel : ∀ (n : Nat) (l : List UInt8) (f : Nat), l.length ≤ n → l.length < f → scanF f l = scanF (l.length + 1) l := by
  intro n
  induction n with
  | zero =>
    intro l f hn hf
    have : l = [] := List.eq_nil_of_length_eq_zero (by omega)
    subst this
    cases f with
    | zero => omega
    | succ f => simp [scanF, openB]
  | succ n ih =>
    intro l f hn hf
    cases f with
    | zero => omega
    | succ f =>
      simp only [scanF]
      by_cases h : (openB l).2.2.2 = 0
      · obtain ⟨h1, h2, _, _⟩ := openB_used h
        have hd : (l.drop (openB l).2.2.1).length < l.length := by simp; omega
        rw [if_pos h, if_pos h, ih _ f (by omega) (by omega), ih _ l.length (by omega) hd]
      · rw [if_neg h, if_neg h]
theorem scanB_ok {l : List UInt8} (h : (openB l).2.2.2 = 0) : scanB l = (((openB l).1, (openB l).2.1) :: (scanB (l.drop (openB l).2.2.1)).1, (openB l).2.2.1 + (scanB (l.drop (openB l).2.2.1)).2) := by
  obtain ⟨h1, h2, _, _⟩ := openB_used h
  unfold scanB
  conv => lhs; rw [scanF, if_pos h]
  rw [scanF_fuel _ _ l.length (Nat.le_refl _) (by simp; omega)]
theorem scanB_no {l : List UInt8} (h : ¬ (openB l).2.2.2 = 0) : scanB l = ([], 0) := by
  unfold scanB; rw [scanF, if_neg h]
theorem scanB_nil : scanB [] = ([], 0) := scanB_no (by simp [openB])

theorem scanB_len (l : List UInt8) : (scanB l).1.length * 9 ≤ l.length := by
  have : ∀ (n : Nat) (l : List UInt8), l.length ≤ n → (scanB l).1.length * 9 ≤ l.length := by
    intro n
    induction n with
    | zero =>
      intro l hl
      have : l = [] := List.eq_nil_of_length_eq_zero (by omega)
      subst this
      simp [scanB_nil]
    | succ n ih =>
      intro l hl
      by_cases h : (openB l).2.2.2 = 0
      · obtain ⟨h1, h2, _, _⟩ := openB_used h
        rw [scanB_ok h]
        have := ih (l.drop (openB l).2.2.1) (by simp; omega)
        simp only [List.length_drop, List.length_cons] at *
        omega
      · rw [scanB_no h]; simp
  exact this _ l (Nat.le_refl _)

theorem scanB_used (l : List UInt8) : (scanB l).2 ≤ l.length := by
  have : ∀ (n : Nat) (l : List UInt8), l.length ≤ n → (scanB l).2 ≤ l.length := by
    intro n
    induction n with
    | zero =>
      intro l hl
      have : l = [] := List.eq_nil_of_length_eq_zero (by omega)
      subst this
      simp [scanB_nil]
    | succ n ih =>
      intro l hl
      by_cases h : (openB l).2.2.2 = 0
      · obtain ⟨h1, h2, _, _⟩ := openB_used h
        rw [scanB_ok h]
        have := ih (l.drop (openB l).2.2.1) (by simp; omega)
        simp only [List.length_drop] at *
        omega
      · rw [scanB_no h]; simp
  exact this _ l (Nat.le_refl _)
/-- What has been scanned up to j. -/
def ScanTo (l : List UInt8) (j : Nat) (ps : List (UInt8 × List UInt8)) : Prop :=
  j ≤ l.length ∧ ps.length * 9 ≤ j ∧ scanB l = (ps ++ (scanB (l.drop j)).1, j + (scanB (l.drop j)).2)
theorem ScanTo.zero (l : List UInt8) : ScanTo l 0 [] := ⟨Nat.zero_le _, by simp, by simp⟩
theorem ScanTo.next {l : List UInt8} {j : Nat} {ps : List (UInt8 × List UInt8)} (h : ScanTo l j ps) (ho : (openB (l.drop j)).2.2.2 = 0) : ScanTo l (j + (openB (l.drop j)).2.2.1) (ps ++ [((openB (l.drop j)).1, (openB (l.drop j)).2.1)]) := by
  obtain ⟨h1, h2, h3⟩ := h
  obtain ⟨u1, u2, _, _⟩ := openB_used ho
  rw [List.length_drop] at u2
  refine ⟨by omega, by simp; omega, ?_⟩
  rw [h3, scanB_ok ho, List.drop_drop]
  simp [Nat.add_assoc]
theorem ScanTo.stop {l : List UInt8} {j : Nat} {ps : List (UInt8 × List UInt8)} (h : ScanTo l j ps) (ho : ¬ (openB (l.drop j)).2.2.2 = 0) : scanB l = (ps, j) := by
  rw [h.2.2, scanB_no ho]; simp
theorem ScanTo.done {l : List UInt8} {ps : List (UInt8 × List UInt8)} (h : ScanTo l l.length ps) : scanB l = (ps, l.length) := by
  rw [h.2.2, List.drop_length, scanB_nil]; simp

/-- Frames, one behind the other. -/
def catB (ps : List (UInt8 × List UInt8)) : List UInt8 := ps.flatMap fun x => sealB x.1 x.2
theorem catB_snoc (ps : List (UInt8 × List UInt8)) (x : UInt8 × List UInt8) : catB (ps ++ [x]) = catB ps ++ sealB x.1 x.2 := by simp [catB]
theorem scan_cat : ∀ (ps : List (UInt8 × List UInt8)) (b : List UInt8), (∀ x ∈ ps, x.2.length ≤ 1048576) → scanB (catB ps ++ b) = (ps ++ (scanB b).1, (catB ps).length + (scanB b).2)
  | [], b, _ => by simp [catB]
  | x :: ps, b, h => by
    have hx := h x (by simp)
    have ih := scan_cat ps b (fun y hy => h y (by simp [hy]))
    have e : catB (x :: ps) ++ b = sealB x.1 x.2 ++ (catB ps ++ b) := by simp [catB]
    have ho := openB_seal x.1 x.2 (catB ps ++ b) hx
    have h0 : (openB (sealB x.1 x.2 ++ (catB ps ++ b))).2.2.2 = 0 := by rw [ho]
    have hd : (sealB x.1 x.2 ++ (catB ps ++ b)).drop (9 + x.2.length) = catB ps ++ b := by
      rw [← sealB_length x.1 x.2, List.drop_left]
    rw [e, scanB_ok h0, ho]
    simp only
    rw [hd, ih]
    have hl : (catB (x :: ps)).length = 9 + x.2.length + (catB ps).length := by
      rw [← sealB_length x.1 x.2]; simp [catB]
    rw [hl]
    simp [Nat.add_assoc]
theorem catB_len : ∀ (ps : List (UInt8 × List UInt8)), (∀ x ∈ ps, x.2.length ≤ 2000) → (catB ps).length ≤ ps.length * 2009
  | [], _ => by simp [catB]
  | x :: ps, h => by
    have hx := h x (by simp)
    have ih := catB_len ps (fun y hy => h y (by simp [hy]))
    have hl : (catB (x :: ps)).length = 9 + x.2.length + (catB ps).length := by
      rw [← sealB_length x.1 x.2]; simp [catB]
    rw [hl, List.length_cons]
    omega

end Go.Proofs.Ytpckbbjlihhpdaa
