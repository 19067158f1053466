/- What a frame with which bytes begin holds, as plain lists. -/
import Derived.Test.YtpckbbjlihhpdaaSealM
namespace Go.Proofs.Ytpckbbjlihhpdaa

def at0 (l : List UInt8) (i : Nat) : Nat := (l.getD i 0).toNat
def lenB (l : List UInt8) : Nat := at0 l 2 * 65536 + at0 l 3 * 256 + at0 l 4
def sum4 (l : List UInt8) : Nat := at0 l 5 + at0 l 6 * 256 + at0 l 7 * 65536 + at0 l 8 * 16777216
def payB (l : List UInt8) : List UInt8 := (l.drop 9).take (lenB l)
def sumO (l : List UInt8) : Nat := crcN 0 ((l.drop 1).take 4 ++ payB l)
/-- Kind, payload, number of bytes, error. -/
def openB (l : List UInt8) : UInt8 × List UInt8 × Nat × Nat :=
  if 0 < l.length ∧ at0 l 0 ≠ 167 then (0, [], 0, 10)
  else if l.length < 9 then (0, [], 0, 9)
  else if 1048576 < lenB l then (0, [], 0, 8)
  else if l.length < 9 + lenB l then (0, [], 0, 9)
  else if sum4 l ≠ sumO l then (0, [], 0, 30)
  else (l.getD 1 0, payB l, 9 + lenB l, 0)

theorem at0_lt (l : List UInt8) (i : Nat) : at0 l i < 256 := (l.getD i 0).toNat_lt
theorem payB_length {l : List UInt8} (h : 9 + lenB l ≤ l.length) : (payB l).length = lenB l := by simp [payB]; omega

theorem openB_form {l : List UInt8} (h0 : 0 < l.length) (h1 : ¬ at0 l 0 = 167) : openB l = (0, [], 0, 10) := by simp [openB, h0, h1]
theorem openB_short {l : List UInt8} (h1 : l.length = 0 ∨ at0 l 0 = 167) (h9 : l.length < 9) : openB l = (0, [], 0, 9) := by
  unfold openB
  rw [if_neg (fun ⟨a, b⟩ => by rcases h1 with h | h; exact absurd h (by omega); exact b h), if_pos h9]
section
variable {l : List UInt8} (h1 : at0 l 0 = 167) (h9 : 9 ≤ l.length)
include h1 h9
theorem openB_limit (h : 1048576 < lenB l) : openB l = (0, [], 0, 8) := by
  unfold openB; rw [if_neg (fun ⟨_, b⟩ => b h1), if_neg (by omega), if_pos h]
theorem openB_short2 (hm : lenB l ≤ 1048576) (h : l.length < 9 + lenB l) : openB l = (0, [], 0, 9) := by
  unfold openB; rw [if_neg (fun ⟨_, b⟩ => b h1), if_neg (by omega), if_neg (by omega), if_pos h]
theorem openB_sum (hm : lenB l ≤ 1048576) (h : 9 + lenB l ≤ l.length) (hs : ¬ sum4 l = sumO l) : openB l = (0, [], 0, 30) := by
  unfold openB; rw [if_neg (fun ⟨_, b⟩ => b h1), if_neg (by omega), if_neg (by omega), if_neg (by omega), if_pos hs]
theorem openB_ok (hm : lenB l ≤ 1048576) (h : 9 + lenB l ≤ l.length) (hs : sum4 l = sumO l) : openB l = (l.getD 1 0, payB l, 9 + lenB l, 0) := by
  unfold openB; rw [if_neg (fun ⟨_, b⟩ => b h1), if_neg (by omega), if_neg (by omega), if_neg (by omega), if_neg (by simpa using hs)]
end
theorem sum4_lt (l : List UInt8) : sum4 l < 4294967296 := by
  have := at0_lt l 5; have := at0_lt l 6; have := at0_lt l 7; have := at0_lt l 8
  unfold sum4; omega

/-- The document seals what it took for the payload once more, and looks at the first nine bytes. -/
def again (l : List UInt8) : List UInt8 := sealB (l.getD 1 0) (payB l)
theorem byte_of (b : UInt8) (x : Nat) (h : x % 256 = b.toNat) : UInt8.ofNat x = b := by
  apply UInt8.toNat_inj.1; simp [h]
theorem nine {l : List UInt8} (h : 9 ≤ l.length) : ∃ x0 x1 x2 x3 x4 x5 x6 x7 x8 r, l = x0 :: x1 :: x2 :: x3 :: x4 :: x5 :: x6 :: x7 :: x8 :: r := by
  rcases l with _ | ⟨x0, l⟩
  · simp at h
  rcases l with _ | ⟨x1, l⟩
  · simp at h
  rcases l with _ | ⟨x2, l⟩
  · simp at h
  rcases l with _ | ⟨x3, l⟩
  · simp at h
  rcases l with _ | ⟨x4, l⟩
  · simp at h
  rcases l with _ | ⟨x5, l⟩
  · simp at h
  rcases l with _ | ⟨x6, l⟩
  · simp at h
  rcases l with _ | ⟨x7, l⟩
  · simp at h
  rcases l with _ | ⟨x8, l⟩
  · simp at h
  exact ⟨x0, x1, x2, x3, x4, x5, x6, x7, x8, l, rfl⟩
theorem hd_eq {l : List UInt8} (h9 : 9 ≤ l.length) (hp : (payB l).length = lenB l) : hd4 (l.getD 1 0) (payB l).length = (l.drop 1).take 4 := by
  rw [hp]
  obtain ⟨x0, x1, x2, x3, x4, x5, x6, x7, x8, r, rfl⟩ := nine h9
  have b2 := x2.toNat_lt; have b3 := x3.toNat_lt; have b4 := x4.toNat_lt
  · simp only [hd4, lenB, at0, List.getD_cons_succ, List.getD_cons_zero, List.drop_succ_cons, List.drop_zero, List.take_succ_cons, List.take_zero]
    rw [byte_of x2 _ (by omega), byte_of x3 _ (by omega), byte_of x4 _ (by omega)]
theorem again_sum {l : List UInt8} (h9 : 9 ≤ l.length) (hp : (payB l).length = lenB l) : sumB (l.getD 1 0) (payB l) = sumO l := by
  unfold sumB sumO; rw [hd_eq h9 hp]
theorem again_eq {l : List UInt8} (h9 : 9 ≤ l.length) (hp : (payB l).length = lenB l) : again l = 167 :: (l.drop 1).take 4 ++ le4 (sumO l) ++ payB l := by
  unfold again sealB; rw [again_sum h9 hp, hd_eq h9 hp]
theorem again_iff {l : List UInt8} (h1 : at0 l 0 = 167) (h9 : 9 ≤ l.length) (hp : (payB l).length = lenB l) : (∀ i, i < 9 → at0 (again l) i = at0 l i) ↔ sum4 l = sumO l := by
  have hs : sumO l < 4294967296 := crcN_lt _ _
  rw [again_eq h9 hp]
  generalize sumO l = c at *
  generalize payB l = p at *
  obtain ⟨x0, x1, x2, x3, x4, x5, x6, x7, x8, r, rfl⟩ := nine h9
  have b5 := x5.toNat_lt; have b6 := x6.toNat_lt; have b7 := x7.toNat_lt; have b8 := x8.toNat_lt
  simp only [at0, List.getD_cons_zero] at h1
  simp only [sum4, at0, le4, List.getD_cons_succ, List.getD_cons_zero, List.drop_succ_cons, List.drop_zero, List.take_succ_cons, List.take_zero, List.cons_append, List.nil_append]
  constructor
  · intro h
    have h5 := h 5 (by omega); have h6 := h 6 (by omega); have h7 := h 7 (by omega); have h8 := h 8 (by omega)
    simp at h5 h6 h7 h8
    omega
  · intro h i hi
    match i, hi with
    | 0, _ => simp [h1]
    | 1, _ => rfl
    | 2, _ => rfl
    | 3, _ => rfl
    | 4, _ => rfl
    | 5, _ => simp; omega
    | 6, _ => simp; omega
    | 7, _ => simp; omega
    | 8, _ => simp; omega

theorem le4_sum {c : Nat} (h : c < 4294967296) (x0 x1 x2 x3 x4 : UInt8) (r : List UInt8) : sum4 (x0 :: x1 :: x2 :: x3 :: x4 :: le4 c ++ r) = c := by
  simp [sum4, at0, le4]; omega
/-- What was sealed is opened again, whatever stands behind. -/
theorem openB_seal (k : UInt8) (p r : List UInt8) (hl : p.length ≤ 1048576) : openB (sealB k p ++ r) = (k, p, 9 + p.length, 0) := by
  have hlen : (sealB k p ++ r).length = 9 + p.length + r.length := by rw [List.length_append, sealB_length]
  have hL : lenB (sealB k p ++ r) = p.length := by
    simp [lenB, at0, sealB, hd4]; omega
  have hP : payB (sealB k p ++ r) = p := by
    unfold payB; rw [hL]; simp [sealB, hd4, le4]
  have hS : sum4 (sealB k p ++ r) = sumB k p := by
    have := le4_sum (sumB_lt k p) 167 k (UInt8.ofNat (p.length / 65536)) (UInt8.ofNat (p.length / 256)) (UInt8.ofNat p.length) (p ++ r)
    rw [← this]; simp [sealB, hd4]
  have hO : sumO (sealB k p ++ r) = sumB k p := by
    unfold sumO sumB; rw [hP]; simp [sealB, hd4]
  have h0 : at0 (sealB k p ++ r) 0 = 167 := by simp [at0, sealB]
  rw [openB_ok h0 (by omega) (by omega) (by omega) (by rw [hS, hO]), hP, hL]
  simp [sealB, hd4]

end Go.Proofs.Ytpckbbjlihhpdaa
