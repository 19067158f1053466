/- A set as a text, as plain functions. -/
import Derived.Test.YtfmgphjnajgldaaDoorLbQM
import Derived.Test.YtfmgphjnajgldaaDoorLbRM
import Derived.Lib.Join
namespace Go.Proofs.YtfmgphjnajgldaaDoor
open Go.RowKit

def encS (s : ByteArray) : List Value := [.string s]
theorem encS_len (s : ByteArray) : (encS s).length = 1 := rfl
theorem encS_one (s : ByteArray) : ∀ u ∈ encS s, u.oneCell' = true := by intro u hu; simp [encS] at hu; subst hu; rfl
/-- A label's part of the text. -/
def partL (x : Pp) : List UInt8 := x.1.data.toList ++ [61] ++ quoteB x.2
def partS (x : Pp) : ByteArray := x.1 ++ ⟨#[61]⟩ ++ ⟨(quoteB x.2).toArray⟩
theorem app_list (a b : ByteArray) : (a ++ b).data.toList = a.data.toList ++ b.data.toList := by simp
theorem partS_list (x : Pp) : (partS x).data.toList = partL x := by simp [partS, partL]
theorem partL_len {x : Pp} (h : x.1.size ≤ 1048576 ∧ x.2.size ≤ 1048576) : (partL x).length ≤ 4000000 := by
  have h2 := quoteB_len x.2
  have h3 : x.1.data.toList.length = x.1.size := by simp
  simp only [partL, List.length_append, List.length_singleton, h3]
  omega
theorem joinTail_len (sep : List UInt8) (M : Nat) : ∀ l : List (List UInt8), (∀ x ∈ l, x.length ≤ M) → (Lib.joinTail sep l).length ≤ l.length * (M + sep.length)
  | [], _ => by simp [Lib.joinTail]
  | x :: l, h => by
    have h1 := h x (by simp)
    have h2 := joinTail_len sep M l (fun z hz => h z (by simp [hz]))
    have e : Lib.joinTail sep (x :: l) = sep ++ x ++ Lib.joinTail sep l := by simp [Lib.joinTail]
    rw [e, List.length_append, List.length_append, List.length_cons, Nat.add_mul, Nat.one_mul]
    omega
theorem join_len_le (sep : List UInt8) (M : Nat) (l : List (List UInt8)) (h : ∀ x ∈ l, x.length ≤ M) : (Lib.join l sep).length ≤ l.length * (M + sep.length) := by
  cases l with
  | nil => simp [Lib.join_nil]
  | cons x l =>
    have h1 := h x (by simp)
    have h2 := joinTail_len sep M l (fun z hz => h z (by simp [hz]))
    rw [Lib.join_cons, List.length_append, List.length_cons, Nat.add_mul, Nat.one_mul]
    omega
theorem joinTail_snoc (sep y : List UInt8) (l : List (List UInt8)) : Lib.joinTail sep (l ++ [y]) = Lib.joinTail sep l ++ (sep ++ y) := by simp [Lib.joinTail]
theorem join_snoc (sep y : List UInt8) {l : List (List UInt8)} (h : l ≠ []) : Lib.join (l ++ [y]) sep = Lib.join l sep ++ (sep ++ y) := by
  cases l with
  | nil => exact absurd rfl h
  | cons x l => rw [List.cons_append, Lib.join_cons, Lib.join_cons, joinTail_snoc, List.append_assoc]
def textB (l : List Pp) : List UInt8 := 123 :: (Lib.join (l.map partL) [44] ++ [125])
theorem parts_len {l : List Pp} (h : Sm l) : (Lib.join (l.map partL) [44]).length ≤ l.length * 4000001 := by
  have := join_len_le [44] 4000000 (l.map partL) (fun x hx => by
    obtain ⟨p, hp, rfl⟩ := List.mem_map.1 hx
    exact partL_len (h p hp))
  simpa using this
theorem parts_list (l : List Pp) : (l.map partS).map (·.data.toList) = l.map partL := by
  rw [List.map_map]
  apply List.map_congr_left
  intro x _
  exact partS_list x
end Go.Proofs.YtfmgphjnajgldaaDoor
