/- Rules as a text, as plain functions. -/
import Derived.Test.YtfmgphjnajgldaaDoorMtPM
import Derived.Test.YtfmgphjnajgldaaDoorLbXM
namespace Go.Proofs.YtfmgphjnajgldaaDoor
open Go.RowKit

/-- A rule's part of the text. -/
def partRL (x : Rp) : List UInt8 := x.1.data.toList ++ sgB x.2.1 ++ quoteB x.2.2
def partRS (x : Rp) : ByteArray := x.1 ++ ⟨(sgB x.2.1).toArray⟩ ++ ⟨(quoteB x.2.2).toArray⟩
theorem partRS_list (x : Rp) : (partRS x).data.toList = partRL x := by simp [partRS, partRL]
def SmR2 (l : List Rp) : Prop := ∀ x ∈ l, x.1.size ≤ 1048576 ∧ x.2.2.size ≤ 1048576
theorem partRL_len {x : Rp} (h : x.1.size ≤ 1048576 ∧ x.2.2.size ≤ 1048576) : (partRL x).length ≤ 4000000 := by
  have h2 := quoteB_len x.2.2
  have h4 := sgB_len x.2.1
  have h3 : x.1.data.toList.length = x.1.size := by simp
  simp only [partRL, List.length_append, h3]
  omega
def textR (l : List Rp) : List UInt8 := 123 :: (Lib.join (l.map partRL) [44] ++ [125])
theorem partsR_len {l : List Rp} (h : SmR2 l) : (Lib.join (l.map partRL) [44]).length ≤ l.length * 4000001 := by
  have := join_len_le [44] 4000000 (l.map partRL) (fun x hx => by
    obtain ⟨p, hp, rfl⟩ := List.mem_map.1 hx
    exact partRL_len (h p hp))
  simpa using this
theorem partsR_list (l : List Rp) : (l.map partRS).map (·.data.toList) = l.map partRL := by
  rw [List.map_map]
  apply List.map_congr_left
  intro x _
  exact partRS_list x
end Go.Proofs.YtfmgphjnajgldaaDoor
