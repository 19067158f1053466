/- The rules with which a text begins, as plain functions. -/
import Derived.Test.YtfmgphjnajgldaaDoorMtM
import Derived.Test.YtfmgphjnajgldaaDoorLbUM
import Derived.Test.YtfmgphjnajgldaaDoorLbPM
import Derived.Lib.IndexAny
namespace Go.Proofs.YtfmgphjnajgldaaDoor
open Go.RowKit

def sgL : List UInt8 := [61, 33, 94, 42]
def sgB (o : Int) : List UInt8 := if o = 1 then [61] else if o = 2 then [33, 61] else if o = 3 then [94, 61] else if o = 4 then [42, 61] else []
def opR (r : List UInt8) : Int := if Lib.hasPrefix r [61] = true then 1 else if Lib.hasPrefix r [33, 61] = true then 2 else if Lib.hasPrefix r [94, 61] = true then 3 else if Lib.hasPrefix r [42, 61] = true then 4 else 0
theorem opR_bd (r : List UInt8) : 0 ≤ opR r ∧ opR r ≤ 4 := by unfold opR; (repeat' split) <;> omega
theorem sgB_len (o : Int) : (sgB o).length ≤ 2 := by unfold sgB; (repeat' split) <;> decide
theorem hasPrefix_len {l p : List UInt8} (h : Lib.hasPrefix l p = true) : p.length ≤ l.length := (List.isPrefixOf_iff_prefix.1 h).length_le
theorem opR_len (r : List UInt8) : (sgB (opR r)).length ≤ r.length := by
  unfold opR
  split
  · have := hasPrefix_len ‹_›; simpa [sgB] using this
  split
  · have := hasPrefix_len ‹_›; simpa [sgB] using this
  split
  · have := hasPrefix_len ‹_›; simpa [sgB] using this
  split
  · have := hasPrefix_len ‹_›; simpa [sgB] using this
  · exact Nat.zero_le _
theorem unqL_le (l : List UInt8) : (unqL l).1.length ≤ l.length ∧ (unqL l).2 ≤ l.length := by
  have := unqB_len ⟨l.toArray⟩
  simpa [unqB, ByteArray.size] using this
def mkR (n : List UInt8) (o : Int) (v : List UInt8) : Rp := (⟨n.toArray⟩, o, ⟨v.toArray⟩)
/-- The rule with which a text begins at whose place k a sign begins, and how many bytes it has. -/
def ruleAt (t : List UInt8) (k : Nat) : Rp × Nat :=
  if (unqL ((t.drop k).drop (sgB (opR (t.drop k))).length)).2 = 0 ∨ ruleB (mkR (t.take k) (opR (t.drop k)) (unqL ((t.drop k).drop (sgB (opR (t.drop k))).length)).1) = false then (nilR, 0)
  else (mkR (t.take k) (opR (t.drop k)) (unqL ((t.drop k).drop (sgB (opR (t.drop k))).length)).1, k + (sgB (opR (t.drop k))).length + (unqL ((t.drop k).drop (sgB (opR (t.drop k))).length)).2)
def partR (t : List UInt8) : Rp × Nat := if Lib.indexAny t sgL < 0 then (nilR, 0) else ruleAt t (Lib.indexAny t sgL).toNat
theorem indexAny_lt (c : List UInt8) : ∀ l : List UInt8, Lib.indexAny l c < l.length
  | [] => by simp [Lib.indexAny]
  | b :: l => by
    have := indexAny_lt c l
    have h0 := Lib.indexAny_ge c l
    unfold Lib.indexAny
    rw [List.length_cons]
    split
    · omega
    · split <;> omega
theorem ruleAt_len {t : List UInt8} {k : Nat} (hk : k ≤ t.length) : (ruleAt t k).2 ≤ t.length ∧ (ruleAt t k).1.1.size ≤ t.length ∧ (ruleAt t k).1.2.2.size ≤ t.length := by
  have h1 := opR_len (t.drop k)
  have h2 := unqL_le ((t.drop k).drop (sgB (opR (t.drop k))).length)
  rw [List.length_drop, List.length_drop] at h2
  rw [List.length_drop] at h1
  unfold ruleAt
  split
  · exact ⟨Nat.zero_le _, Nat.zero_le _, Nat.zero_le _⟩
  · have e1 : (⟨(t.take k).toArray⟩ : ByteArray).size = (t.take k).length := by simp [ByteArray.size]
    have e2 : (⟨(unqL ((t.drop k).drop (sgB (opR (t.drop k))).length)).1.toArray⟩ : ByteArray).size = (unqL ((t.drop k).drop (sgB (opR (t.drop k))).length)).1.length := by simp [ByteArray.size]
    refine ⟨?_, ?_, ?_⟩
    · show k + _ + _ ≤ _
      omega
    · show ByteArray.size ⟨(t.take k).toArray⟩ ≤ _
      rw [e1, List.length_take]
      omega
    · show ByteArray.size ⟨(unqL ((t.drop k).drop (sgB (opR (t.drop k))).length)).1.toArray⟩ ≤ _
      rw [e2]
      omega
theorem partR_len (t : List UInt8) : (partR t).2 ≤ t.length ∧ (partR t).1.1.size ≤ t.length ∧ (partR t).1.2.2.size ≤ t.length := by
  unfold partR
  split
  · exact ⟨Nat.zero_le _, Nat.zero_le _, Nat.zero_le _⟩
  · have := indexAny_lt sgL t
    exact ruleAt_len (by omega)

def parseGo : Nat → List UInt8 → Nat → List Rp → List Rp × Nat
  | 0, _, _, _ => ([], 0)
  | f + 1, t, at_, acc => if (partR t).2 = 0 ∨ acc.length = 16 then ([], 0)
    else if Lib.hasPrefix (t.drop (partR t).2) [125] = true then (acc ++ [(partR t).1], at_ + (partR t).2 + 1)
    else if Lib.hasPrefix (t.drop (partR t).2) [44] = true then parseGo f (t.drop ((partR t).2 + 1)) (at_ + (partR t).2 + 1) (acc ++ [(partR t).1])
    else ([], 0)
def parseB (t : List UInt8) : List Rp × Nat :=
  if Lib.hasPrefix t [123, 125] = true then ([], 2) else if Lib.hasPrefix t [123] = true then parseGo 17 (t.drop 1) 1 [] else ([], 0)
def SmL (N : Nat) (l : List Rp) : Prop := ∀ x ∈ l, x.1.size ≤ N ∧ x.2.2.size ≤ N
theorem parseGo_sm (N : Nat) : ∀ (f : Nat) (t : List UInt8) (at_ : Nat) (acc : List Rp), t.length ≤ N → SmL N acc → SmL N (parseGo f t at_ acc).1
  | 0, _, _, _, _, _ => fun x hx => by simp [parseGo] at hx
  | f + 1, t, at_, acc, ht, ha => by
    have hp := partR_len t
    have hs : SmL N (acc ++ [(partR t).1]) := fun x hx => by
      rcases List.mem_append.1 hx with h | h
      · exact ha x h
      · simp at h; subst h; omega
    rw [parseGo]
    split
    · exact fun x hx => by simp at hx
    split
    · exact hs
    split
    · exact parseGo_sm N f _ _ _ (by rw [List.length_drop]; omega) hs
    · exact fun x hx => by simp at hx
theorem parseB_sm (t : List UInt8) : SmL t.length (parseB t).1 := by
  unfold parseB
  split
  · exact fun x hx => by simp at hx
  split
  · exact parseGo_sm _ _ _ _ _ (by rw [List.length_drop]; omega) (fun x hx => by simp at hx)
  · exact fun x hx => by simp at hx
theorem parse_awake : parseB [123, 97, 61, 34, 120, 34, 125, 46, 46] = ([(⟨#[97]⟩, 1, ⟨#[120]⟩)], 7) := by decide +kernel
theorem all_awake : allB [(⟨#[97]⟩, ⟨#[120]⟩)] [(⟨#[97]⟩, 1, ⟨#[120]⟩)] = true ∧ allB [] [(⟨#[97]⟩, 1, ⟨#[120]⟩)] = false := by decide +kernel
end Go.Proofs.YtfmgphjnajgldaaDoor
