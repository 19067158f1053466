/- The program's writer and the document's bytes side by side; things of the law's. -/
import Derived.Test.YtojkbndaleiaaaaDoorRf3
import Derived.Test.YtojkbndaleiaaaaDoorLaid1
import Derived.Test.YtojkbndaleiaaaaDoorEl
namespace Go.Proofs.YtojkbndaleiaaaaDoor
open Go.RowKit

/-- A writer at block b with the bytes m, whose slice is v, and apart from it bytes n of the call's own at u. -/
structure Ld (w : World) (K b : Nat) (v : Value) (m : List UInt8) (u : Value) (n : List UInt8) : Prop where
  wr : Wr w K b v m
  ob : Ob w K u n
  d1 : ∀ k, v.ownBlock = some k → u.ownBlock ≠ some k
  d2 : u.ownBlock ≠ some b
section
variable {w w' : World} {K b : Nat} {v v' u u' : Value} {m m' n n' : List UInt8} {e : Ending}
theorem Ld.below (h : Ld w K b v m u n) (hb : Below w.heap.size w w') : Ld w' K b v m u n := ⟨h.wr.below hb, h.ob.below hb, h.d1, h.d2⟩
theorem Ld.alloc (h : Ld w K b v m u n) (o : Obj) : Ld (w.alloc o) K b v m u n := h.below ((Below.refl _ _).alloc (Nat.le_refl _) _)
theorem Ld.fresh (h : Ld w K b v m u n) {k : Nat} (hk : w.heap.size ≤ k) : ¬ (k = b ∨ v.ownBlock = some k) := by
  intro hn
  rcases hn with e | e
  · have := h.wr.lt; omega
  · have := (h.wr.ob.lt k e).2; omega
theorem Ld.step1 (h : Ld w K b v m u n) (hs : Wst w K b v m' e w' v') : Ld w' K b v' m' u n ∧ Below K w w' := by
  refine ⟨⟨hs.wr, hs.tn.ob h.ob fun k hk hn => ?_, fun k hk hu => ?_, h.d2⟩, hs.tn.below ?_ fun k _ hn => ?_⟩
  · rcases hn with e | e
    · subst e; exact h.d2 hk
    · exact h.d1 k e hk
  · rcases hs.own with e | ⟨j, e, hj⟩
    · exact h.d1 k (e.symm.trans hk) hu
    · rw [e] at hk
      injection hk with hk
      have := (h.ob.lt k hu).2
      omega
  · have := h.wr.lt; have := h.wr.kb; omega
  · rcases hn with e | e
    · have := h.wr.kb; omega
    · exact (h.wr.ob.lt k e).1
theorem Ld.step2 (h : Ld w K b v m u n) (ho : Ob w' K u' n') (hg : Gr w w' u u') : Ld w' K b v m u' n' ∧ Below K w w' := by
  have ht := Tn.ofGrown hg.g
  refine ⟨⟨h.wr.tn ht (fun e => h.d2 e.symm) (fun k hk e => h.d1 k hk e.symm), ho, fun k hk hu => ?_, fun hu => ?_⟩, ht.below ?_ fun k _ hn => (h.ob.lt k hn.symm).1⟩
  · rcases hg.o with e | ⟨j, e, hj⟩
    · exact h.d1 k hk (e.symm.trans hu)
    · rw [e] at hu
      injection hu with hu
      have := (h.wr.ob.lt k hk).2
      omega
  · rcases hg.o with e | ⟨j, e, hj⟩
    · exact h.d2 (e.symm.trans hu)
    · rw [e] at hu
      injection hu with hu
      have := h.wr.lt
      omega
  · have := h.wr.lt; have := h.wr.kb; omega
end

/-- A thing of the law's. -/
structure Itm where
  kd : Int
  nu : Nat
  iv : Int
  fl : Bool
  tx : ByteArray
  x : Int
  y : Int
  z : Int
  mo : Int
def encIt (i : Itm) : List Value := [.int .i64 i.kd, .int .u64 (i.nu : Int), .int .i64 i.iv, .bool i.fl, .string i.tx, .int .i64 i.x, .int .u32 i.y, .int .u32 i.z, .int .i64 i.mo]
structure Itm.ok (i : Itm) : Prop where
  nu : i.nu ≤ 18446744073709551615
  iv0 : -9223372036854775808 ≤ i.iv
  iv1 : i.iv ≤ 9223372036854775807
  y : 0 ≤ i.y ∧ i.y ≤ 4294967295
  z : 0 ≤ i.z ∧ i.z ≤ 4294967295
/-- The bytes of a thing. -/
def Itm.by (i : Itm) : List UInt8 :=
  if i.kd = 0 then numB i.nu else if i.kd = 1 then numB (zz i.iv) else if i.kd = 2 then [if i.fl then 1 else 0] else if i.kd = 3 then numB i.tx.size ++ i.tx.data.toList else if i.kd = 4 then putB i.x i.y i.z else []
def encs (l : List Itm) : List UInt8 := l.flatMap Itm.by
theorem encs_succ (l : List Itm) (q : Nat) (h : q < l.length) : encs (l.take (q + 1)) = encs (l.take q) ++ l[q].by := by
  unfold encs
  rw [List.take_add_one, List.getElem?_eq_getElem h, List.flatMap_append]
  congr 1
  show List.flatMap Itm.by [l[q]] = _
  simp
theorem encs_le (l : List Itm) (q : Nat) : (encs (l.take q)).length ≤ (encs l).length := by
  have e : encs l = encs (l.take q) ++ encs (l.drop q) := by
    unfold encs
    rw [← List.flatMap_append, List.take_append_drop]
  rw [e, List.length_append]
  omega
theorem numB_le9 (n : Nat) : (numB n).length ≤ 9 := by rw [numB_length]; have := kN_le n; omega
theorem by_le (i : Itm) : i.by.length ≤ 16 + i.tx.size := by
  unfold Itm.by
  have h1 := numB_le9 i.nu
  have h2 := numB_le9 (zz i.iv)
  have h3 := numB_le9 i.tx.size
  have h4 := putB_length i.x i.y i.z
  have h5 : i.tx.data.toList.length = i.tx.size := by simp
  repeat' split
  all_goals (try simp only [List.length_append, List.length_cons, List.length_nil])
  all_goals omega
theorem encs_bound (B : Nat) : ∀ l : List Itm, (∀ i ∈ l, i.tx.size ≤ B) → (encs l).length ≤ l.length * (16 + B)
  | [], _ => by simp [encs]
  | i :: r, h => by
    have h1 := encs_bound B r fun j hj => h j (List.mem_cons_of_mem _ hj)
    have h2 := by_le i
    have h3 := h i List.mem_cons_self
    have e : encs (i :: r) = i.by ++ encs r := by simp [encs]
    rw [e, List.length_append, List.length_cons, Nat.add_mul, Nat.one_mul]
    omega
end Go.Proofs.YtojkbndaleiaaaaDoor
