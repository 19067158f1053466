/- A disk as such, its segments as a list; what each method makes of it: the mathematics. -/
import Derived.Test.YtpckbbjlihhpdaaBase
namespace Go.Proofs.Ytpckbbjlihhpdaa
open Go.RowKit

def fz (f : Int) : Int := if 0 < f then f - 1 else f
/-- A segment as such: its number, its bytes, how many last, whether it lasts. -/
structure As where
  n : Int
  b : List UInt8
  l : Nat
  k : Bool
def kq (a : As) (more : Int) : Nat := min (a.l + more.toNat) a.b.length
def tornA (a : As) (more : Int) : List As := if a.k = true ∨ 0 < kq a more then [⟨a.n, a.b.take (kq a more), kq a more, true⟩] else []
def crashA : List As → List Int → List As
  | [], _ => []
  | a :: r, ks => tornA a (ks.headD 0) ++ crashA r ks.tail
def sumA : List As → Nat
  | [] => 0
  | a :: r => a.b.length + sumA r
theorem sumA_append (x y : List As) : sumA (x ++ y) = sumA x + sumA y := by
  induction x with
  | nil => simp [sumA]
  | cons a x ih => simp only [List.cons_append, sumA, ih]; omega
theorem kq_le (a : As) (more : Int) : kq a more ≤ a.b.length := Nat.min_le_right _ _
theorem sum_torn (a : As) (more : Int) : sumA (tornA a more) = kq a more := by
  have := kq_le a more
  unfold tornA
  split
  · simp only [sumA, List.length_take]; omega
  · rename_i h
    have := (not_or.1 h).2
    simp only [sumA]; omega
theorem len_torn (a : As) (more : Int) : (tornA a more).length ≤ 1 := by
  unfold tornA
  split <;> simp
theorem len_crash : ∀ (L : List As) (ks : List Int), (crashA L ks).length ≤ L.length
  | [], _ => by simp [crashA]
  | a :: r, ks => by
    have h1 := len_torn a (ks.headD 0)
    have h2 := len_crash r ks.tail
    simp only [crashA, List.length_append, List.length_cons]; omega
theorem sum_crash : ∀ (L : List As) (ks : List Int), sumA (crashA L ks) ≤ sumA L
  | [], _ => by simp [crashA, sumA]
  | a :: r, ks => by
    have h1 := sum_torn a (ks.headD 0)
    have h2 := sum_crash r ks.tail
    have h3 := kq_le a (ks.headD 0)
    simp only [crashA, sumA_append, sumA]; omega
def hasA (L : List As) (n : Int) : Bool := L.any fun a => decide (a.n = n)
def putA (n : Int) (p : List UInt8) : List As → List As
  | [] => [⟨n, p, 0, false⟩]
  | x :: r => if n < x.n then ⟨n, p, 0, false⟩ :: x :: r else if x.n = n then ⟨x.n, x.b ++ p, x.l, x.k⟩ :: r else x :: putA n p r
def syncA (n : Int) (L : List As) : List As := L.map fun a => if a.n = n then ⟨a.n, a.b, a.b.length, true⟩ else a
def dropA (n : Int) (L : List As) : List As := L.filter fun a => !decide (a.n = n)
structure Ad where
  room : Int
  fuse : Int
  down : Bool
  L : List As
def appD (a : Ad) (n : Int) (p : List UInt8) : Int × Ad :=
  if a.down = true then (5, a) else if n < 1 then (1, a) else if a.room - (sumA a.L : Nat) < (p.length : Nat) then (4, a) else if hasA a.L n = false ∧ 1024 ≤ a.L.length then (4, a)
  else if a.fuse = 0 then (5, ⟨a.room, 0, true, a.L⟩) else (0, ⟨a.room, fz a.fuse, false, putA n p a.L⟩)
def opD (f : Int → List As → List As) (a : Ad) (n : Int) : Int × Ad :=
  if a.down = true then (5, a) else if hasA a.L n = false then (6, a) else if a.fuse = 0 then (5, ⟨a.room, 0, true, a.L⟩) else (0, ⟨a.room, fz a.fuse, false, f n a.L⟩)
def fuseD (a : Ad) (n : Int) : Int × Ad := if a.down = true then (5, a) else (0, ⟨a.room, max n (-1), false, a.L⟩)
def crashD (a : Ad) (ks : List Int) : Ad := ⟨a.room, -1, false, crashA a.L ks⟩

theorem sum_put (n : Int) (p : List UInt8) : ∀ L : List As, sumA (putA n p L) = sumA L + p.length
  | [] => by simp [putA, sumA]
  | x :: r => by
    unfold putA
    split
    · simp only [sumA]; omega
    · split
      · simp only [sumA, List.length_append]; omega
      · simp only [sumA, sum_put n p r]; omega
theorem len_put (n : Int) (p : List UInt8) : ∀ L : List As, (putA n p L).length ≤ L.length + 1
  | [] => by simp [putA]
  | x :: r => by
    have := len_put n p r
    unfold putA
    split
    · simp
    · split <;> simp <;> omega
theorem sum_sync (n : Int) (L : List As) : sumA (syncA n L) = sumA L := by
  induction L with
  | nil => rfl
  | cons x r ih =>
    show sumA ((if x.n = n then ⟨x.n, x.b, x.b.length, true⟩ else x) :: syncA n r) = _
    split <;> simp only [sumA, ih]
theorem len_drop (n : Int) (L : List As) : (dropA n L).length ≤ L.length := List.length_filter_le _ _

theorem fz_bd {f : Int} (h1 : -1 ≤ f) (h2 : f ≤ 9223372036854775807) : -1 ≤ fz f ∧ fz f ≤ 9223372036854775807 := by unfold fz; split <;> omega
end Go.Proofs.Ytpckbbjlihhpdaa
