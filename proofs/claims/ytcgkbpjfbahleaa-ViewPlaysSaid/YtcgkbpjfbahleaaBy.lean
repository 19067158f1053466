/- Slices of bytes in memory, read as lists; nil and empty ones let in. -/
import Derived.Test.YtcgkbpjfbahleaaBase
namespace Go.Proofs.Ytcgkbpjfbahleaa
open Go.RowKit

theorem block_of_add (a : Addr) (n : Nat) : (a.add n).block = a.block := by unfold Addr.add; split <;> rfl
theorem add_of_add (a : Addr) (i j : Nat) : (a.add i).add j = a.add (i + j) := by
  unfold Addr.add
  by_cases hi : i = 0 <;> by_cases hj : j = 0 <;> simp [hi, hj, Nat.add_assoc]

/-- The slice with address A, length n and capacity cap reads as the bytes l, in memory below block K. -/
structure Bs (w : World) (K : Nat) (A : Option Addr) (cap : Nat) (l : List UInt8) : Prop where
  le : l.length ≤ cap
  max : cap ≤ maxLen
  nil : A = none → cap = 0
  at_ : 0 < l.length → ∃ ad : Addr, A = some ad ∧ ad.block < K ∧ ∀ k c, l[k]? = some c → w.cell? (ad.add k) = some (.int .u8 (c.toNat : Int))

section
variable {w w' : World} {K K' cap : Nat} {A : Option Addr} {l : List UInt8}
theorem Bs.get (h : Bs w K A cap l) {k : Nat} (hk : k < l.length) : ∃ ad : Addr, A = some ad ∧ ad.block < K ∧ w.cell? (ad.add k) = some (.int .u8 (l[k].toNat : Int)) := by
  obtain ⟨ad, e, hb, hc⟩ := h.at_ (by omega)
  exact ⟨ad, e, hb, hc k _ (List.getElem?_eq_getElem hk)⟩
theorem Bs.keep (h : Bs w K A cap l) (hk : ∀ p : Addr, p.block < K → w'.cell? p = w.cell? p) : Bs w' K A cap l :=
  ⟨h.le, h.max, h.nil, fun hn => by
    obtain ⟨ad, e, hb, hc⟩ := h.at_ hn
    exact ⟨ad, e, hb, fun j u hu => (hk _ (by rw [block_of_add]; exact hb)).trans (hc j u hu)⟩⟩
theorem Bs.cut (h : Bs w K A cap l) {i j : Nat} (hij : i ≤ j) (hj : j ≤ l.length) : Bs w K (if cap = i then A else A.map (·.add i)) (cap - i) ((l.drop i).take (j - i)) := by
  have hle := h.le
  have hmax := h.max
  have hlen : ((l.drop i).take (j - i)).length = j - i := by simp; omega
  refine ⟨by rw [hlen]; omega, by omega, fun hn => ?_, fun hn => ?_⟩
  · by_cases e : cap = i
    · omega
    · rw [if_neg e] at hn
      have : A = none := by cases A <;> simp_all
      have := h.nil this
      omega
  · rw [hlen] at hn
    obtain ⟨ad, rfl, hb, hc⟩ := h.at_ (by omega)
    rw [if_neg (by omega)]
    refine ⟨_, rfl, by rw [block_of_add]; exact hb, fun k c hk => ?_⟩
    rw [add_of_add]
    refine hc _ c ?_
    rw [List.getElem?_take] at hk
    split at hk
    · rwa [List.getElem?_drop] at hk
    · cases hk
theorem Bs.some_ (h : Bs w K A cap l) (hl : 0 < l.length) : ∃ ad : Addr, A = some ad ∧ ad.block < K := by
  obtain ⟨ad, e, hb, _⟩ := h.at_ hl
  exact ⟨ad, e, hb⟩
theorem Bs.cutS {ad : Addr} (h : Bs w K (some ad) cap l) {i j : Nat} (hi : 0 < i) (hij : i ≤ j) (hj : j ≤ l.length) (hc : i < cap) : Bs w K (some ⟨ad.block, ad.off + i, none⟩) (cap - i) ((l.drop i).take (j - i)) := by
  have := h.cut hij hj
  rw [if_neg (by omega)] at this
  have e : ad.add i = ⟨ad.block, ad.off + i, none⟩ := by unfold Addr.add; rw [if_neg (by omega)]
  rwa [Option.map_some, e] at this
theorem Bs.c {ad : Addr} (h : Bs w K (some ad) cap l) (i : Nat) (hi : 0 < i) (hil : i < l.length) : w.cell? ⟨ad.block, ad.off + i, none⟩ = some (.int .u8 ((l.getD i 0).toNat : Int)) := by
  obtain ⟨ad', e, _, hc⟩ := h.get hil
  cases e
  have e : ad.add i = ⟨ad.block, ad.off + i, none⟩ := by unfold Addr.add; rw [if_neg (by omega)]
  rw [e] at hc
  rw [hc]; simp [hil]
theorem Bs.c0 {ad : Addr} (h : Bs w K (some ad) cap l) (hil : 0 < l.length) : w.cell? ad = some (.int .u8 ((l.getD 0 0).toNat : Int)) := by
  obtain ⟨ad', e, _, hc⟩ := h.get hil
  cases e
  have e : ad.add 0 = ad := by unfold Addr.add; rw [if_pos rfl]
  rw [e] at hc
  rw [hc]; simp [hil]
theorem Bs.drew (h : Bs w K A cap l) : Bs w.drew K A cap l := ⟨h.le, h.max, h.nil, h.at_⟩
theorem Bs.drewN (h : Bs w K A cap l) (n : Nat) : Bs (w.drewN n) K A cap l := ⟨h.le, h.max, h.nil, h.at_⟩
theorem Bs.more (h : Bs w K A cap l) (hB : K ≤ K') : Bs w K' A cap l :=
  ⟨h.le, h.max, h.nil, fun hn => by
    obtain ⟨ad, e, hb, hc⟩ := h.at_ hn
    exact ⟨ad, e, by omega, hc⟩⟩
theorem Bs.alloc (h : Bs w K A cap l) (hK : K ≤ w.heap.size) (o : Obj) : Bs (w.alloc o) K A cap l := h.keep fun _ hp => World.cell?_alloc_lt _ _ _ (by omega)
theorem Bs.below (h : Bs w K A cap l) (hb : Below K w w') : Bs w' K A cap l := h.keep fun _ hp => hb.cell hp
end

end Go.Proofs.Ytcgkbpjfbahleaa
