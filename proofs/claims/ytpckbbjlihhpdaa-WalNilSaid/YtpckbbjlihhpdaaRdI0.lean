/- Small facts of a disk's segments. -/
import Derived.Test.YtpckbbjlihhpdaaDkA
import Derived.Test.YtpckbbjlihhpdaaHb
namespace Go.Proofs.Ytpckbbjlihhpdaa
open Go.RowKit

theorem sum_mem {x : As} {L : List As} (h : x ∈ L) : x.b.length ≤ sumA L := by
  obtain ⟨T, R, rfl⟩ := List.append_of_mem h
  rw [sumA_append]
  simp only [sumA]
  omega
theorem so_addr {w : World} {K n cap : Nat} {T : TypeId} {A : Option Addr} {l : List Int} (h : So encI 1 w K T (.slice A n cap) l) (hl : 0 < l.length) : ∃ g, A = some ⟨g, 0, none⟩ := by
  rcases h.2 with ⟨_, h0⟩ | ⟨g, cap', cur, he, _⟩
  · omega
  · injection he with h1 _ _
    exact ⟨g, h1⟩
theorem so_slot {w : World} {K n cap h i : Nat} {T : TypeId} {l : List Int} {x : Int} (so : So encI 1 w K T (.slice (some ⟨h, 0, none⟩) n cap) l) (hi : l[i]? = some x) : w.cell? ⟨h, i, none⟩ = some (.int .i64 x) := by
  have h1 := World.ownsRow.cells (g := h) so rfl _ _ (flatMap_get encI_len l i x hi 0 (.int .i64 x) rfl)
  have e : (⟨h, 0, none⟩ : Addr).add (i * 1 + 0) = ⟨h, i, none⟩ := by unfold Addr.add; split <;> simp_all
  rwa [e] at h1
section
variable {w wx : World} {B : Nat → Prop} {d : Nat} {a : Ad} {room fuse : Int} {L : List As}
theorem segs_DD (h : DD wx B d a) (hd : a.down = false) : Calls Try.prog 34 #[dP d] wx fun e w' => ∃ v, e = .returned (.tuple #[v, .int .i64 0]) ∧ So encI 1 w' wx.heap.size 3 v (a.L.map As.n) ∧ Below wx.heap.size wx w' := by
  obtain ⟨K, mb, M, D, e, _⟩ := h.ex
  have hl : M.length ≤ 1024 := by have := h.ln; rw [← e, List.length_map] at this; exact this
  rw [hd] at D
  have e2 : M.map Sg.n = a.L.map As.n := by rw [← e, List.map_map]; rfl
  rw [← e2]
  exact segs_ok D hl
theorem segs_DDn (h : DD wx B d ⟨room, fuse, true, L⟩) : Calls Try.prog 34 #[dP d] wx fun e w' => e = .returned (.tuple #[.slice none 0 0, .int .i64 5]) ∧ w' = wx := by
  obtain ⟨K, mb, M, D, e, _⟩ := h.ex
  exact segs_down D
theorem own_block {k : Nat} {ad : Addr} {K n c : Nat} {l : List UInt8} {A9 : Option Addr} (ho : Ob wx K (.slice A9 n c) l) (hl : 0 < l.length) (e : A9 = some ad) (ek : ad.block = k) : K ≤ k ∧ (Value.slice A9 n c).ownBlock = some k := by
  have hn := ho.bs.2
  obtain ⟨g', e', h1, h2⟩ := ho.addr (by omega)
  rw [e'] at e
  cases e
  subst ek
  refine ⟨h1, ?_⟩
  rw [e']
  rfl
end
end Go.Proofs.Ytpckbbjlihhpdaa
