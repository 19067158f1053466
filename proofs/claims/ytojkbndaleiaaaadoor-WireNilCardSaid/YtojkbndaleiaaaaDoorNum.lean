/- How many bytes a number has, and a number behind bytes. -/
import Derived.Test.YtojkbndaleiaaaaDoorLen
import Derived.Test.YtojkbndaleiaaaaDoorNumM
import Derived.Test.YtojkbndaleiaaaaDoorPut
import Derived.Maps.Range
namespace Go.Proofs.YtojkbndaleiaaaaDoor
open Go.RowKit

theorem behind_any (n : Nat) (w : World) (h1 : n ≤ 18446744073709551615) :
    Calls Tryd.prog 38 #[.int .u64 (n : Int)] w fun e w' => e = .returned (.int .i64 (kN n : Int)) ∧ w = w' := by
  have hc := len64_any n w h1
  have HC := Lib.hid hc
  have hb := bitLen_le n
  by_cases h : n ≤ 247
  · have hk := kN_low h
    rw [hk]
    clear hc hk hb
    go_enter Tryd.func38, Tryd.ntmps38
    go_wp2_with fail
    go_ret
    exact ⟨rfl, rfl⟩
  · have hk := kN_high (n := n) (by omega)
    rw [hk]
    clear hc hk
    generalize Lib.bitLen n = b at *
    have hn : ¬ ((n : Int) ≤ 247) := by omega
    go_enter Tryd.func38, Tryd.ntmps38
    go_wp2_with (go_at_call 48; refine HC.out.mono ?_; rintro e w' ⟨rfl, rfl⟩)
    go_ret
    exact ⟨ret_int (by omega), rfl⟩

/-- What an append did: the old row may have grown in place, or the new one is new. -/
structure Gr (w w' : World) (v v' : Value) : Prop where
  g : w.grownBy w' v.ownBlock
  o : v'.ownBlock = v.ownBlock ∨ ∃ j, v'.ownBlock = some j ∧ w.heap.size ≤ j
theorem Gr.refl (w : World) (v : Value) : Gr w w v v := ⟨⟨rfl, rfl, rfl, Nat.le_refl _, fun _ _ _ => rfl⟩, .inl rfl⟩
theorem Gr.step {w w1 w2 : World} {v v1 v2 : Value} (h : Gr w w1 v v1) (o : Obj) (k : (w1.alloc o).grownBy w2 v1.ownBlock) (ho : v2.ownBlock = v1.ownBlock ∨ v2.ownBlock = some (w1.alloc o).heap.size) : Gr w w2 v v2 := by
  have h1 : w.grownBy (w1.alloc o) v.ownBlock := h.g.andThen (World.grownBy_alloc w1 o none) (fun _ e => by cases e)
  refine ⟨h1.andThen k fun j hj => ?_, ?_⟩
  · rcases h.o with e | ⟨i, e, hi⟩
    · exact .inr (e ▸ hj)
    · rw [e] at hj; cases hj; exact .inl hi
  · rcases ho with e | e
    · rw [e]; exact h.o
    · exact .inr ⟨_, e, h1.size⟩
def App (w : World) (K : Nat) (v : Value) (l : List UInt8) (e : Ending) (w' : World) : Prop :=
  ∃ A' c', e = .returned (.slice A' l.length c') ∧ Ob w' K (.slice A' l.length c') l ∧ Gr w w' v (.slice A' l.length c')

set_option maxHeartbeats 1600000 in
theorem appendNum_low (n : Nat) (h1 : n ≤ 247) (K : Nat) (A : Option Addr) (n0 cap : Nat) (l : List UInt8) (w : World) (ho : Ob w K (.slice A n0 cap) l) (hK : K ≤ w.heap.size) (hsz : l.length + 9 ≤ 140737488355328) :
    Calls Tryd.prog 35 #[.slice A n0 cap, .int .u64 (n : Int)] w (App w K (.slice A n0 cap) (l ++ numB n)) := by
  have hc := behind_any n w (by omega)
  rw [kN_low h1] at hc
  rw [numB_low h1]
  have HC := Lib.hid hc
  clear hc
  have hcell : [Value.int .u8 (n : Int)] = [UInt8.ofNat n].map bv := by simp [bv]; omega
  have HCELL := Lib.hid hcell
  clear hcell
  have hn0 := ho.bs.2
  have HN0 := Lib.hid hn0
  clear hn0
  go_enter Tryd.func35, Tryd.ntmps35
  go_wp2_with (first
    | (go_at_call 38; refine HC.out.mono ?_; rintro e w' ⟨rfl, rfl⟩)
    | (at_builtin; refine wpList_app _ rfl (.tmp 11) (.tmp 14) rfl K (.slice A n0 cap) l rfl (ho.alloc _) (some ⟨w.heap.size, 0, none⟩) 1 1 [UInt8.ofNat n] rfl rfl _ (lit_bsH w _ w.heap.size rfl _ 1 _ (show [Value.int .u8 (n : Int)] = _ from HCELL.out) rfl (by decide)) (l ++ [UInt8.ofNat n]).length (by simp) (by simp; omega) (by simp; omega) ?_; intro A6 c6 w6 hown6 hgrow6 hat6))
  go_ret
  exact ⟨A6, c6, by rw [List.length_append]; rfl, hown6, (Gr.refl _ _).step _ hgrow6 hat6⟩
end Go.Proofs.YtojkbndaleiaaaaDoor
