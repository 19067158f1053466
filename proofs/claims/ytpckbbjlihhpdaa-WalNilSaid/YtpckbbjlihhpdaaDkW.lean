/- The law's awake: the document's first example of a disk. -/
import Derived.Test.YtpckbbjlihhpdaaDkB
import Derived.Test.YtpckbbjlihhpdaaStr
import Derived.Lib.SlBytesConst
namespace Go.Proofs.Ytpckbbjlihhpdaa
open Go.RowKit Go.Maps Go.BigFrame

theorem DD.lt {w : World} {B : Nat → Prop} {d : Nat} {a : Ad} (h : DD w B d a) : d < w.heap.size ∧ B d := by
  obtain ⟨K, mb, M, D, _, hb⟩ := h.ex
  exact ⟨D.lt, hb d (.inl rfl)⟩
theorem Tn.bel {K : Nat} {B : Nat → Prop} {w w1 w2 : World} (t : Tn B w1 w2) (hb : Below K w w1) (hB : ∀ k, B k → K ≤ k) (hK : K ≤ w.heap.size) : Below K w w2 := hb.trans (t.below (Nat.le_trans hK hb.size) fun k _ h => hB k h)
theorem up {B B' : Nat → Prop} {K n : Nat} (h : ∀ k, B' k → B k ∨ n ≤ k) (hB : ∀ k, B k → K ≤ k) (hn : K ≤ n) : ∀ k, B' k → K ≤ k := fun k hk => (h k hk).elim (hB k) fun e => Nat.le_trans hn e
def Ok0 (w : World) (e : Ending) (w' : World) : Prop := e = .returned (.bool true) ∧ Below w.heap.size w w'
set_option maxRecDepth 100000 in
set_option maxHeartbeats 3200000 in
theorem dawake_any (w : World) : Calls Try.prog 7 #[] w (Ok0 w) := by
  have kc := fun (w : World) (C : Array Value) (n c : Nat) => Lib.run_convert_bytes_const (P := Try.prog) w 30 5 C n c Try.underlying30 Try.underlying5
  go_enter Try.func7, Try.ntmps7
  go_wp2_with fail
  refine (new_DD 9 (by decide) (by decide) w).mono ?_
  rintro e w1 ⟨rfl, ⟨B1, D1, hB1⟩, b1⟩
  have z1 := D1.lt.1
  have zz := b1.size
  go_wp2_with fail
  refine (app_DD (K' := w1.heap.size + 1) (p := [97, 98]) (D1.alloc _) (by decide) (lit_bsF w1 _ _ _ rfl #[.int .u8 97, .int .u8 98] 2 [97, 98] rfl rfl (by decide)) rfl (fun _ ad e hb => ?_) (r := 0) (a' := ⟨9, -1, false, [⟨1, [97, 98], 0, false⟩]⟩) (by rfl)).mono ?_
  · cases e
    exact Nat.lt_irrefl _ (D1.bt _ hb)
  rintro e w2 ⟨rfl, B2, D2, T2, hB2⟩
  have b2 := T2.bel (b1.alloc zz _) hB1 (Nat.le_refl _)
  have hB2' := up hB2 hB1 (by simp; omega)
  clear D1 T2 hB1 hB2 b1
  have z2 := D2.lt.1
  have zz2 := b2.size
  go_wp2_with fail
  refine (sync_DD D2 (by decide) (by decide) (r := 0) (a' := ⟨9, -1, false, [⟨1, [97, 98], 2, true⟩]⟩) (by rfl)).mono ?_
  rintro e w3 ⟨rfl, B3, D3, T3, hB3⟩
  have b3 := T3.bel b2 hB2' (Nat.le_refl _)
  have hB3' := up hB3 hB2' zz2
  clear D2 T3 hB3 hB2' b2
  have z3 := D3.lt.1
  have zz3 := b3.size
  go_wp2_with fail
  refine (app_DD (K' := w3.heap.size + 1) (p := [99, 100]) (D3.alloc _) (by decide) (lit_bsF w3 _ _ _ rfl #[.int .u8 99, .int .u8 100] 2 [99, 100] rfl rfl (by decide)) rfl (fun _ ad e hb => ?_) (r := 0) (a' := ⟨9, -1, false, [⟨1, [97, 98, 99, 100], 2, true⟩]⟩) (by rfl)).mono ?_
  · cases e
    exact Nat.lt_irrefl _ (D3.bt _ hb)
  rintro e w4 ⟨rfl, B4, D4, T4, hB4⟩
  have b4 := T4.bel (b3.alloc zz3 _) hB3' (Nat.le_refl _)
  have hB4' := up hB4 hB3' (by simp; omega)
  clear D3 T4 hB4 hB3' b3
  have z4 := D4.lt.1
  have zz4 := b4.size
  go_wp2_with fail
  have hks := (lit_so (α := Int) (enc := encI) (k := 1) w4 w4.heap.size 3 w4.heap.size rfl (Nat.le_refl _) #[.int .i64 1] 1 [1] encI_len rfl rfl (by decide)).sr encI_len
  refine (crash_DD (ks := [1]) (D4.alloc _) hks.1 (Nat.le_refl _) rfl (fun _ ad e hb => ?_)).mono ?_
  · cases e
    exact Nat.lt_irrefl _ (D4.bt _ hb)
  rintro e w5 ⟨rfl, B5, D5, T5, hB5⟩
  have b5 := T5.bel (b4.alloc zz4 _) hB4' (Nat.le_refl _)
  have hB5' := up hB5 hB4' (by simp; omega)
  have D6 : DD w5 B5 _ ⟨9, -1, false, [⟨1, [97, 98, 99], 3, true⟩]⟩ := D5
  clear D4 T5 hB5 hB4' b4 D5 hks
  have z5 := D6.lt.1
  have zz5 := b5.size
  go_wp2_with fail
  refine (read_DD D6 rfl (x := ⟨1, [97, 98, 99], 3, true⟩) (by simp)).mono ?_
  rintro e w6 ⟨A6, c6, rfl, ob6, b6⟩
  have hs : (convert 30 9 (.slice A6 3 c6)).run Try.prog w6 = .ok (.string (strB [97, 98, 99])) w6 := bs_str ob6.bs.1 rfl
  have hq : ((strB [97, 98, 99]).toList == [97, 98, 99]) = true := by decide +kernel
  have b7 := b5.trans (b6.mono zz5)
  go_wp2_with fail
  go_ret
  exact ⟨rfl, b7⟩
end Go.Proofs.Ytpckbbjlihhpdaa
