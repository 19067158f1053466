/- The law FrameLong: its walk. -/
import Derived.Test.YtldflhledobfnabAwk
import Derived.Test.YtldflhledobfnabOpen
namespace Go.Proofs.Ytldflhledobfnab
open Go.RowKit

def zeros (n : Nat) : List UInt8 := List.replicate n 0
theorem zeros_length (n : Nat) : (zeros n).length = n := List.length_replicate
theorem made_zeros (n : Nat) : (madeCells (Value.int .u8 0).cells (n * 1)).toList = (zeros n).map bv := by
  rw [Nat.mul_one]
  show (madeCells #[Value.int .u8 0] n).toList = _
  rw [toList_madeCells_one]
  simp [zeros, bv]

theorem made_ob {w1 : World} {K n : Nat} {v : Value} (h : w1.ownsRow K 5 1 v n (madeCells (Value.int .u8 0).cells (n * 1)).toList) : Ob w1 K v (zeros n) := by
  unfold Ob
  rw [zeros_length, ← made_zeros]
  exact h
theorem cut_zeros {w : World} {K n : Nat} {ad : Addr} (h : Bs w K (some ad) (n + 1) (zeros (n + 1))) (hn : 0 < n) : Bs w K (some ⟨ad.block, ad.off + 1, none⟩) n (zeros n) := by
  have := h.cutS (i := 1) (j := n + 1) (by omega) (by omega) (by rw [zeros_length]; omega) (by omega)
  have e : ((zeros (n + 1)).drop 1).take (n + 1 - 1) = zeros n := by simp [zeros]
  rw [e] at this
  exact this
theorem long_facts {w1 : World} {K g : Nat} (h : w1.ownsRow K 5 1 (.slice (some ⟨g, 0, none⟩) 1048577 1048577) 1048577 (madeCells (Value.int .u8 0).cells (1048577 * 1)).toList) :
    ∃ p : List UInt8, p.length = 1048576 ∧ Bs w1 w1.heap.size (some ⟨g, 1, none⟩) 1048576 p :=
  ⟨zeros 1048576, zeros_length _, cut_zeros (n := 1048576) (made_ob h).bs.1 (by omega)⟩

set_option maxHeartbeats 1600000 in
theorem long_any (w : World) : Calls Try.prog 4 #[] w fun e w' => e = .returned (.bool true) ∧ Below w.heap.size w w' := by
  obtain ⟨i0, hi, hz0, hz1, hz2⟩ := info_parts info_u8
  go_enter Try.func4, Try.ntmps4
  go_wp2_with (at_make; refine wpList_make_full _ rfl _ _ 24 rfl w.heap.size 5 i0 (.int .u8 0) 1 Try.underlying24 hi hz0 hz1 _ _ _ _ 1048577 rfl rfl rfl rfl (by rw [hz2]; omega) (by unfold maxLen; omega) (Nat.le_refl _) ?_; intro w1 hown1 hgrow1; have B1 : Below w.heap.size w w1 := (Below.refl _ _).grown hgrow1 (Nat.le_refl _) (by simp))
  obtain ⟨p, hp, hbs⟩ := long_facts hown1
  clear hown1 hgrow1
  have HP := Lib.hid hp
  have ho := openB_seal 2 p [] (by omega)
  rw [List.append_nil] at ho
  have HO := Lib.hid ho
  have hl : (sealB 2 p).length = 1048585 := by rw [sealB_length, hp]
  have HL := Lib.hid hl
  have h1 := seal_long 2 (some ⟨w.heap.size, 0, none⟩) 1048577 1048577 w1 (by omega) (by unfold maxLen; omega)
  have h2 := seal_ok 2 _ (some ⟨w.heap.size, 1, none⟩) 1048576 p w1 hbs (Nat.le_refl _) (by omega)
  rw [hp] at h2
  change Calls Try.prog 7 #[.int .u8 2, _] _ _ at h1
  change Calls Try.prog 7 #[.int .u8 2, _] _ _ at h2
  have H2 := Lib.hid h2
  clear hp ho hl h2 hbs
  refine h1.mono ?_
  clear h1
  rintro e w' ⟨rfl, rfl⟩
  have z1 := B1.size
  go_wp2_with fail
  refine H2.out.mono ?_
  rintro e w2 ⟨A2, c2, rfl, hown2, hb2⟩
  have B2 : Below w.heap.size w w2 := B1.trans (hb2.mono z1)
  have z2 := B2.size
  rw [HP.out] at hown2 ⊢
  go_wp2_with fail
  have h3 := open_any w2.heap.size c2 (sealB 2 p) w2 A2 hown2.bs.1 (Nat.le_refl _)
  rw [HL.out] at h3
  refine h3.mono ?_
  clear h3
  rintro e w3 ⟨A3, c3, rfl, _, hb3⟩
  have B3 : Below w.heap.size w w3 := B2.trans (hb3.mono z2)
  have z3 := B3.size
  rw [HO.out]
  simp only
  rw [HP.out]
  clear hb2 hb3 hown2
  go_wp2_with (go_at_call 6; refine (awake_any _).mono ?_; rintro e w4 ⟨rfl, hb4⟩; have B4 : Below w.heap.size w w4 := B3.trans (hb4.mono z3))
  go_ret
  exact ⟨rfl, B4⟩
end Go.Proofs.Ytldflhledobfnab
