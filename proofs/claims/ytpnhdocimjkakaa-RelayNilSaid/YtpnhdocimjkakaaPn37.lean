/- Law 16's awake. -/
import Derived.Test.YtpnhdocimjkakaaPn36
import Derived.Lib.SlBytesConst
namespace Go.Proofs.Ytpnhdocimjkakaa
open Go.RowKit Go.BigFrame Go.Maps

theorem lead1 (id : Int) : beginR (prV (R0 id) 1 id [id]) = S1 id [] := by
  simp [beginR, prV, settleR, leadsB, bgF, bgH, leastB, R0, S1]
theorem lead1_f (x : Rs) (hx : x.lg = []) : ∀ m, bgF x m = 0 := fun m => by
  unfold bgF
  rw [hx]
  split <;> rfl
theorem lead1_lg (id : Int) : (prV (R0 id) 1 id [id]).lg = [] := (prV_ms _ _ _ _).2.2.2.1
theorem bs_one {w : World} {g K : Nat} (c : UInt8) (h : w.cell? ⟨g, 0, none⟩ = some (.int .u8 (c.toNat : Int))) (hK : g < K) : Bs w K (some ⟨g, 0, none⟩) 1 [c] :=
  ⟨by simp, by unfold maxLen; omega, (fun h => by cases h), fun _ => ⟨_, rfl, hK, fun k d hk => by
    obtain ⟨h1, h2⟩ := List.getElem?_eq_some_iff.1 hk
    simp at h1
    subst h1
    simp at h2
    subst h2
    rw [Addr.add_lit, Nat.zero_add]
    exact h⟩⟩
theorem st_one (id : Int) : ([id].filter fun n => stB id n) = [] := by simp [stB]
set_option maxRecDepth 100000 in
set_option maxHeartbeats 1600000 in
theorem rawake_any (w : World) : Calls Try.prog 9 #[] w fun e w' => e = .returned (.bool true) ∧ Below w.heap.size w w' := by
  have HN := Lib.hid (newr_any 0 (by omega) (by omega) w)
  have kc := fun (w : World) (C : Array Value) (n c : Nat) => Lib.run_convert_bytes_const (P := Try.prog) w 23 5 C n c Try.underlying23 Try.underlying5
  go_enter Try.func9, Try.ntmps9
  go_wp2_with fail
  refine HN.out.mono ?_
  rintro e w1 ⟨rfl, hr1, b1⟩
  obtain ⟨b, hb⟩ : ∃ b, b = w.heap.size := ⟨_, rfl⟩
  rw [← hb] at hr1
  have hbw : b ≤ w1.heap.size := by have := b1.size; omega
  have HR1 := Lib.hid (hr1.below ((Below.refl _ _).alloc (Nat.le_refl _) (.cells #[.int .i64 0] 3)))
  have HBX : Hid (Bxo (w1.alloc (.cells #[.int .i64 0] 3)) w1.heap.size #[.int .i64 0] 3) := Lib.hid (Bxo.new _ _ _)
  have HB1 : Hid (Below b w (w1.alloc (.cells #[.int .i64 0] 3))) := Lib.hid (by rw [hb]; exact b1.alloc b1.size _)
  obtain ⟨W2, hW2⟩ : ∃ W2, W2 = w1.alloc (.cells #[.int .i64 0] 3) := ⟨_, rfl⟩
  rw [← hW2] at HR1 HBX HB1
  have hz2 : w1.heap.size < W2.heap.size := by rw [hW2]; simp
  have HW2 := Lib.hid hW2
  have HBW := Lib.hid hb
  have HL := Lib.hid (lead_any HR1.out 1 0 W2.heap.size (some ⟨w1.heap.size, 0, none⟩) 1 1 [0] rfl (bx_lit HBX.out rfl hz2) (Nat.le_refl _) (by omega) (by decide) (by decide) (by unfold I64 R0; decide) (by decide) (by decide))
  clear hr1 b1 hW2 hb
  go_wp2_with fail
  rw [← HW2.out, ← HBW.out]
  refine HL.out.mono ?_
  rintro e w3 ⟨v3, rfl, A3, c3, mb, n3, hn3, hr3, hb3⟩
  rw [lead1 0] at hr3
  have hfz := lead1_f _ (lead1_lg 0)
  generalize bgF (prV (R0 0) 1 0 [0]) = F at *
  generalize bgH (prV (R0 0) 1 0 [0]) = G at *
  have HR3 := Lib.hid (hr3.below ((Below.refl _ _).alloc (Nat.le_refl _) (.cells #[.int .u8 97] 5 (1, 2))))
  have HBY : Hid ((w3.alloc (.cells #[.int .u8 97] 5 (1, 2))).cell? ⟨w3.heap.size, 0, none⟩ = some (.int .u8 97)) := Lib.hid ((cell_of_row _ w3.heap.size 0 #[.int .u8 97] 5 (1, 2) (heap_alloc_new w3 _)).trans rfl)
  have hz3 : b ≤ w3.heap.size := by have := hb3.size; have := HB1.out.size; omega
  have HB3 : Hid (Below b w (w3.alloc (.cells #[.int .u8 97] 5 (1, 2)))) := Lib.hid ((HB1.out.trans hb3).alloc hz3 _)
  have hbl3 := hr3.bx.lt
  obtain ⟨W4, hW4⟩ : ∃ W4, W4 = w3.alloc (.cells #[.int .u8 97] 5 (1, 2)) := ⟨_, rfl⟩
  rw [← hW4] at HR3 HBY HB3
  have hz4 : w3.heap.size < W4.heap.size := by rw [hW4]; simp
  have HW4 := Lib.hid hW4
  have HP := Lib.hid (propose_any HR3.out (by omega) rfl (by decide) (fun m hm => by obtain rfl := List.mem_singleton.1 hm; unfold I64; decide) (by unfold I64 S1; decide) (by unfold I64 S1; decide) (fun m => by rw [hfz m]; unfold I64; decide) (fun m => by rw [hfz m]; decide) (by decide) (by omega) (by decide) (by decide) (st_one 0) W4.heap.size (some ⟨w3.heap.size, 0, none⟩) 1 1 [97] rfl (bs_one 97 HBY.out hz4) (Nat.le_refl _) (by decide) (fun _ ad e => by
    cases e
    exact ⟨by show w3.heap.size ≠ b; omega, fun g e => by cases e⟩))
  clear hr3 hb3 hW4 hfz
  go_wp2_with fail
  rw [← HW4.out]
  refine HP.out.mono ?_
  rintro e w5 ⟨g, L, l, z, he, _, hr5, hb5⟩
  replace he : e = .returned (.tuple #[.int .i64 1, .slice (some ⟨g, 0, none⟩) 1 1, .slice none 0 0, .int .i64 0]) := he
  subst he
  have hs1 := settle1 0 F G [] z
  have hr6 : ∃ n f h, Rl w5 b b mb A3 c3 L l n f h (S1 0 ([] ++ [z])) := ⟨n3 + 1, (fun j => if j = 0 then ((([] : List Ez) ++ [z]).length : Int) else F j), (fun j => G j || decide (j = 0)), by rw [← hs1]; exact hr5⟩
  obtain ⟨n6, f6, h6, hr6⟩ := hr6
  have HR6 := Lib.hid hr6
  have HB6 := Lib.hid (HB3.out.trans hb5)
  have HA : Hid (∀ wx, Below w5.heap.size w5 wx → Calls Try.prog 29 #[.pointer (some ⟨b, 0, none⟩)] wx fun e w' => e = .returned (.bool true) ∧ Below wx.heap.size wx w') := Lib.hid fun wx hx => ractive_any (HR6.out.rn.below hx)
  have HS : Hid (∀ wx, Below w5.heap.size w5 wx → Calls Try.prog 25 #[.pointer (some ⟨b, 0, none⟩)] wx fun e w' => e = .returned (.int .i64 1) ∧ wx = w') := Lib.hid fun wx hx => sure_any (HR6.out.rn.below hx)
  have hz5 : b ≤ w5.heap.size := by have := HB6.out.size; have := hz3; have := hb5.size; omega
  clear hr5 hb5 hs1 hr6
  go_wp2_with fail
  refine (HA.out w5 (Below.refl _ _)).mono ?_
  rintro e w6 ⟨rfl, b6⟩
  have HB7 := Lib.hid b6
  clear b6
  go_wp2_with fail
  refine (HS.out w6 HB7.out).mono ?_
  rintro e w7 ⟨rfl, rfl⟩
  have HF : Hid (Below w.heap.size w w6) := Lib.hid (by rw [← HBW.out]; exact HB6.out.trans (HB7.out.mono hz5))
  go_wp2_with fail
  go_ret
  exact ⟨rfl, HF.out⟩
end Go.Proofs.Ytpnhdocimjkakaa
