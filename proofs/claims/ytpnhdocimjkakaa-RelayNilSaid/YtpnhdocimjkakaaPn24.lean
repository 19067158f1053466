/- A relay: settle, ackOwn. -/
import Derived.Test.YtpnhdocimjkakaaPn22
import Derived.Test.YtpnhdocimjkakaaPn6
namespace Go.Proofs.Ytpnhdocimjkakaa
open Go.RowKit Go.BigFrame Go.Maps

section
variable {w w' : World} {K b mb : Nat} {MA LA : Option Addr} {mc lc n : Nat} {f : Int → Int} {h : Int → Bool} {x : Rs}
theorem Rl.put (H : Rl w K b mb MA mc LA lc n f h x) (i : Nat) (v : Value) {x' : Rs} (e : (rc x MA mc LA lc mb).setIfInBounds i v = rc x' MA mc LA lc mb) (hms : x'.ms = x.ms) (hlg : x'.lg = x.lg) : Rl (w.setCell ⟨b, i, none⟩ v) K b mb MA mc LA lc n f h x' :=
  ⟨by have := H.bx.set i v; rw [e] at this; exact this, by rw [hms]; exact H.ms.tn (Tn.setCell w b i v) (H.ms.neB H.bx (by decide)), by rw [hlg]; exact H.lg.tn (Tn.setCell w b i v) (H.lg.neB H.bx (by decide)), H.mp.tn (Tn.setCell w b i v) (fun e => H.mp.neB H.bx e.symm), H.kb, H.km⟩
theorem Rl.ack (H : Rl w K b mb MA mc LA lc n f h x) {n2 : Nat} {f2 : Int → Int} {h2 : Int → Bool} (hm : Im w' mb n2 f2 h2) (t : Tn (· = mb) w w') : Rl w' K b mb MA mc LA lc n2 f2 h2 x :=
  ⟨H.bx.tn t (fun e => H.mp.neB H.bx e), H.ms.tn t (H.mp.neS H.ms), H.lg.tn t (H.mp.neS H.lg), hm, H.kb, H.km⟩
theorem Im.put (H : Im w mb n f h) (hn : n < maxLen) {k y : Int} (hk : I64 k) (hy : I64 y) : ∃ w', (Instr.mapUpdate MT (.map (some mb)) (.int .i64 k) (.int .i64 y)).run Try.prog w = .ok () w' ∧ Im w' mb (n + 1) (fun j => if j = k then y else f j) (fun j => h j || decide (j = k)) ∧ Tn (· = mb) w w' := by
  obtain ⟨D, hD, h1, h2⟩ := H
  obtain ⟨w9, hr, hD9, hg⟩ := hD.update law_k Try.underlying94 hn (key_of hk) (plainElem_int Try.underlying3 (wf_of hy))
  exact ⟨w9, hr, ⟨_, hD9, put_f hD.isMap h1 k y, put_h hD.isMap h2 k y⟩, (Tn.ofGrown hg).mono fun _ _ e => by injection e⟩
end
theorem ackI {f : Int → Int} {k y : Int} (hy : I64 y) (hf : ∀ m, I64 (f m)) : ∀ m, I64 (if m = k then y else f m) := fun m => by split; exact hy; exact hf m
theorem ack0 {f : Int → Int} {k : Int} {n : Nat} (hf : ∀ m, 0 ≤ f m) : ∀ m, 0 ≤ (if m = k then (n : Int) else f m) := fun m => by split; omega; exact hf m
set_option maxRecDepth 100000 in
set_option maxHeartbeats 1600000 in
theorem settle_any {w : World} {Kb b mb : Nat} {MA LA : Option Addr} {mc lc n : Nat} {f : Int → Int} {h : Int → Bool} {x : Rs} (H : Rl w Kb b mb MA mc LA lc n f h x) (hK : Kb ≤ w.heap.size) (hms : ∀ m ∈ x.ms, I64 m) (hfi : ∀ m, I64 (f m)) (hf0 : ∀ m, 0 ≤ f m) (hln : x.lg.length ≤ 1048576) :
    Calls Try.prog 122 #[.pointer (some ⟨b, 0, none⟩)] w fun e w' => e = .returned (.tuple #[]) ∧ Rl w' Kb b mb MA mc LA lc n f h (settleR f h x) ∧ Below Kb w w' := by
  have hK2 := Lib.hid hK
  have hle := (H.ms.sr encI_len).1.le
  have hmax := (H.ms.sr encI_len).1.max
  unfold maxLen at hmax
  obtain ⟨W0, hW0⟩ : ∃ W0, W0 = w.alloc (.cells #[.pointer (some ⟨b, 0, none⟩)] 25) := ⟨_, rfl⟩
  have hb0 : Below w.heap.size w W0 := by rw [hW0]; exact (Below.refl _ _).alloc (Nat.le_refl _) _
  have HR0 := Lib.hid (H.below hb0)
  have HPB : Hid (Bxo W0 w.heap.size #[.pointer (some ⟨b, 0, none⟩)] 25) := Lib.hid (by rw [hW0]; exact Bxo.new _ _ _)
  have HB0 := Lib.hid (hb0.mono hK)
  have hz0 : Kb ≤ W0.heap.size := Nat.le_trans hK hb0.size
  have HC := Lib.hid (contno_any (b2 := w.heap.size) (f := f) (h := h) W0.heap.size MA x.ms.length mc x.ms rfl (HR0.out.ms.sr encI_len).1 hms (HPB.out.cell rfl) HR0.out.bx HR0.out.mp)
  have HMS := Lib.hid hms
  have HFI := Lib.hid hfi
  have HF0 := Lib.hid hf0
  have HWW := Lib.hid hW0
  have hne0 : w.heap.size ≠ b := fun e => by have := H.bx.lt; omega
  have y3 : W0.cell? ⟨b, 3, none⟩ = some (.slice MA x.ms.length mc) := HR0.out.bx.cell rfl
  have y8 : W0.cell? ⟨b, 8, none⟩ = some (.bool x.ac) := HR0.out.bx.cell rfl
  have yl := HR0.out.bx.lt
  have yf := HR0.out.bx.fr 8
  have z0 : W0.cell? ⟨w.heap.size, 0, none⟩ = some (.pointer (some ⟨b, 0, none⟩)) := HPB.out.cell rfl
  have zl := HPB.out.lt
  clear H hb0 hW0 hms hfi hf0
  cases hany : (x.ms.any fun m => !h m) with
  | true =>
    rw [hany] at HC
    have HSE : Hid (settleR f h x = x) := Lib.hid (if_pos hany)
    clear hany
    go_enter Try.func122, Try.ntmps122
    go_upto_region 1 with fail
    rw [← HWW.out]
    go_wp2_with fail
    refine HC.out.mono ?_
    rintro e w1 ⟨rfl, rfl⟩
    go_wp2_with fail
    exact bodyPost_ret (v := .tuple #[]) (by simp [results, Try.results122, go_sem]) rfl ⟨rfl, by rw [HSE.out]; exact HR0.out, HB0.out⟩
  | false =>
    rw [hany] at HC
    have HSE0 : Hid (settleR f h x = { x with ac := true, su := max x.su (leastB f x.ms x.lg.length) }) := Lib.hid (if_neg (by rw [hany]; decide))
    clear hany
    go_enter Try.func122, Try.ntmps122
    go_upto_region 1 with fail
    rw [← HWW.out]
    go_wp2_with fail
    refine HC.out.mono ?_
    rintro e w1 ⟨rfl, rfl⟩
    go_upto_region 4 with fail
    have HR2 : Hid (Rl (W0.setCell ⟨b, 8, none⟩ (.bool true)) Kb b mb MA mc LA lc n f h { x with ac := true }) := Lib.hid (HR0.out.put 8 (.bool true) rfl rfl rfl)
    have HPB2 : Hid (Bxo (W0.setCell ⟨b, 8, none⟩ (.bool true)) w.heap.size #[.pointer (some ⟨b, 0, none⟩)] 25) := Lib.hid (HPB.out.other hne0)
    have HB2 : Hid (Below Kb w (W0.setCell ⟨b, 8, none⟩ (.bool true))) := Lib.hid (HB0.out.setCell (p := ⟨b, 8, none⟩) HR0.out.kb _)
    obtain ⟨W2, hW2⟩ : ∃ W2, W2 = W0.setCell ⟨b, 8, none⟩ (.bool true) := ⟨_, rfl⟩
    rw [← hW2] at HR2 HPB2 HB2
    rw [← hW2]
    clear hW2 y3 y8 yl yf z0 zl HC
    have hK2 : Hid (Kb ≤ W2.heap.size) := Lib.hid (Nat.le_trans hK HB2.out.size)
    have y3 : W2.cell? ⟨b, 3, none⟩ = some (.slice MA x.ms.length mc) := HR2.out.bx.cell rfl
    have y4 : W2.cell? ⟨b, 4, none⟩ = some (.slice LA x.lg.length lc) := HR2.out.bx.cell rfl
    have y7 : W2.cell? ⟨b, 7, none⟩ = some (.map (some mb)) := HR2.out.bx.cell rfl
    have yl := HR2.out.bx.lt
    have z0 : W2.cell? ⟨w.heap.size, 0, none⟩ = some (.pointer (some ⟨b, 0, none⟩)) := HPB2.out.cell rfl
    have zl := HPB2.out.lt
    have HP := Lib.hid (HR2.out.ms.sr encI_len).1
    go_wp2_with fail
    go_loop [3, 28] (fun v3 v28 => ∃ (k : Nat) (L : Int), k ≤ x.ms.length ∧ v28 = .int .i64 k ∧ v3 = .int .i64 L ∧ Hid (L = leastB f (x.ms.take k) x.lg.length) ∧ 0 ≤ L ∧ L ≤ 1048576) (fun _ v28 => x.ms.length - (intOf v28).toNat)
    case atStart => exact ⟨0, x.lg.length, Nat.zero_le _, rfl, rfl, Lib.hid rfl, by omega, by omega⟩
    case round =>
      obtain ⟨k, L, hk, rfl, rfl, HL, hL0, hL1⟩ := hrel
      by_cases hlt : k < x.ms.length
      · obtain ⟨ad, hA, hadK, hcell⟩ := HP.out.int hlt
        subst hA
        have HS := Lib.hid (leastB_snoc f x.ms x.lg.length k hlt)
        have hz := HMS.out _ (List.getElem_mem hlt)
        generalize x.ms[k] = z at *
        have hl := HR2.out.mp.look hz
        have hf1 := HFI.out z
        have hf2 := HF0.out z
        generalize f z = fz at *
        obtain ⟨nx, hnx⟩ : ∃ nx, nx = min L fz := ⟨_, rfl⟩
        have HN : Hid (nx = leastB f (x.ms.take (k + 1)) x.lg.length) := Lib.hid (by rw [hnx, HS.out, HL.out])
        have hn0 : 0 ≤ nx := by omega
        have hn1 : nx ≤ 1048576 := by omega
        have hkI : (k : Int) < x.ms.length := by omega
        clear hz
        have HNX := Lib.hid hnx
        clear hnx
        go_wp2_with fail
        go_round
        case rel => exact ⟨k + 1, nx, hlt, by go_num, by rw [HNX.out], HN, hn0, hn1⟩
        case measure => simp [intOf]; omega
      · have hkl : k = x.ms.length := by omega
        subst hkl
        obtain ⟨mx, hmx⟩ : ∃ mx, mx = max x.su L := ⟨_, rfl⟩
        have HMX := Lib.hid hmx
        have HSE : Hid (settleR f h x = { x with ac := true, su := mx }) := Lib.hid (by rw [HSE0.out, hmx, HL.out, List.take_length])
        clear hmx
        go_upto_region 10 with fail
        apply region_VS (fun (pv : Value) u (_ : World) => u = pv) (fun wx => Below W2.heap.size W2 wx) (fun wx => Rl wx Kb b mb MA mc LA lc n f h { x with ac := true, su := mx } ∧ Below Kb w wx) 9 [(.pointer (some ⟨b, 0, none⟩)), (.pointer (some ⟨b, 0, none⟩)), (.pointer (some ⟨b, 0, none⟩)), (.pointer (some ⟨b, 6, none⟩)), (.int .i64 x.su), (.int .i64 L), (.int .i64 mx), (.pointer (some ⟨b, 0, none⟩)), (.pointer (some ⟨b, 6, none⟩)), undef] (undef)
        case mono => exact fun p v w0 w1 h hb => h
        case hl => kernel_rfl
        case hm => kernel_rfl
        case hf => kernel_rfl
        case hQ => exact (by intro c x y w e h; exact And.intro (e.symm.trans (And.left h)) (And.right h))
        case hF => intro vs; simp only [putAll, Act.put, List.setIfInBounds_toArray, List.set_cons_zero, List.set_cons_succ, Nat.reduceAdd]; rfl
        case h0 => exact ⟨rfl, rfl, rfl, Nat.le_refl _, fun _ _ => rfl⟩
        case hstep =>
          repeat' (first | exact AllOps.nil | apply AllOps.cons)
          · intro vs wx hG hd K hK
            replace hK : ∀ (uu : Value) (w' : World), Below wx.heap.size wx w' → ((fun wx => Below W2.heap.size W2 wx)) w' → (fun (pv : Value) u (_ : World) => u = pv) ((.pointer (some ⟨b, 0, none⟩))) uu w' → K _ w' := hK
            simp only [Act.put, List.setIfInBounds_toArray, List.set_cons_zero, List.set_cons_succ] at hK ⊢
            have HK := Lib.hid hK
            have HG := Lib.hid hG
            clear hK hd
            have hb1 := HG.out
            have hr1 := HR2.out.below hb1
            have y6 : wx.cell? ⟨b, 6, none⟩ = some (.int .i64 x.su) := hr1.bx.cell rfl
            have yl := hr1.bx.lt
            have z0 : wx.cell? ⟨w.heap.size, 0, none⟩ = some (.pointer (some ⟨b, 0, none⟩)) := (HPB2.out.below hb1).cell rfl
            have zl := (HPB2.out.below hb1).lt
            clear hb1 hr1 hG
            go_simp
            exact HK.out _ _ (Below.refl _ _) HG.out rfl
          · intro vs wx hG hd K hK
            replace hK : ∀ (uu : Value) (w' : World), Below wx.heap.size wx w' → ((fun wx => Below W2.heap.size W2 wx)) w' → (fun (pv : Value) u (_ : World) => u = pv) ((.pointer (some ⟨b, 0, none⟩))) uu w' → K _ w' := hK
            simp only [Act.put, List.setIfInBounds_toArray, List.set_cons_zero, List.set_cons_succ] at hK ⊢
            have HK := Lib.hid hK
            have HG := Lib.hid hG
            clear hK hd
            have hb1 := HG.out
            have hr1 := HR2.out.below hb1
            have y6 : wx.cell? ⟨b, 6, none⟩ = some (.int .i64 x.su) := hr1.bx.cell rfl
            have yl := hr1.bx.lt
            have z0 : wx.cell? ⟨w.heap.size, 0, none⟩ = some (.pointer (some ⟨b, 0, none⟩)) := (HPB2.out.below hb1).cell rfl
            have zl := (HPB2.out.below hb1).lt
            clear hb1 hr1 hG
            go_simp
            exact HK.out _ _ (Below.refl _ _) HG.out rfl
          · intro vs wx hG hd K hK
            have e1 : vs 1 = .pointer (some ⟨b, 0, none⟩) := hd.get (j := 1) (by simp [depsOf, Region.binds])
            replace hK : ∀ (uu : Value) (w' : World), Below wx.heap.size wx w' → ((fun wx => Below W2.heap.size W2 wx)) w' → (fun (pv : Value) u (_ : World) => u = pv) ((.pointer (some ⟨b, 0, none⟩))) uu w' → K _ w' := hK
            simp only [Act.put, List.setIfInBounds_toArray, List.set_cons_zero, List.set_cons_succ, e1] at hK ⊢
            have HK := Lib.hid hK
            have HG := Lib.hid hG
            clear hK hd e1
            clear hG
            go_simp
            exact HK.out _ _ (Below.refl _ _) HG.out rfl
          · intro vs wx hG hd K hK
            have e2 : vs 2 = .pointer (some ⟨b, 0, none⟩) := hd.get (j := 2) (by simp [depsOf, Region.binds])
            replace hK : ∀ (uu : Value) (w' : World), Below wx.heap.size wx w' → ((fun wx => Below W2.heap.size W2 wx)) w' → (fun (pv : Value) u (_ : World) => u = pv) ((.pointer (some ⟨b, 6, none⟩))) uu w' → K _ w' := hK
            simp only [Act.put, List.setIfInBounds_toArray, List.set_cons_zero, List.set_cons_succ, e2] at hK ⊢
            have HK := Lib.hid hK
            have HG := Lib.hid hG
            clear hK hd e2
            clear hG
            go_simp
            exact HK.out _ _ (Below.refl _ _) HG.out rfl
          · intro vs wx hG hd K hK
            have e3 : vs 3 = .pointer (some ⟨b, 6, none⟩) := hd.get (j := 3) (by simp [depsOf, Region.binds])
            replace hK : ∀ (uu : Value) (w' : World), Below wx.heap.size wx w' → ((fun wx => Below W2.heap.size W2 wx)) w' → (fun (pv : Value) u (_ : World) => u = pv) ((.int .i64 x.su)) uu w' → K _ w' := hK
            simp only [Act.put, List.setIfInBounds_toArray, List.set_cons_zero, List.set_cons_succ, e3] at hK ⊢
            have HK := Lib.hid hK
            have HG := Lib.hid hG
            clear hK hd e3
            have hb1 := HG.out
            have hr1 := HR2.out.below hb1
            have y6 : wx.cell? ⟨b, 6, none⟩ = some (.int .i64 x.su) := hr1.bx.cell rfl
            have yl := hr1.bx.lt
            have z0 : wx.cell? ⟨w.heap.size, 0, none⟩ = some (.pointer (some ⟨b, 0, none⟩)) := (HPB2.out.below hb1).cell rfl
            have zl := (HPB2.out.below hb1).lt
            clear hb1 hr1 hG
            go_simp
            exact HK.out _ _ (Below.refl _ _) HG.out rfl
          · intro vs wx hG hd K hK
            replace hK : ∀ (uu : Value) (w' : World), Below wx.heap.size wx w' → ((fun wx => Below W2.heap.size W2 wx)) w' → (fun (pv : Value) u (_ : World) => u = pv) ((.int .i64 L)) uu w' → K _ w' := hK
            simp only [Act.put, List.setIfInBounds_toArray, List.set_cons_zero, List.set_cons_succ] at hK ⊢
            have HK := Lib.hid hK
            have HG := Lib.hid hG
            clear hK hd
            clear hG
            go_simp
            exact HK.out _ _ (Below.refl _ _) HG.out rfl
          · intro vs wx hG hd K hK
            have e4 : vs 4 = .int .i64 x.su := hd.get (j := 4) (by simp [depsOf, Region.binds])
            have e5 : vs 5 = .int .i64 L := hd.get (j := 5) (by simp [depsOf, Region.binds])
            replace hK : ∀ (uu : Value) (w' : World), Below wx.heap.size wx w' → ((fun wx => Below W2.heap.size W2 wx)) w' → (fun (pv : Value) u (_ : World) => u = pv) ((.int .i64 mx)) uu w' → K _ w' := hK
            simp only [Act.put, List.setIfInBounds_toArray, List.set_cons_zero, List.set_cons_succ, e4, e5] at hK ⊢
            have HK := Lib.hid hK
            have HG := Lib.hid hG
            clear hK hd e4 e5
            clear hG
            go_simp
            exact HK.out _ _ (Below.refl _ _) HG.out (by rw [HMX.out])
          · intro vs wx hG hd K hK
            have e0 : vs 0 = .pointer (some ⟨b, 0, none⟩) := hd.get (j := 0) (by simp [depsOf, Region.binds])
            replace hK : ∀ (uu : Value) (w' : World), Below wx.heap.size wx w' → ((fun wx => Below W2.heap.size W2 wx)) w' → (fun (pv : Value) u (_ : World) => u = pv) ((.pointer (some ⟨b, 0, none⟩))) uu w' → K _ w' := hK
            simp only [Act.put, List.setIfInBounds_toArray, List.set_cons_zero, List.set_cons_succ, e0] at hK ⊢
            have HK := Lib.hid hK
            have HG := Lib.hid hG
            clear hK hd e0
            clear hG
            go_simp
            exact HK.out _ _ (Below.refl _ _) HG.out rfl
          · intro vs wx hG hd K hK
            have e7 : vs 7 = .pointer (some ⟨b, 0, none⟩) := hd.get (j := 7) (by simp [depsOf, Region.binds])
            replace hK : ∀ (uu : Value) (w' : World), Below wx.heap.size wx w' → ((fun wx => Below W2.heap.size W2 wx)) w' → (fun (pv : Value) u (_ : World) => u = pv) ((.pointer (some ⟨b, 6, none⟩))) uu w' → K _ w' := hK
            simp only [Act.put, List.setIfInBounds_toArray, List.set_cons_zero, List.set_cons_succ, e7] at hK ⊢
            have HK := Lib.hid hK
            have HG := Lib.hid hG
            clear hK hd e7
            clear hG
            go_simp
            exact HK.out _ _ (Below.refl _ _) HG.out rfl
          · intro vs wx hG hd K hK
            have e6 : vs 6 = .int .i64 mx := hd.get (j := 6) (by simp [depsOf, Region.binds])
            have e8 : vs 8 = .pointer (some ⟨b, 6, none⟩) := hd.get (j := 8) (by simp [depsOf, Region.binds])
            replace hK : ∀ (uu : Value) (w' : World), (fun wx => Rl wx Kb b mb MA mc LA lc n f h { x with ac := true, su := mx } ∧ Below Kb w wx) w' → K _ w' := hK
            simp only [Act.put, e6, e8] at hK ⊢
            have HK := Lib.hid hK
            have HG := Lib.hid hG
            clear hK hd e6 e8
            have hb1 := HG.out
            have hr1 := HR2.out.below hb1
            have y6 : wx.cell? ⟨b, 6, none⟩ = some (.int .i64 x.su) := hr1.bx.cell rfl
            have yl := hr1.bx.lt
            have yf := hr1.bx.fr 6
            have HF := Lib.hid (hr1.put 6 (.int .i64 mx) (x' := { x with ac := true, su := mx }) rfl rfl rfl)
            have HB := Lib.hid (((HB2.out.trans (hb1.mono hK2.out)).setCell (p := ⟨b, 6, none⟩) HR2.out.kb (.int .i64 mx)))
            clear hb1 hr1 hG
            go_simp
            exact HK.out undef _ ⟨HF.out, HB.out⟩
        case hend =>
          intro vs wx hE
          have HR9 := Lib.hid hE.1
          have HB9 := Lib.hid hE.2
          clear hE
          go_wp2_with fail
          go_end0
          exact ⟨rfl, by rw [HSE.out]; exact HR9.out, HB9.out⟩
set_option maxRecDepth 100000 in
set_option maxHeartbeats 1600000 in
theorem ackOwn_any {w : World} {Kb b mb : Nat} {MA LA : Option Addr} {mc lc n : Nat} {f : Int → Int} {h : Int → Bool} {x : Rs} (H : Rl w Kb b mb MA mc LA lc n f h x) (hK0 : Kb ≤ w.heap.size) (hms0 : ∀ m ∈ x.ms, I64 m) (hid0 : I64 x.id) (hfi0 : ∀ m, I64 (f m)) (hf00 : ∀ m, 0 ≤ f m) (hsu0 : 0 ≤ x.su ∧ x.su ≤ 1048576) (hln0 : x.lg.length ≤ 1048576) (hn0 : n < 1048576) :
    Calls Try.prog 82 #[.pointer (some ⟨b, 0, none⟩)] w fun e w' => e = .returned (.tuple #[]) ∧ Rl w' Kb b mb MA mc LA lc (n + 1) (fun j => if j = x.id then (x.lg.length : Int) else f j) (fun j => h j || decide (j = x.id)) (settleR (fun j => if j = x.id then (x.lg.length : Int) else f j) (fun j => h j || decide (j = x.id)) x) ∧ Below Kb w w' := by
  have HRL := Lib.hid H
  have hK := Lib.hid hK0
  have hms := Lib.hid hms0
  have hid := Lib.hid hid0
  have hfi := Lib.hid hfi0
  have hf0 := Lib.hid hf00
  have hsu := Lib.hid hsu0
  have hln := Lib.hid hln0
  have hnm : Hid (n < maxLen) := Lib.hid (by unfold maxLen; omega)
  have hlm : Hid (I64 (x.lg.length : Int)) := Lib.hid (by unfold I64; omega)
  clear H hK0 hms0 hid0 hfi0 hf00 hsu0
  go_enter Try.func82, Try.ntmps82
  go_upto_region 0 with fail
  apply region_VS (fun (pv : Value) u (_ : World) => u = pv) (fun wx => Below w.heap.size w wx) (fun wx => Rl wx Kb b mb MA mc LA lc (n + 1) (fun j => if j = x.id then (x.lg.length : Int) else f j) (fun j => h j || decide (j = x.id)) x ∧ Below Kb w wx) 13 [(.pointer (some ⟨b, 0, none⟩)), (.pointer (some ⟨b, 0, none⟩)), (.pointer (some ⟨b, 7, none⟩)), (.map (some mb)), (.pointer (some ⟨b, 0, none⟩)), (.pointer (some ⟨b, 0, none⟩)), (.pointer (some ⟨b, 0, none⟩)), (.int .i64 x.id), (.pointer (some ⟨b, 0, none⟩)), (.pointer (some ⟨b, 0, none⟩)), (.pointer (some ⟨b, 4, none⟩)), (.slice LA x.lg.length lc), (.int .i64 x.lg.length), undef] (undef)
  case mono => exact fun p v w0 w1 h hb => h
  case hl => kernel_rfl
  case hm => kernel_rfl
  case hf => kernel_rfl
  case hQ => exact (by intro c x y w e h; exact And.intro (e.symm.trans (And.left h)) (And.right h))
  case hF => intro vs; simp only [putAll, Act.put, List.setIfInBounds_toArray, List.set_cons_zero, List.set_cons_succ, Nat.reduceAdd]; rfl
  case h0 => exact ⟨rfl, rfl, rfl, Nat.le_refl _, fun _ _ => rfl⟩
  case hstep =>
    repeat' (first | exact AllOps.nil | apply AllOps.cons)
    · intro vs wx hG hd K hK
      replace hK : ∀ (uu : Value) (w' : World), Below wx.heap.size wx w' → ((fun wx => Below w.heap.size w wx)) w' → (fun (pv : Value) u (_ : World) => u = pv) ((.pointer (some ⟨b, 0, none⟩))) uu w' → K _ w' := hK
      simp only [Act.put, List.setIfInBounds_toArray, List.set_cons_zero, List.set_cons_succ] at hK ⊢
      have HK := Lib.hid hK
      have HG := Lib.hid hG
      clear hK hd
      clear hG
      go_simp
      exact HK.out _ _ (Below.refl _ _) HG.out rfl
    · intro vs wx hG hd K hK
      have e0 : vs 0 = .pointer (some ⟨b, 0, none⟩) := hd.get (j := 0) (by simp [depsOf, Region.binds])
      replace hK : ∀ (uu : Value) (w' : World), Below wx.heap.size wx w' → ((fun wx => Below w.heap.size w wx)) w' → (fun (pv : Value) u (_ : World) => u = pv) ((.pointer (some ⟨b, 0, none⟩))) uu w' → K _ w' := hK
      simp only [Act.put, List.setIfInBounds_toArray, List.set_cons_zero, List.set_cons_succ, e0] at hK ⊢
      have HK := Lib.hid hK
      have HG := Lib.hid hG
      clear hK hd e0
      clear hG
      go_simp
      exact HK.out _ _ (Below.refl _ _) HG.out rfl
    · intro vs wx hG hd K hK
      have e1 : vs 1 = .pointer (some ⟨b, 0, none⟩) := hd.get (j := 1) (by simp [depsOf, Region.binds])
      replace hK : ∀ (uu : Value) (w' : World), Below wx.heap.size wx w' → ((fun wx => Below w.heap.size w wx)) w' → (fun (pv : Value) u (_ : World) => u = pv) ((.pointer (some ⟨b, 7, none⟩))) uu w' → K _ w' := hK
      simp only [Act.put, List.setIfInBounds_toArray, List.set_cons_zero, List.set_cons_succ, e1] at hK ⊢
      have HK := Lib.hid hK
      have HG := Lib.hid hG
      clear hK hd e1
      clear hG
      go_simp
      exact HK.out _ _ (Below.refl _ _) HG.out rfl
    · intro vs wx hG hd K hK
      have e2 : vs 2 = .pointer (some ⟨b, 7, none⟩) := hd.get (j := 2) (by simp [depsOf, Region.binds])
      replace hK : ∀ (uu : Value) (w' : World), Below wx.heap.size wx w' → ((fun wx => Below w.heap.size w wx)) w' → (fun (pv : Value) u (_ : World) => u = pv) ((.map (some mb))) uu w' → K _ w' := hK
      simp only [Act.put, List.setIfInBounds_toArray, List.set_cons_zero, List.set_cons_succ, e2] at hK ⊢
      have HK := Lib.hid hK
      have HG := Lib.hid hG
      clear hK hd e2
      have hb1 := HG.out
      have hr1 := HRL.out.below hb1
      have y0 : wx.cell? ⟨b, 0, none⟩ = some (.int .i64 x.id) := hr1.bx.cell rfl
      have y1 : wx.cell? ⟨b, 1, none⟩ = some (.int .i64 x.ep) := hr1.bx.cell rfl
      have y2 : wx.cell? ⟨b, 2, none⟩ = some (.int .i64 x.pr) := hr1.bx.cell rfl
      have y3 : wx.cell? ⟨b, 3, none⟩ = some (.slice MA x.ms.length mc) := hr1.bx.cell rfl
      have y4 : wx.cell? ⟨b, 4, none⟩ = some (.slice LA x.lg.length lc) := hr1.bx.cell rfl
      have y5 : wx.cell? ⟨b, 5, none⟩ = some (.int .i64 x.jo) := hr1.bx.cell rfl
      have y6 : wx.cell? ⟨b, 6, none⟩ = some (.int .i64 x.su) := hr1.bx.cell rfl
      have y7 : wx.cell? ⟨b, 7, none⟩ = some (.map (some mb)) := hr1.bx.cell rfl
      have y8 : wx.cell? ⟨b, 8, none⟩ = some (.bool x.ac) := hr1.bx.cell rfl
      have yl := hr1.bx.lt
      clear hb1 hr1 hG
      go_simp
      exact HK.out _ _ (Below.refl _ _) HG.out rfl
    · intro vs wx hG hd K hK
      replace hK : ∀ (uu : Value) (w' : World), Below wx.heap.size wx w' → ((fun wx => Below w.heap.size w wx)) w' → (fun (pv : Value) u (_ : World) => u = pv) ((.pointer (some ⟨b, 0, none⟩))) uu w' → K _ w' := hK
      simp only [Act.put, List.setIfInBounds_toArray, List.set_cons_zero, List.set_cons_succ] at hK ⊢
      have HK := Lib.hid hK
      have HG := Lib.hid hG
      clear hK hd
      clear hG
      go_simp
      exact HK.out _ _ (Below.refl _ _) HG.out rfl
    · intro vs wx hG hd K hK
      have e4 : vs 4 = .pointer (some ⟨b, 0, none⟩) := hd.get (j := 4) (by simp [depsOf, Region.binds])
      replace hK : ∀ (uu : Value) (w' : World), Below wx.heap.size wx w' → ((fun wx => Below w.heap.size w wx)) w' → (fun (pv : Value) u (_ : World) => u = pv) ((.pointer (some ⟨b, 0, none⟩))) uu w' → K _ w' := hK
      simp only [Act.put, List.setIfInBounds_toArray, List.set_cons_zero, List.set_cons_succ, e4] at hK ⊢
      have HK := Lib.hid hK
      have HG := Lib.hid hG
      clear hK hd e4
      clear hG
      go_simp
      exact HK.out _ _ (Below.refl _ _) HG.out rfl
    · intro vs wx hG hd K hK
      have e5 : vs 5 = .pointer (some ⟨b, 0, none⟩) := hd.get (j := 5) (by simp [depsOf, Region.binds])
      replace hK : ∀ (uu : Value) (w' : World), Below wx.heap.size wx w' → ((fun wx => Below w.heap.size w wx)) w' → (fun (pv : Value) u (_ : World) => u = pv) ((.pointer (some ⟨b, 0, none⟩))) uu w' → K _ w' := hK
      simp only [Act.put, List.setIfInBounds_toArray, List.set_cons_zero, List.set_cons_succ, e5] at hK ⊢
      have HK := Lib.hid hK
      have HG := Lib.hid hG
      clear hK hd e5
      clear hG
      go_simp
      exact HK.out _ _ (Below.refl _ _) HG.out rfl
    · intro vs wx hG hd K hK
      have e6 : vs 6 = .pointer (some ⟨b, 0, none⟩) := hd.get (j := 6) (by simp [depsOf, Region.binds])
      replace hK : ∀ (uu : Value) (w' : World), Below wx.heap.size wx w' → ((fun wx => Below w.heap.size w wx)) w' → (fun (pv : Value) u (_ : World) => u = pv) ((.int .i64 x.id)) uu w' → K _ w' := hK
      simp only [Act.put, List.setIfInBounds_toArray, List.set_cons_zero, List.set_cons_succ, e6] at hK ⊢
      have HK := Lib.hid hK
      have HG := Lib.hid hG
      clear hK hd e6
      have hb1 := HG.out
      have hr1 := HRL.out.below hb1
      have y0 : wx.cell? ⟨b, 0, none⟩ = some (.int .i64 x.id) := hr1.bx.cell rfl
      have y1 : wx.cell? ⟨b, 1, none⟩ = some (.int .i64 x.ep) := hr1.bx.cell rfl
      have y2 : wx.cell? ⟨b, 2, none⟩ = some (.int .i64 x.pr) := hr1.bx.cell rfl
      have y3 : wx.cell? ⟨b, 3, none⟩ = some (.slice MA x.ms.length mc) := hr1.bx.cell rfl
      have y4 : wx.cell? ⟨b, 4, none⟩ = some (.slice LA x.lg.length lc) := hr1.bx.cell rfl
      have y5 : wx.cell? ⟨b, 5, none⟩ = some (.int .i64 x.jo) := hr1.bx.cell rfl
      have y6 : wx.cell? ⟨b, 6, none⟩ = some (.int .i64 x.su) := hr1.bx.cell rfl
      have y7 : wx.cell? ⟨b, 7, none⟩ = some (.map (some mb)) := hr1.bx.cell rfl
      have y8 : wx.cell? ⟨b, 8, none⟩ = some (.bool x.ac) := hr1.bx.cell rfl
      have yl := hr1.bx.lt
      clear hb1 hr1 hG
      go_simp
      exact HK.out _ _ (Below.refl _ _) HG.out rfl
    · intro vs wx hG hd K hK
      replace hK : ∀ (uu : Value) (w' : World), Below wx.heap.size wx w' → ((fun wx => Below w.heap.size w wx)) w' → (fun (pv : Value) u (_ : World) => u = pv) ((.pointer (some ⟨b, 0, none⟩))) uu w' → K _ w' := hK
      simp only [Act.put, List.setIfInBounds_toArray, List.set_cons_zero, List.set_cons_succ] at hK ⊢
      have HK := Lib.hid hK
      have HG := Lib.hid hG
      clear hK hd
      clear hG
      go_simp
      exact HK.out _ _ (Below.refl _ _) HG.out rfl
    · intro vs wx hG hd K hK
      have e8 : vs 8 = .pointer (some ⟨b, 0, none⟩) := hd.get (j := 8) (by simp [depsOf, Region.binds])
      replace hK : ∀ (uu : Value) (w' : World), Below wx.heap.size wx w' → ((fun wx => Below w.heap.size w wx)) w' → (fun (pv : Value) u (_ : World) => u = pv) ((.pointer (some ⟨b, 0, none⟩))) uu w' → K _ w' := hK
      simp only [Act.put, List.setIfInBounds_toArray, List.set_cons_zero, List.set_cons_succ, e8] at hK ⊢
      have HK := Lib.hid hK
      have HG := Lib.hid hG
      clear hK hd e8
      clear hG
      go_simp
      exact HK.out _ _ (Below.refl _ _) HG.out rfl
    · intro vs wx hG hd K hK
      have e9 : vs 9 = .pointer (some ⟨b, 0, none⟩) := hd.get (j := 9) (by simp [depsOf, Region.binds])
      replace hK : ∀ (uu : Value) (w' : World), Below wx.heap.size wx w' → ((fun wx => Below w.heap.size w wx)) w' → (fun (pv : Value) u (_ : World) => u = pv) ((.pointer (some ⟨b, 4, none⟩))) uu w' → K _ w' := hK
      simp only [Act.put, List.setIfInBounds_toArray, List.set_cons_zero, List.set_cons_succ, e9] at hK ⊢
      have HK := Lib.hid hK
      have HG := Lib.hid hG
      clear hK hd e9
      clear hG
      go_simp
      exact HK.out _ _ (Below.refl _ _) HG.out rfl
    · intro vs wx hG hd K hK
      have e10 : vs 10 = .pointer (some ⟨b, 4, none⟩) := hd.get (j := 10) (by simp [depsOf, Region.binds])
      replace hK : ∀ (uu : Value) (w' : World), Below wx.heap.size wx w' → ((fun wx => Below w.heap.size w wx)) w' → (fun (pv : Value) u (_ : World) => u = pv) ((.slice LA x.lg.length lc)) uu w' → K _ w' := hK
      simp only [Act.put, List.setIfInBounds_toArray, List.set_cons_zero, List.set_cons_succ, e10] at hK ⊢
      have HK := Lib.hid hK
      have HG := Lib.hid hG
      clear hK hd e10
      have hb1 := HG.out
      have hr1 := HRL.out.below hb1
      have y0 : wx.cell? ⟨b, 0, none⟩ = some (.int .i64 x.id) := hr1.bx.cell rfl
      have y1 : wx.cell? ⟨b, 1, none⟩ = some (.int .i64 x.ep) := hr1.bx.cell rfl
      have y2 : wx.cell? ⟨b, 2, none⟩ = some (.int .i64 x.pr) := hr1.bx.cell rfl
      have y3 : wx.cell? ⟨b, 3, none⟩ = some (.slice MA x.ms.length mc) := hr1.bx.cell rfl
      have y4 : wx.cell? ⟨b, 4, none⟩ = some (.slice LA x.lg.length lc) := hr1.bx.cell rfl
      have y5 : wx.cell? ⟨b, 5, none⟩ = some (.int .i64 x.jo) := hr1.bx.cell rfl
      have y6 : wx.cell? ⟨b, 6, none⟩ = some (.int .i64 x.su) := hr1.bx.cell rfl
      have y7 : wx.cell? ⟨b, 7, none⟩ = some (.map (some mb)) := hr1.bx.cell rfl
      have y8 : wx.cell? ⟨b, 8, none⟩ = some (.bool x.ac) := hr1.bx.cell rfl
      have yl := hr1.bx.lt
      clear hb1 hr1 hG
      go_simp
      exact HK.out _ _ (Below.refl _ _) HG.out rfl
    · intro vs wx hG hd K hK
      have e11 : vs 11 = .slice LA x.lg.length lc := hd.get (j := 11) (by simp [depsOf, Region.binds])
      replace hK : ∀ (uu : Value) (w' : World), Below wx.heap.size wx w' → ((fun wx => Below w.heap.size w wx)) w' → (fun (pv : Value) u (_ : World) => u = pv) ((.int .i64 x.lg.length)) uu w' → K _ w' := hK
      simp only [Act.put, List.setIfInBounds_toArray, List.set_cons_zero, List.set_cons_succ, e11] at hK ⊢
      have HK := Lib.hid hK
      have HG := Lib.hid hG
      clear hK hd e11
      clear hG
      go_simp
      exact HK.out _ _ (Below.refl _ _) HG.out rfl
    · intro vs wx hG hd K hK
      have e3 : vs 3 = .map (some mb) := hd.get (j := 3) (by simp [depsOf, Region.binds])
      have e7 : vs 7 = .int .i64 x.id := hd.get (j := 7) (by simp [depsOf, Region.binds])
      have e12 : vs 12 = .int .i64 x.lg.length := hd.get (j := 12) (by simp [depsOf, Region.binds])
      replace hK : ∀ (uu : Value) (w' : World), (fun wx => Rl wx Kb b mb MA mc LA lc (n + 1) (fun j => if j = x.id then (x.lg.length : Int) else f j) (fun j => h j || decide (j = x.id)) x ∧ Below Kb w wx) w' → K _ w' := hK
      simp only [Act.put, e3, e7, e12] at hK ⊢
      have HK := Lib.hid hK
      have HG := Lib.hid hG
      clear hK hd e3 e7 e12
      have hb1 := HG.out
      obtain ⟨w9, hrun, him, htn⟩ := (HRL.out.mp.below hb1).put hnm.out hid.out (y := x.lg.length) hlm.out
      have HF := Lib.hid ((HRL.out.below hb1).ack him htn)
      have HB := Lib.hid ((hb1.mono hK.out).trans (htn.below (Nat.le_trans hK.out hb1.size) (fun k _ e => e ▸ HRL.out.km)))
      clear hb1 him htn hG
      go_simp
      exact HK.out undef _ ⟨HF.out, HB.out⟩
  case hend =>
    intro vs wx hE
    have HR9 := Lib.hid hE.1
    have HB9 := Lib.hid hE.2
    clear hE
    have HS9 := Lib.hid (settle_any HR9.out (Nat.le_trans hK.out HB9.out.size) hms.out (ackI hlm.out hfi.out) (ack0 hf0.out) hln.out)
    go_wp2_with fail
    refine HS9.out.mono ?_
    rintro e w8 ⟨rfl, hr8, hb8⟩
    have HR8 := Lib.hid hr8
    have HB8 := Lib.hid (HB9.out.trans hb8)
    clear hr8 hb8
    go_wp2_with fail
    go_end0
    exact ⟨rfl, HR8.out, HB8.out⟩
end Go.Proofs.Ytpnhdocimjkakaa
