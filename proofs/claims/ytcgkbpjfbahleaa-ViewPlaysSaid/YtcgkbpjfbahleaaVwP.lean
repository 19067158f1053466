/- ViewPlays: its walk. -/
import Derived.Test.YtcgkbpjfbahleaaVw9
import Derived.Test.YtcgkbpjfbahleaaVwOz
namespace Go.Proofs.Ytcgkbpjfbahleaa
open Go.RowKit Go.BigFrame

set_option maxRecDepth 100000 in
set_option maxHeartbeats 12800000 in
theorem viewplays_any (fA : Option Addr) (fc : Nat) (f : List Int) (A : Option Addr) (cap : Nat) (os : List Op15) (w : World) (hf : Sr encI 1 w w.heap.size fA fc f) (hfz : f.length * 8 ≤ 140737488351232) (ho : Os15 w w.heap.size A cap os) (hoz : ∀ o ∈ os, o.ms.length * 8 ≤ 140737488351232) :
    Calls Try.prog 3 #[.slice fA f.length fc, .slice A os.length cap] w (Ok0 w) := by
  have HFF := Lib.hid hf
  have HO := Lib.hid ho
  have hcl := ho.le
  have hcm := ho.max
  unfold maxLen at hcm
  have HOZ := Lib.hid hoz
  clear hf ho hoz
  go_enter Try.func3, Try.ntmps3
  go_wp2_with (at_builtin; refine wpList_appE Try.underlying22 info_i64 (by kernel_rfl) (by decide) encI_len encI_one _ rfl (.tmp 22) (.tmp 23) rfl (w.heap.size) (.slice (some ⟨w.heap.size, 0, none⟩) 0 0) [] rfl (lit_so (α := Int) (enc := encI) (k := 1) w (w.heap.size) 3 (w.heap.size) (by simp) (Nat.le_refl _) _ 0 [] encI_len rfl rfl (by decide)) fA f.length fc f rfl rfl w.heap.size (HFF.out.alloc (Nat.le_refl _) _) f.length (by simp) (by unfold maxLen; omega) (by omega) (by simp) ?_; intro A2 cap2 w2 so2 hg2 hat2)
  have HB2 : Hid (Below w.heap.size w w2) := Lib.hid (grown_belowI ((Below.refl _ _).alloc (Nat.le_refl _) _) hg2 (by simp) (by simp [Value.ownBlock]))
  have HS2 : Hid (So encI 1 w2 w.heap.size 3 (.slice A2 f.length cap2) f) := Lib.hid so2
  clear so2 hg2 hat2
  go_at_call 7
  cases hm : memsB f with
  | false =>
    refine (new_no w2.heap.size A2 f.length cap2 f w2 rfl (HS2.out.sr encI_len).1 hm).mono ?_
    rintro e w3 ⟨rfl, rfl⟩
    have HRN := Lib.hid (rnew_any w.heap.size fA f.length fc f w2 rfl (HFF.out.below HB2.out) HB2.out.size)
    unfold RNewP at HRN
    rw [if_neg (by rw [hm]; decide)] at HRN
    clear hm
    go_wp2_with fail
    go_at_call 8
    refine HRN.out.mono ?_
    rintro e w3 ⟨rfl, b3⟩
    have HB3 := Lib.hid (HB2.out.trans (b3.mono HB2.out.size))
    clear b3
    go_wp2_with fail
    go_at_call 9
    refine (awake_any _).mono ?_
    rintro e w4 ⟨rfl, b4⟩
    have HB4 := Lib.hid ((HB3.out.alloc HB3.out.size _).trans (b4.mono (by have := HB3.out.size; simp; omega)))
    clear b4
    go_wp2_with fail
    go_ret
    exact ⟨rfl, HB4.out⟩
  | true =>
    have hl0 := mems_len hm
    obtain ⟨x2, rfl⟩ := own_some HS2.out (by omega)
    refine (new_ok_any w2.heap.size ⟨x2, 0, none⟩ cap2 f (f.headD 0) w2 (HS2.out.sr encI_len).1 (Nat.le_refl _) hm rfl).mono ?_
    rintro e w3 ⟨b, rfl, h, g, mc, sc, x3, k3, b3⟩
    have HNK : Hid (VcOk ⟨1, f.headD 0, f, f⟩) := Lib.hid (by
      cases f with
      | nil => simp at hl0
      | cons m l => exact new_ok hm)
    have HB3 := Lib.hid (HB2.out.trans (b3.mono HB2.out.size))
    have HRN := Lib.hid (rnew_any w.heap.size fA f.length fc f w3 rfl (HFF.out.below HB3.out) HB3.out.size)
    unfold RNewP at HRN
    rw [if_pos hm] at HRN
    have HFB : Hid (∀ ad, fA = some ad → ad.block < w.heap.size) := Lib.hid (by
      intro ad e
      obtain ⟨ad', e', hk', _⟩ := HFF.out.at_ (by omega)
      rw [e] at e'
      cases e'
      exact hk')
    have HX3 := Lib.hid x3
    have hk3 := k3
    have hz3 := HB3.out.size
    have hz2 := HB2.out.size
    clear hm hl0 x3 k3 b3
    generalize f.headD 0 = m at *
    go_wp2_with fail
    go_at_call 8
    refine HRN.out.mono ?_
    rintro e w4 ⟨rfl, b4⟩
    have HB4 := Lib.hid (HB3.out.trans (b4.mono HB3.out.size))
    have HX4 := Lib.hid (HX3.out.below b4)
    have hz4 := b4.size
    clear b4
    go_wp2_with fail
    go_at_call 9
    refine (awake_any _).mono ?_
    rintro e w5 ⟨rfl, b5⟩
    obtain ⟨q, hq⟩ : ∃ q, q = w4.heap.size := ⟨_, rfl⟩
    have HV0 : Hid (Vz w w5 b q h g mc sc fA fc fA fc ⟨1, m, f, f⟩) := Lib.hid (by
      have hl := HX4.out.lt
      have hs := HFF.out.below (HB4.out.alloc HB4.out.size (.cells #[.int .i64 1, .int .i64 m, .slice fA f.length fc, .slice fA f.length fc] 31))
      have hle : w.heap.size ≤ (w4.alloc (.cells #[.int .i64 1, .int .i64 m, .slice fA f.length fc, .slice fA f.length fc] 31)).heap.size := by have := HB4.out.size; simp; omega
      have hs' := hs.more hle
      have d : Dq (w4.alloc (.cells #[.int .i64 1, .int .i64 m, .slice fA f.length fc, .slice fA f.length fc] 31)) q ⟨1, m, f, f⟩ fA fc fA fc := by
        rw [hq]
        exact ⟨by simp [go_sem], by simp [go_sem], by simp [go_sem], by simp [go_sem], fun j => by simp [go_sem], hs', hs'⟩
      refine ⟨(HX4.out.below ((Below.refl _ _).alloc (Nat.le_refl _) _)).below b5, d.below b5, HNK.out, (HB4.out.alloc HB4.out.size _).trans (b5.mono (by have := HB4.out.size; simp; omega)), ⟨by omega, by omega, by omega, by have := HB4.out.size; omega⟩, ⟨by omega, by omega, by omega⟩, fun ad e => ?_, fun ad e => ?_⟩
      all_goals
        have := HFB.out ad e
        have := HB4.out.size
        exact ⟨by omega, by omega, by omega, by omega⟩)
    rw [← hq]
    clear b5 hq
    go_wp2_with fail
    go_loopw [51] (fun iv wr => ∃ (i : Nat) (c : Vc) (h g mc sc : Nat) (mA : Option Addr) (m2 : Nat) (sA : Option Addr) (s2 : Nat), i ≤ os.length ∧ iv = .int .i64 (i : Int) ∧ Vz w wr b q h g mc sc mA m2 sA s2 c) (fun iv _ => os.length - (intOf iv).toNat)
    case atStart => exact ⟨0, _, _, _, _, _, _, _, _, _, Nat.zero_le _, rfl, HV0.out⟩
    case round =>
      clear HV0 HX4 HX3 HB4 HB3 HRN HNK hk3 hz3 hz2 hz4
      clear h g mc sc
      obtain ⟨i, c, h, g, mc, sc, mA, m2, sA, s2, hi, rfl, hv⟩ := hrel
      rename World => W0
      have HVC := Lib.hid hv
      clear hv
      by_cases hlt : i < os.length
      · obtain ⟨ad, A2, d2, hA, X⟩ := (HO.out.below HVC.out.bl).get (List.getElem?_eq_getElem hlt)
        subst hA
        have hoz := HOZ.out os[i] (List.getElem_mem hlt)
        generalize os[i] = o at X hoz
        have x0 := X.x0
        have x1 := X.x1
        have x2 := X.x2
        have hol := X.sr.le
        have hom := X.sr.max
        unfold maxLen at hom
        have hi0 : 0 ≤ (i : Int) := by omega
        have HX := Lib.hid X
        clear X
        have hwW := HVC.out.bl.size
        cases hk : (o.k == (0 : Int)) with
        | true =>
          go_wp2_with (at_builtin; refine wpList_appE Try.underlying22 info_i64 (by kernel_rfl) (by decide) encI_len encI_one _ rfl (.tmp 58) (.tmp 60) rfl (W0.heap.size + 1) (.slice (some ⟨W0.heap.size + 1, 0, none⟩) 0 0) [] rfl (lit_so (α := Int) (enc := encI) (k := 1) (W0.alloc _) (W0.heap.size + 1) 3 (W0.heap.size + 1) (by simp) (Nat.le_refl _) _ 0 [] encI_len rfl rfl (by decide)) A2 o.ms.length d2 o.ms rfl rfl w.heap.size ((HX.out.sr.alloc hwW _).alloc (by simp; omega) _) o.ms.length (by simp) (by unfold maxLen; omega) (by omega) (by simp) ?_; intro A3 c3 w3 so3 hg3 hat3; have y03 := (Tn.ofGrown hg3).cell (p := ⟨W0.heap.size, 0, none⟩) (v := .int .i64 o.k) (by simp [go_sem]) (fun e => by simp [Value.ownBlock] at e); have y13 := (Tn.ofGrown hg3).cell (p := ⟨W0.heap.size, 1, none⟩) (v := .int .i64 o.n) (by simp [go_sem]) (fun e => by simp [Value.ownBlock] at e); have y23 := (Tn.ofGrown hg3).cell (p := ⟨W0.heap.size, 2, none⟩) (v := .slice A2 o.ms.length d2) (by simp [go_sem]) (fun e => by simp [Value.ownBlock] at e); have hz03 : W0.heap.size < w3.heap.size := World.block_lt_of_cell? w3 _ y03)
          have HB3 : Hid (Below W0.heap.size W0 w3) := Lib.hid (grown_belowI (show Below W0.heap.size W0 _ by go_grown) hg3 (by simp; omega) (by simp [Value.ownBlock]))
          have HS3 : Hid (So encI 1 w3 (W0.heap.size + 1) 3 (.slice A3 o.ms.length c3) o.ms) := Lib.hid so3
          have HY3 := Lib.hid (And.intro y03 (And.intro y13 y23))
          have hzw3 := HB3.out.size
          clear so3 hg3 hat3 x0 x1 x2 y03 y13 y23
          rcases ch_cases c o.n o.ms with ⟨r, hr0, hr⟩ | ⟨h1, h2, h3, hr⟩
          · have HN := Lib.hid (And.intro hr0 hr)
            have dr0 : (r == (0 : Int)) = false := by simpa using hr0
            obtain ⟨c2, hc2⟩ : ∃ c2, c2 = c := ⟨_, rfl⟩
            have HCE := Lib.hid hc2.symm
            have HCK : Hid (VcOk c2) := Lib.hid (by rw [hc2]; exact HVC.out.ok)
            clear hr0 hr hc2
            go_at_call 10
            refine (change_no (HVC.out.ct.below HB3.out) (HS3.out.sr encI_len).1 (Nat.le_refl _) HN.out.2 HN.out.1).mono ?_
            rintro e w4 ⟨rfl, b4⟩
            have ct4 := (HVC.out.ct.below HB3.out).below b4
            have t4 : Tn (fun k => k = b ∨ k = g) w3 w4 := Tn.ofNew b4
            obtain ⟨h4, hh4⟩ : ∃ h4, h4 = h := ⟨_, rfl⟩
            obtain ⟨mc4, hmc4⟩ : ∃ m4, m4 = mc := ⟨_, rfl⟩
            rw [← hh4, ← hmc4] at ct4
            have kh4 : h4 < W0.heap.size := by rw [hh4]; exact HVC.out.ct.lt.2.1
            have kw4 : w.heap.size ≤ h4 := by rw [hh4]; exact HVC.out.k.2.1
            have nq4 : q ≠ h4 := by rw [hh4]; exact HVC.out.ne.2.1
            have hh4e := Lib.hid hh4
            clear hh4 hmc4 b4
            have hz4 := t4.size
            have HCT4 := Lib.hid ct4
            have HT4 := Lib.hid t4
            have HIN4 := Lib.hid (HS3.out.tn t4 (fun k e q => by have h9 := (HS3.out.lt k e).1; have := HVC.out.ct.lt; omega))
            have y04 := t4.cell HY3.out.1 (fun e => by have := HVC.out.ct.lt; simp only at e; omega)
            have y14 := t4.cell HY3.out.2.1 (fun e => by have := HVC.out.ct.lt; simp only at e; omega)
            have y24 := t4.cell HY3.out.2.2 (fun e => by have := HVC.out.ct.lt; simp only at e; omega)
            have HY4 := Lib.hid (And.intro y04 (And.intro y14 y24))
            clear ct4 t4 y04 y14 y24
            go_wp2_with fail
            go_loopw [72] (fun jv wr => ∃ (j : Nat) (L : List Int), j ≤ o.ms.length ∧ jv = .int .i64 (j : Int) ∧ So encI 1 wr (W0.heap.size + 1) 3 (.slice A3 o.ms.length c3) L ∧ Tn (fun k => (Value.slice A3 o.ms.length c3).ownBlock = some k) (w4.alloc (.cells #[.int .i64 (0), .int .i64 (0), .slice none 0 0] 37)) wr) (fun jv _ => o.ms.length - (intOf jv).toNat)
            case atStart => exact ⟨0, o.ms, Nat.zero_le _, rfl, HIN4.out.alloc _, Tn.refl _ _⟩
            case round =>
              obtain ⟨j, L, hj, rfl, so, tn⟩ := hrel
              rename World => W6
              by_cases hjl : j < o.ms.length
              · obtain ⟨x1, rfl⟩ := own_some so (by rw [so.lenI]; omega)
                obtain ⟨v9, hcell⟩ : ∃ v9, World.cell? _ _ = some v9 := ⟨_, so.cellI (i := j) (by rw [so.lenI]; exact hjl)⟩
                have hfro := so.froI j
                have hj0 : (0 : Int) ≤ (j : Int) := by omega
                have hjI : (j : Int) < (o.ms.length : Int) := by omega
                have HSN := Lib.hid (so.set99 hjl 99)
                have HTN := Lib.hid (tn.then ((Tn.setCell W6 x1 j (.int .i64 99)).mono (fun k _ e => by rw [e]; rfl)))
                clear so tn
                go_wp2
                go_roundw
                case rel => exact ⟨j + 1, _, by omega, by go_num, HSN.out, HTN.out⟩
                case measure => simp [intOf]; omega
              · have hown : ∀ k, (Value.slice A3 o.ms.length c3).ownBlock = some k → W0.heap.size + 1 ≤ k ∧ k < w3.heap.size := fun k e => ⟨(HS3.out.lt k e).1, (HS3.out.lt k e).2⟩
                have hb3 := HB3.out.size
                have hlt0 := HVC.out.ct.lt
                have hq0 := HVC.out.dq.lt
                have TW : Tn (fun k => k = b ∨ k = g) W0 W6 := (((Tn.ofNew HB3.out).thenQ HT4.out (fun k _ h => h)).thenQ (Tn.alloc (P := fun _ => False) _ _) (fun _ _ h => h.elim)).thenQ tn (fun k hk e => by have := (hown k e).1; omega)
                have T46 : Tn (fun k => (Value.slice A3 o.ms.length c3).ownBlock = some k) w4 W6 := (Tn.alloc (P := fun k => (Value.slice A3 o.ms.length c3).ownBlock = some k) _ _).then tn
                have ct6 : Ct W6 b h4 g mc4 sc c2 := (show Ct w4 b h4 g mc4 sc c2 from HCE.out ▸ HCT4.out).tn T46 (fun e => by have := (hown _ e).1; omega) (fun e => by have := hown _ e; omega) (fun e => by have := (hown _ e).1; omega)
                have dq6 := HVC.out.dq.tn TW (fun e => by have := HVC.out.ne; rcases e with e | e <;> omega) (fun ad e h => by have := HVC.out.fm ad e; rcases h with h | h <;> omega) (fun ad e h => by have := HVC.out.fs ad e; rcases h with h | h <;> omega)
                have bl6 : Below w.heap.size w W6 := HVC.out.bl.trans (TW.below HVC.out.bl.size (fun k _ e => by have := HVC.out.k; rcases e with rfl | rfl <;> omega))
                have sr6 := HX.out.sr.below (TW.below HVC.out.bl.size (fun k _ e => by have := HVC.out.k; rcases e with rfl | rfl <;> omega))
                have y0 := T46.cell HY4.out.1 (fun e => by have := (hown _ e).1; simp only at this; omega)
                have y1 := T46.cell HY4.out.2.1 (fun e => by have := (hown _ e).1; simp only at this; omega)
                have y2 := T46.cell HY4.out.2.2 (fun e => by have := (hown _ e).1; simp only at this; omega)
                have v0 := tn.cell (p := ⟨w4.heap.size, 0, none⟩) (v := .int .i64 (0)) (by simp [go_sem]) (fun e => by have := (hown _ e).2; simp only at this; omega)
                have v1 := tn.cell (p := ⟨w4.heap.size, 1, none⟩) (v := .int .i64 (0)) (by simp [go_sem]) (fun e => by have := (hown _ e).2; simp only at this; omega)
                have v2 := tn.cell (p := ⟨w4.heap.size, 2, none⟩) (v := .slice none 0 0) (by simp [go_sem]) (fun e => by have := (hown _ e).2; simp only at this; omega)
                have hz6 : w4.heap.size < W6.heap.size := by have := tn.size; simp at this; omega
                have HCT6 := Lib.hid ct6
                have HDQ6 := Lib.hid dq6
                have HBL6 := Lib.hid bl6
                have HSR6 := Lib.hid sr6
                have HV6 := Lib.hid (And.intro v0 (And.intro v1 v2))
                have q0 := dq6.x0
                have q1 := dq6.x1
                have q2 := dq6.x2
                have q3 := dq6.x3
                have HDL6 : Hid (q < W6.heap.size) := Lib.hid dq6.lt
                clear ct6 dq6 bl6 sr6 v0 v1 v2 TW T46 so tn
                go_wp2_with fail
                go_at_call 11
                refine (rchange_no HDQ6.out.sm HDQ6.out.ss HSR6.out (Nat.le_refl _) (Nat.le_refl _) HBL6.out.size HN.out.2 HN.out.1).mono ?_
                rintro e w7 ⟨mA2, n2, sA2, k2, rfl, sm7, ss7, hmA, hsA, b7⟩
                have hz7 := b7.size
                have HSM7 : Hid (Sr encI 1 w7 w7.heap.size mA2 n2 c2.ms) := Lib.hid (by rw [← HCE.out]; exact sm7)
                have HSS7 : Hid (Sr encI 1 w7 w7.heap.size sA2 k2 c2.sf) := Lib.hid (by rw [← HCE.out]; exact ss7)
                have HMA : Hid (∀ ad, mA2 = some ad → ad.block < W0.heap.size ∧ ad.block ≠ b ∧ ad.block ≠ g ∧ ad.block ≠ q) := Lib.hid (by
                  intro ad e
                  obtain rfl : mA2 = mA := by rcases hmA with h | h <;> exact h
                  obtain ⟨ad', e', hk', _⟩ := HVC.out.dq.sm.at_ (by have := mems_len HVC.out.ok.ms; omega)
                  rw [e] at e'
                  cases e'
                  have := HVC.out.fm ad e
                  exact ⟨hk', this.1, this.2.2.1, this.2.2.2⟩)
                have HSA : Hid (∀ ad, sA2 = some ad → (ad.block < W0.heap.size ∧ ad.block ≠ b ∧ ad.block ≠ g ∧ ad.block ≠ q ∧ ad.block ≠ h) ∨ W6.heap.size ≤ ad.block) := Lib.hid (by
                  intro ad e
                  rcases hsA with rfl | rfl | h9
                  · obtain ⟨ad', e', hk', _⟩ := HVC.out.dq.ss.at_ (by have := List.length_pos_of_mem HVC.out.ok.ps; omega)
                    rw [e] at e'
                    cases e'
                    have := HVC.out.fs ad e
                    exact .inl ⟨hk', this.1, this.2.2.1, this.2.2.2, this.2.1⟩
                  · obtain ⟨ad', e', hk', _⟩ := HVC.out.dq.sm.at_ (by have := mems_len HVC.out.ok.ms; omega)
                    rw [e] at e'
                    cases e'
                    have := HVC.out.fm ad e
                    exact .inl ⟨hk', this.1, this.2.2.1, this.2.2.2, this.2.1⟩
                  · exact .inr (h9 ad e))
                have HMH : Hid (∀ ad, mA2 = some ad → ad.block ≠ h4) := Lib.hid (by
                  intro ad e
                  obtain rfl : mA2 = mA := by rcases hmA with h | h <;> exact h
                  exact fun h9 => (HVC.out.fm ad e).2.1 (h9.trans hh4e.out))
                have HSH : Hid (∀ ad, sA2 = some ad → ad.block ≠ h4) := Lib.hid (by
                  intro ad e
                  have := HCT6.out.lt
                  have := hh4e.out
                  rcases HSA.out ad e with h9 | h9 <;> omega)
                have HCT7 := Lib.hid (HCT6.out.below b7)
                have HDQ7 := Lib.hid (HDQ6.out.below b7)
                have HBL7 := Lib.hid (HBL6.out.trans (b7.mono HBL6.out.size))
                have HV7 := Lib.hid (And.intro (kept b7 HV6.out.1) (And.intro (kept b7 HV6.out.2.1) (kept b7 HV6.out.2.2)))
                clear sm7 ss7 hmA hsA b7 y0 y1 y2 q0 q1 q2 q3
                go_upto_region 22 with fail
                have HZ9 : Hid (∀ W, Below w7.heap.size w7 W → Ct W b h4 g mc4 sc c2 ∧ Dq W q c mA m2 sA s2 ∧ Below w.heap.size w W ∧ Sr encI 1 W W.heap.size mA2 n2 c2.ms ∧ Sr encI 1 W W.heap.size sA2 k2 c2.sf) := Lib.hid fun W h => ⟨HCT7.out.below h, HDQ7.out.below h, HBL7.out.trans (h.mono HBL7.out.size), (HSM7.out.below h).more h.size, (HSS7.out.below h).more h.size⟩
                generalize hW8 : World.alloc (World.alloc w7 _) _ = W8
                have HB8 : Hid (Below w7.heap.size w7 W8) := Lib.hid (by rw [← hW8]; go_grown)
                obtain ⟨z12, hz12⟩ : ∃ z12, z12 = w4.heap.size := ⟨_, rfl⟩
                obtain ⟨z16, hz16⟩ : ∃ z16, z16 = w7.heap.size := ⟨_, rfl⟩
                obtain ⟨z17, hz17⟩ : ∃ z17, z17 = z16 + 1 := ⟨_, rfl⟩
                have HCz12 : Hid (W8.cell? ⟨z12, 0, none⟩ = some (.int .i64 (0)) ∧ W8.cell? ⟨z12, 1, none⟩ = some (.int .i64 (0)) ∧ W8.cell? ⟨z12, 2, none⟩ = some (.slice none 0 0)) := Lib.hid (by rw [hz12]; exact ⟨kept HB8.out HV7.out.1, kept HB8.out HV7.out.2.1, kept HB8.out HV7.out.2.2⟩)
                have HCz16 : Hid (W8.cell? ⟨z16, 0, none⟩ = some (.int .i64 c2.e) ∧ W8.cell? ⟨z16, 1, none⟩ = some (.int .i64 c2.p) ∧ W8.cell? ⟨z16, 2, none⟩ = some (.slice mA2 c2.ms.length n2) ∧ W8.cell? ⟨z16, 3, none⟩ = some (.slice sA2 c2.sf.length k2)) := Lib.hid (by rw [hz16, ← hW8, ← HCE.out]; simp [go_sem])
                have HCz17 : Hid (W8.cell? ⟨z17, 0, none⟩ = some (.int .i64 (0)) ∧ W8.cell? ⟨z17, 1, none⟩ = some (.int .i64 (0)) ∧ W8.cell? ⟨z17, 2, none⟩ = some (.slice none 0 0)) := Lib.hid (by rw [hz17, hz16, ← hW8]; simp [go_sem])
                have HZ : Hid (z12 < W8.heap.size ∧ z17 < W8.heap.size ∧ z16 < W8.heap.size ∧ w4.heap.size ≤ z12 ∧ W6.heap.size ≤ z16) := Lib.hid (by rw [hz17, hz12, hz16, ← hW8]; simp; omega)
                simp only [← hz12, ← hz16]
                simp only [← hz17]
                clear hW8 hz12 hz16 hz17
                apply region_V (HV W8.heap.size) (Below W8.heap.size W8) [.v (.int .i64 r), .v (.int .i64 r), .v (.bool false), .v (.bool false), .v (.agg #[.int .i64 (0), .int .i64 (0), .slice none 0 0]), .v (.agg #[.int .i64 (0), .int .i64 (0), .slice none 0 0]), .v (.agg #[.int .i64 (0), .int .i64 (0), .slice none 0 0]), .v (.bool true), .v (.bool false), .v (.bool false)] (.v undef)
                case mono => exact fun p v w0 w1 h hb => HV.mono h hb
                case hm => kernel_rfl
                case hf => kernel_rfl
                case hQ => exact (by intro c x y w e h; exact And.intro (e.symm.trans (And.left h)) (And.right h))
                case hF => intro vs; simp only [putAll, Act.put, List.setIfInBounds_toArray, List.set_cons_zero, List.set_cons_succ, Nat.reduceAdd]; rfl
                case h0 => exact ⟨rfl, rfl, rfl, Nat.le_refl _, fun _ _ => rfl⟩
                case hstep =>
                  repeat' (first | exact AllOps.nil | apply AllOps.cons)
                  · intro vs wx hG hd K hK
                    replace hK : ∀ (uu : Value) (w' : World), Below wx.heap.size wx w' → ((Below W8.heap.size W8)) w' → (HV W8.heap.size) (.v (.int .i64 r)) uu w' → K _ w' := hK
                    simp only [Act.put, List.setIfInBounds_toArray, List.set_cons_zero, List.set_cons_succ] at hK ⊢
                    have HK := Lib.hid hK
                    have HG := Lib.hid hG
                    clear hK hd
                    clear hG
                    go_simp
                    exact HK.out _ _ (Below.refl _ _) HG.out rfl
                  · intro vs wx hG hd K hK
                    replace hK : ∀ (uu : Value) (w' : World), Below wx.heap.size wx w' → ((Below W8.heap.size W8)) w' → (HV W8.heap.size) (.v (.int .i64 r)) uu w' → K _ w' := hK
                    simp only [Act.put, List.setIfInBounds_toArray, List.set_cons_zero, List.set_cons_succ] at hK ⊢
                    have HK := Lib.hid hK
                    have HG := Lib.hid hG
                    clear hK hd
                    clear hG
                    go_simp
                    exact HK.out _ _ (Below.refl _ _) HG.out rfl
                  · intro vs wx hG hd K hK
                    have e0 : vs 0 = .int .i64 r := hd.get (j := 0) (by simp [depsOf, Region.binds])
                    have e1 : vs 1 = .int .i64 r := hd.get (j := 1) (by simp [depsOf, Region.binds])
                    replace hK : ∀ (uu : Value) (w' : World), Below wx.heap.size wx w' → ((Below W8.heap.size W8)) w' → (HV W8.heap.size) (.v (.bool false)) uu w' → K _ w' := hK
                    simp only [Act.put, List.setIfInBounds_toArray, List.set_cons_zero, List.set_cons_succ, e0, e1] at hK ⊢
                    have HK := Lib.hid hK
                    have HG := Lib.hid hG
                    clear hK hd e0 e1
                    clear hG
                    have dr : ((r : Int) != r) = false := by simp
                    go_simp
                    exact HK.out _ _ (Below.refl _ _) HG.out rfl
                  · intro vs wx hG hd K hK
                    have e2 : vs 2 = .bool false := hd.get (j := 2) (by simp [depsOf, Region.binds])
                    replace hK : ∀ (uu : Value) (w' : World), Below wx.heap.size wx w' → ((Below W8.heap.size W8)) w' → (HV W8.heap.size) (.v (.bool false)) uu w' → K _ w' := hK
                    simp only [Act.put, List.setIfInBounds_toArray, List.set_cons_zero, List.set_cons_succ, e2] at hK ⊢
                    have HK := Lib.hid hK
                    have HG := Lib.hid hG
                    clear hK hd e2
                    clear hG
                    go_simp
                    exact HK.out _ _ (Below.refl _ _) HG.out rfl
                  · intro vs wx hG hd K hK
                    have e3 : vs 3 = .bool false := hd.get (j := 3) (by simp [depsOf, Region.binds])
                    replace hK : ∀ (uu : Value) (w' : World), Below wx.heap.size wx w' → ((Below W8.heap.size W8)) w' → (HV W8.heap.size) (.v (.agg #[.int .i64 (0), .int .i64 (0), .slice none 0 0])) uu w' → K _ w' := hK
                    simp only [Act.put, List.setIfInBounds_toArray, List.set_cons_zero, List.set_cons_succ, e3] at hK ⊢
                    have HK := Lib.hid hK
                    have HG := Lib.hid hG
                    clear hK hd e3
                    have z120 := HG.out.cell (p := ⟨z12, 0, none⟩) HZ.out.1
                    rw [HCz12.out.1] at z120
                    have z121 := HG.out.cell (p := ⟨z12, 1, none⟩) HZ.out.1
                    rw [HCz12.out.2.1] at z121
                    have z122 := HG.out.cell (p := ⟨z12, 2, none⟩) HZ.out.1
                    rw [HCz12.out.2.2] at z122
                    have z170 := HG.out.cell (p := ⟨z17, 0, none⟩) HZ.out.2.1
                    rw [HCz17.out.1] at z170
                    have z171 := HG.out.cell (p := ⟨z17, 1, none⟩) HZ.out.2.1
                    rw [HCz17.out.2.1] at z171
                    have z172 := HG.out.cell (p := ⟨z17, 2, none⟩) HZ.out.2.1
                    rw [HCz17.out.2.2] at z172
                    clear hG
                    go_simp
                    exact HK.out _ _ (Below.refl _ _) HG.out rfl
                  · intro vs wx hG hd K hK
                    have e3 : vs 3 = .bool false := hd.get (j := 3) (by simp [depsOf, Region.binds])
                    have e4 : vs 4 = .agg #[.int .i64 (0), .int .i64 (0), .slice none 0 0] := hd.get (j := 4) (by simp [depsOf, Region.binds])
                    replace hK : ∀ (uu : Value) (w' : World), Below wx.heap.size wx w' → ((Below W8.heap.size W8)) w' → (HV W8.heap.size) (.v (.agg #[.int .i64 (0), .int .i64 (0), .slice none 0 0])) uu w' → K _ w' := hK
                    simp only [Act.put, List.setIfInBounds_toArray, List.set_cons_zero, List.set_cons_succ, e3, e4] at hK ⊢
                    have HK := Lib.hid hK
                    have HG := Lib.hid hG
                    clear hK hd e3 e4
                    clear hG
                    go_simp
                    go_at_call 13
                    refine (from_any _ _ _ _ _ wx).mono ?_
                    rintro e w9 ⟨rfl, hb⟩
                    exact HK.out _ _ hb (HG.out.trans (hb.mono HG.out.size)) rfl
                  · intro vs wx hG hd K hK
                    have e3 : vs 3 = .bool false := hd.get (j := 3) (by simp [depsOf, Region.binds])
                    replace hK : ∀ (uu : Value) (w' : World), Below wx.heap.size wx w' → ((Below W8.heap.size W8)) w' → (HV W8.heap.size) (.v (.agg #[.int .i64 (0), .int .i64 (0), .slice none 0 0])) uu w' → K _ w' := hK
                    simp only [Act.put, List.setIfInBounds_toArray, List.set_cons_zero, List.set_cons_succ, e3] at hK ⊢
                    have HK := Lib.hid hK
                    have HG := Lib.hid hG
                    clear hK hd e3
                    have z120 := HG.out.cell (p := ⟨z12, 0, none⟩) HZ.out.1
                    rw [HCz12.out.1] at z120
                    have z121 := HG.out.cell (p := ⟨z12, 1, none⟩) HZ.out.1
                    rw [HCz12.out.2.1] at z121
                    have z122 := HG.out.cell (p := ⟨z12, 2, none⟩) HZ.out.1
                    rw [HCz12.out.2.2] at z122
                    have z170 := HG.out.cell (p := ⟨z17, 0, none⟩) HZ.out.2.1
                    rw [HCz17.out.1] at z170
                    have z171 := HG.out.cell (p := ⟨z17, 1, none⟩) HZ.out.2.1
                    rw [HCz17.out.2.1] at z171
                    have z172 := HG.out.cell (p := ⟨z17, 2, none⟩) HZ.out.2.1
                    rw [HCz17.out.2.2] at z172
                    clear hG
                    go_simp
                    exact HK.out _ _ (Below.refl _ _) HG.out rfl
                  · intro vs wx hG hd K hK
                    have e3 : vs 3 = .bool false := hd.get (j := 3) (by simp [depsOf, Region.binds])
                    have e5 : vs 5 = .agg #[.int .i64 (0), .int .i64 (0), .slice none 0 0] := hd.get (j := 5) (by simp [depsOf, Region.binds])
                    have e6 : vs 6 = .agg #[.int .i64 (0), .int .i64 (0), .slice none 0 0] := hd.get (j := 6) (by simp [depsOf, Region.binds])
                    replace hK : ∀ (uu : Value) (w' : World), Below wx.heap.size wx w' → ((Below W8.heap.size W8)) w' → (HV W8.heap.size) (.v (.bool true)) uu w' → K _ w' := hK
                    simp only [Act.put, List.setIfInBounds_toArray, List.set_cons_zero, List.set_cons_succ, e3, e5, e6] at hK ⊢
                    have HK := Lib.hid hK
                    have HG := Lib.hid hG
                    clear hK hd e3 e5 e6
                    clear hG
                    go_simp
                    go_at_call 12
                    refine (same_any (0) (0) (Sr.none_ wx W8.heap.size) (Sr.none_ wx W8.heap.size) HG.out.size HG.out.size).mono ?_
                    rintro e w9 ⟨rfl, hb⟩
                    exact HK.out _ _ hb (HG.out.trans (hb.mono HG.out.size)) rfl
                  · intro vs wx hG hd K hK
                    have e3 : vs 3 = .bool false := hd.get (j := 3) (by simp [depsOf, Region.binds])
                    have e7 : vs 7 = .bool true := hd.get (j := 7) (by simp [depsOf, Region.binds])
                    replace hK : ∀ (uu : Value) (w' : World), Below wx.heap.size wx w' → ((Below W8.heap.size W8)) w' → (HV W8.heap.size) (.v (.bool false)) uu w' → K _ w' := hK
                    simp only [Act.put, List.setIfInBounds_toArray, List.set_cons_zero, List.set_cons_succ, e3, e7] at hK ⊢
                    have HK := Lib.hid hK
                    have HG := Lib.hid hG
                    clear hK hd e3 e7
                    clear hG
                    go_simp
                    exact HK.out _ _ (Below.refl _ _) HG.out rfl
                  · intro vs wx hG hd K hK
                    have e3 : vs 3 = .bool false := hd.get (j := 3) (by simp [depsOf, Region.binds])
                    have e8 : vs 8 = .bool false := hd.get (j := 8) (by simp [depsOf, Region.binds])
                    replace hK : ∀ (uu : Value) (w' : World), Below wx.heap.size wx w' → ((Below W8.heap.size W8)) w' → (HV W8.heap.size) (.v (.bool false)) uu w' → K _ w' := hK
                    simp only [Act.put, List.setIfInBounds_toArray, List.set_cons_zero, List.set_cons_succ, e3, e8] at hK ⊢
                    have HK := Lib.hid hK
                    have HG := Lib.hid hG
                    clear hK hd e3 e8
                    clear hG
                    go_simp
                    exact HK.out _ _ (Below.refl _ _) HG.out rfl
                case hend =>
                  intro vs W9 hG hv
                  have e9 : vs 9 = .bool false := hv 9 (by decide)
                  clear hv
                  have B79 := HB8.out.trans (hG.mono HB8.out.size)
                  obtain ⟨ct9, dq9, bl9, sm9, ss9⟩ := HZ9.out W9 B79
                  have hz9 := hG.size
                  have u0 := kept hG HCz16.out.1
                  have u1 := kept hG HCz16.out.2.1
                  have u2 := kept hG HCz16.out.2.2.1
                  have u3 := kept hG HCz16.out.2.2.2
                  have q0 := dq9.x0
                  have q1 := dq9.x1
                  have q2 := dq9.x2
                  have q3 := dq9.x3
                  have qf := dq9.fr
                  have hq0 := HVC.out.dq.lt
                  have hlt0 := HVC.out.ct.lt
                  have hqz : q ≠ z16 := by have := HZ.out; have := HDL6.out; omega
                  have hqz2 : z16 ≠ q := fun e => hqz e.symm
                  obtain ⟨dq10, t10⟩ := dq9.put (c' := c2) sm9 ss9 (fun ad e => (HMA.out ad e).2.2.2) (fun ad e => by rcases HSA.out ad e with h9 | h9 <;> have := HDL6.out <;> omega)
                  have v2 := t10.cell (kept hG HCz12.out.2.2) (fun e => by have := HZ.out; simp only at e; omega)
                  have ct10 := ct9.tn t10 (fun e => HVC.out.ne.1 e.symm) (fun e => by have h9 := hh4e.out; exact HVC.out.ne.2.1 (e.symm.trans h9)) (fun e => HVC.out.ne.2.2 e.symm)
                  have bl10 : Below w.heap.size w _ := bl9.trans (t10.below bl9.size (fun k _ e => by have := HVC.out.k; omega))
                  have HDQ10 := Lib.hid dq10
                  have HCT10 := Lib.hid ct10
                  have HBL10 := Lib.hid bl10
                  have hzz : z16 < W9.heap.size := by have := HZ.out; omega
                  have hqw : q < W9.heap.size := by have := dq9.lt; omega
                  clear dq9 ct9 bl9 sm9 ss9 dq10 ct10 bl10 hG B79
                  simp only [e9]
                  go_wp2_with fail
                  go_loop [107] (fun jv => jv = .int .i64 0) (fun _ => 0)
                  case atStart => rfl
                  case round =>
                    subst hrel
                    have HVZ : Hid (Vz w _ b q h4 g mc4 sc mA2 n2 sA2 k2 c2) := Lib.hid (by
                      have hk := HVC.out.k
                      have hne := HVC.out.ne
                      have hdl := HDL6.out
                      have hc6 := HCT6.out.lt
                      refine ⟨HCT10.out, HDQ10.out, HCK.out, HBL10.out, ⟨hk.1, kw4, hk.2.2.1, hk.2.2.2⟩, ⟨hne.1, nq4, hne.2.2⟩, fun ad e => ?_, fun ad e => ?_⟩
                      · have := HMA.out ad e
                        exact ⟨this.2.1, HMH.out ad e, this.2.2.1, this.2.2.2⟩
                      · have := HSH.out ad e
                        rcases HSA.out ad e with h8 | h8
                        · exact ⟨h8.2.1, this, h8.2.2.1, h8.2.2.2.1⟩
                        · exact ⟨by omega, this, by omega, by omega⟩)
                    clear t10 u0 u1 u2 u3 q0 q1 q2 q3 qf
                    generalize ((((W9.setCell ⟨q, 0, none⟩ (.int .i64 c2.e)).setCell ⟨q, 1, none⟩ (.int .i64 c2.p)).setCell ⟨q, 2, none⟩ (.slice mA2 c2.ms.length n2)).setCell ⟨q, 3, none⟩ (.slice sA2 c2.sf.length k2)) = W11 at *
                    go_upto_region 34 with fail
                    have HOK : Hid (rightV c2.e c2.p c2.ms = true) := Lib.hid (rightV_iff.2 ⟨HVZ.out.ok.e1, HVZ.out.ok.e2, HVZ.out.ok.ms, HVZ.out.ok.pm⟩)
                    have HML : Hid (c2.ms.length * 8 ≤ 140737488355328) := Lib.hid (by have := mems_len HVZ.out.ok.ms; omega)
                    have HSL : Hid (c2.sf.length * 8 ≤ 140737488355328) := Lib.hid (by have := HVZ.out.ok.len; omega)
                    apply region_V (HV W11.heap.size) (Below W11.heap.size W11) [.v (.pointer (some ⟨b, 0, none⟩)), .b c2.e c2.p c2.ms, .b c2.e c2.p c2.ms, .v (.pointer (some ⟨q, 0, none⟩)), .v (.agg #[.int .i64 c2.e, .int .i64 c2.p, .slice mA2 c2.ms.length n2]), .v (.bool true), .v (.bool false), .v (.bool false), .v (.pointer (some ⟨b, 0, none⟩)), .s c2.sf, .v (.pointer (some ⟨q, 3, none⟩)), .v (.slice sA2 c2.sf.length k2), .v (.bool true), .v (.bool false), .v (.bool false), .v (.bool false), .v (.pointer (some ⟨b, 0, none⟩)), .b c2.e c2.p c2.ms, .v (.bool true), .v (.pointer (some ⟨q, 0, none⟩)), .v (.agg #[.int .i64 c2.e, .int .i64 c2.p, .slice mA2 c2.ms.length n2]), .v (.bool true), .v (.bool false), .v (.bool false)] (.v undef)
                    case mono => exact fun p v w0 w1 h hb => HV.mono h hb
                    case hm => kernel_rfl
                    case hf => kernel_rfl
                    case hQ => exact (by intro c x y w e h; exact And.intro (e.symm.trans (And.left h)) (And.right h))
                    case hF => intro vs; simp only [putAll, Act.put, List.setIfInBounds_toArray, List.set_cons_zero, List.set_cons_succ, Nat.reduceAdd]; rfl
                    case h0 => exact ⟨rfl, rfl, rfl, Nat.le_refl _, fun _ _ => rfl⟩
                    case hstep =>
                      repeat' (first | exact AllOps.nil | apply AllOps.cons)
                      · intro vs wx hG hd K hK
                        replace hK : ∀ (uu : Value) (w' : World), Below wx.heap.size wx w' → ((Below W11.heap.size W11)) w' → (HV W11.heap.size) (.v (.pointer (some ⟨b, 0, none⟩))) uu w' → K _ w' := hK
                        simp only [Act.put, List.setIfInBounds_toArray, List.set_cons_zero, List.set_cons_succ] at hK ⊢
                        have HK := Lib.hid hK
                        have HG := Lib.hid hG
                        clear hK hd
                        clear hG
                        go_simp
                        exact HK.out _ _ (Below.refl _ _) HG.out rfl
                      · intro vs wx hG hd K hK
                        have e0 : vs 0 = .pointer (some ⟨b, 0, none⟩) := hd.get (j := 0) (by simp [depsOf, Region.binds])
                        replace hK : ∀ (uu : Value) (w' : World), Below wx.heap.size wx w' → ((Below W11.heap.size W11)) w' → (HV W11.heap.size) (.b c2.e c2.p c2.ms) uu w' → K _ w' := hK
                        simp only [Act.put, List.setIfInBounds_toArray, List.set_cons_zero, List.set_cons_succ, e0] at hK ⊢
                        have HK := Lib.hid hK
                        have HG := Lib.hid hG
                        clear hK hd e0
                        clear hG
                        go_simp
                        go_at_call 16
                        refine (now_any (HVZ.out.ct.below HG.out) HML.out).mono ?_
                        rintro e w9 ⟨A9, c9, rfl, h9, hb⟩
                        exact HK.out _ _ hb (HG.out.trans (hb.mono HG.out.size)) ⟨A9, c9, rfl, h9.more HG.out.size⟩
                      · intro vs wx hG hd K hK
                        obtain ⟨A1, d1, e1, r1⟩ : ∃ A' c', vs 1 = .agg #[.int .i64 c2.e, .int .i64 c2.p, .slice A' c2.ms.length c'] ∧ So encI 1 wx W11.heap.size 3 (.slice A' c2.ms.length c') c2.ms := hd.get (j := 1) (by simp [depsOf, Region.binds])
                        replace hK : ∀ (uu : Value) (w' : World), Below wx.heap.size wx w' → ((Below W11.heap.size W11)) w' → (HV W11.heap.size) (.b c2.e c2.p c2.ms) uu w' → K _ w' := hK
                        simp only [Act.put, List.setIfInBounds_toArray, List.set_cons_zero, List.set_cons_succ, e1] at hK ⊢
                        have HK := Lib.hid hK
                        have HG := Lib.hid hG
                        clear hK hd e1
                        clear hG
                        go_simp
                        go_at_call 13
                        refine (from_any _ _ _ _ _ wx).mono ?_
                        rintro e w9 ⟨rfl, hb⟩
                        exact HK.out _ _ hb (HG.out.trans (hb.mono HG.out.size)) ⟨A1, d1, rfl, r1.below hb⟩
                      · intro vs wx hG hd K hK
                        replace hK : ∀ (uu : Value) (w' : World), Below wx.heap.size wx w' → ((Below W11.heap.size W11)) w' → (HV W11.heap.size) (.v (.pointer (some ⟨q, 0, none⟩))) uu w' → K _ w' := hK
                        simp only [Act.put, List.setIfInBounds_toArray, List.set_cons_zero, List.set_cons_succ] at hK ⊢
                        have HK := Lib.hid hK
                        have HG := Lib.hid hG
                        clear hK hd
                        clear hG
                        go_simp
                        exact HK.out _ _ (Below.refl _ _) HG.out rfl
                      · intro vs wx hG hd K hK
                        have e3 : vs 3 = .pointer (some ⟨q, 0, none⟩) := hd.get (j := 3) (by simp [depsOf, Region.binds])
                        replace hK : ∀ (uu : Value) (w' : World), Below wx.heap.size wx w' → ((Below W11.heap.size W11)) w' → (HV W11.heap.size) (.v (.agg #[.int .i64 c2.e, .int .i64 c2.p, .slice mA2 c2.ms.length n2])) uu w' → K _ w' := hK
                        simp only [Act.put, List.setIfInBounds_toArray, List.set_cons_zero, List.set_cons_succ, e3] at hK ⊢
                        have HK := Lib.hid hK
                        have HG := Lib.hid hG
                        clear hK hd e3
                        have h0 := HG.out.cell (p := ⟨q, 0, none⟩) HVZ.out.dq.lt
                        rw [HVZ.out.dq.x0] at h0
                        have h1 := HG.out.cell (p := ⟨q, 1, none⟩) HVZ.out.dq.lt
                        rw [HVZ.out.dq.x1] at h1
                        have h2 := HG.out.cell (p := ⟨q, 2, none⟩) HVZ.out.dq.lt
                        rw [HVZ.out.dq.x2] at h2
                        have h3 := HG.out.cell (p := ⟨q, 3, none⟩) HVZ.out.dq.lt
                        rw [HVZ.out.dq.x3] at h3
                        clear hG
                        go_simp
                        exact HK.out _ _ (Below.refl _ _) HG.out rfl
                      · intro vs wx hG hd K hK
                        obtain ⟨A2, d2, e2, r2⟩ : ∃ A' c', vs 2 = .agg #[.int .i64 c2.e, .int .i64 c2.p, .slice A' c2.ms.length c'] ∧ So encI 1 wx W11.heap.size 3 (.slice A' c2.ms.length c') c2.ms := hd.get (j := 2) (by simp [depsOf, Region.binds])
                        have e4 : vs 4 = .agg #[.int .i64 c2.e, .int .i64 c2.p, .slice mA2 c2.ms.length n2] := hd.get (j := 4) (by simp [depsOf, Region.binds])
                        replace hK : ∀ (uu : Value) (w' : World), Below wx.heap.size wx w' → ((Below W11.heap.size W11)) w' → (HV W11.heap.size) (.v (.bool true)) uu w' → K _ w' := hK
                        simp only [Act.put, List.setIfInBounds_toArray, List.set_cons_zero, List.set_cons_succ, e2, e4] at hK ⊢
                        have HK := Lib.hid hK
                        have HG := Lib.hid hG
                        clear hK hd e2 e4
                        clear hG
                        go_simp
                        go_at_call 12
                        refine (same_any c2.e c2.p (r2.sr encI_len).1 (HVZ.out.dq.sm.below HG.out) (Nat.le_refl _) HG.out.size).mono ?_
                        rintro e w9 ⟨rfl, hb⟩
                        exact HK.out _ _ hb (HG.out.trans (hb.mono HG.out.size)) rfl
                      · intro vs wx hG hd K hK
                        have e5 : vs 5 = .bool true := hd.get (j := 5) (by simp [depsOf, Region.binds])
                        replace hK : ∀ (uu : Value) (w' : World), Below wx.heap.size wx w' → ((Below W11.heap.size W11)) w' → (HV W11.heap.size) (.v (.bool false)) uu w' → K _ w' := hK
                        simp only [Act.put, List.setIfInBounds_toArray, List.set_cons_zero, List.set_cons_succ, e5] at hK ⊢
                        have HK := Lib.hid hK
                        have HG := Lib.hid hG
                        clear hK hd e5
                        clear hG
                        go_simp
                        exact HK.out _ _ (Below.refl _ _) HG.out rfl
                      · intro vs wx hG hd K hK
                        have e6 : vs 6 = .bool false := hd.get (j := 6) (by simp [depsOf, Region.binds])
                        replace hK : ∀ (uu : Value) (w' : World), Below wx.heap.size wx w' → ((Below W11.heap.size W11)) w' → (HV W11.heap.size) (.v (.bool false)) uu w' → K _ w' := hK
                        simp only [Act.put, List.setIfInBounds_toArray, List.set_cons_zero, List.set_cons_succ, e6] at hK ⊢
                        have HK := Lib.hid hK
                        have HG := Lib.hid hG
                        clear hK hd e6
                        clear hG
                        go_simp
                        exact HK.out _ _ (Below.refl _ _) HG.out rfl
                      · intro vs wx hG hd K hK
                        have e7 : vs 7 = .bool false := hd.get (j := 7) (by simp [depsOf, Region.binds])
                        replace hK : ∀ (uu : Value) (w' : World), Below wx.heap.size wx w' → ((Below W11.heap.size W11)) w' → (HV W11.heap.size) (.v (.pointer (some ⟨b, 0, none⟩))) uu w' → K _ w' := hK
                        simp only [Act.put, List.setIfInBounds_toArray, List.set_cons_zero, List.set_cons_succ, e7] at hK ⊢
                        have HK := Lib.hid hK
                        have HG := Lib.hid hG
                        clear hK hd e7
                        clear hG
                        go_simp
                        exact HK.out _ _ (Below.refl _ _) HG.out rfl
                      · intro vs wx hG hd K hK
                        have e7 : vs 7 = .bool false := hd.get (j := 7) (by simp [depsOf, Region.binds])
                        have e8 : vs 8 = .pointer (some ⟨b, 0, none⟩) := hd.get (j := 8) (by simp [depsOf, Region.binds])
                        replace hK : ∀ (uu : Value) (w' : World), Below wx.heap.size wx w' → ((Below W11.heap.size W11)) w' → (HV W11.heap.size) (.s c2.sf) uu w' → K _ w' := hK
                        simp only [Act.put, List.setIfInBounds_toArray, List.set_cons_zero, List.set_cons_succ, e7, e8] at hK ⊢
                        have HK := Lib.hid hK
                        have HG := Lib.hid hG
                        clear hK hd e7 e8
                        clear hG
                        go_simp
                        go_at_call 18
                        refine (safe_any (HVZ.out.ct.below HG.out) HSL.out).mono ?_
                        rintro e w9 ⟨A9, c9, rfl, h9, hb⟩
                        exact HK.out _ _ hb (HG.out.trans (hb.mono HG.out.size)) ⟨A9, c9, rfl, h9.more HG.out.size⟩
                      · intro vs wx hG hd K hK
                        have e7 : vs 7 = .bool false := hd.get (j := 7) (by simp [depsOf, Region.binds])
                        replace hK : ∀ (uu : Value) (w' : World), Below wx.heap.size wx w' → ((Below W11.heap.size W11)) w' → (HV W11.heap.size) (.v (.pointer (some ⟨q, 3, none⟩))) uu w' → K _ w' := hK
                        simp only [Act.put, List.setIfInBounds_toArray, List.set_cons_zero, List.set_cons_succ, e7] at hK ⊢
                        have HK := Lib.hid hK
                        have HG := Lib.hid hG
                        clear hK hd e7
                        clear hG
                        go_simp
                        exact HK.out _ _ (Below.refl _ _) HG.out rfl
                      · intro vs wx hG hd K hK
                        have e7 : vs 7 = .bool false := hd.get (j := 7) (by simp [depsOf, Region.binds])
                        have e10 : vs 10 = .pointer (some ⟨q, 3, none⟩) := hd.get (j := 10) (by simp [depsOf, Region.binds])
                        replace hK : ∀ (uu : Value) (w' : World), Below wx.heap.size wx w' → ((Below W11.heap.size W11)) w' → (HV W11.heap.size) (.v (.slice sA2 c2.sf.length k2)) uu w' → K _ w' := hK
                        simp only [Act.put, List.setIfInBounds_toArray, List.set_cons_zero, List.set_cons_succ, e7, e10] at hK ⊢
                        have HK := Lib.hid hK
                        have HG := Lib.hid hG
                        clear hK hd e7 e10
                        have h0 := HG.out.cell (p := ⟨q, 0, none⟩) HVZ.out.dq.lt
                        rw [HVZ.out.dq.x0] at h0
                        have h1 := HG.out.cell (p := ⟨q, 1, none⟩) HVZ.out.dq.lt
                        rw [HVZ.out.dq.x1] at h1
                        have h2 := HG.out.cell (p := ⟨q, 2, none⟩) HVZ.out.dq.lt
                        rw [HVZ.out.dq.x2] at h2
                        have h3 := HG.out.cell (p := ⟨q, 3, none⟩) HVZ.out.dq.lt
                        rw [HVZ.out.dq.x3] at h3
                        clear hG
                        go_simp
                        exact HK.out _ _ (Below.refl _ _) HG.out rfl
                      · intro vs wx hG hd K hK
                        have e7 : vs 7 = .bool false := hd.get (j := 7) (by simp [depsOf, Region.binds])
                        obtain ⟨A9, d9, e9, r9⟩ : ∃ A' c', vs 9 = .slice A' c2.sf.length c' ∧ So encI 1 wx W11.heap.size 3 (.slice A' c2.sf.length c') c2.sf := hd.get (j := 9) (by simp [depsOf, Region.binds])
                        have e11 : vs 11 = .slice sA2 c2.sf.length k2 := hd.get (j := 11) (by simp [depsOf, Region.binds])
                        replace hK : ∀ (uu : Value) (w' : World), Below wx.heap.size wx w' → ((Below W11.heap.size W11)) w' → (HV W11.heap.size) (.v (.bool true)) uu w' → K _ w' := hK
                        simp only [Act.put, List.setIfInBounds_toArray, List.set_cons_zero, List.set_cons_succ, e7, e9, e11] at hK ⊢
                        have HK := Lib.hid hK
                        have HG := Lib.hid hG
                        clear hK hd e7 e9 e11
                        clear hG
                        go_simp
                        go_at_call 17
                        refine (samelist_any rfl (r9.sr encI_len).1 (HVZ.out.dq.ss.below HG.out)).mono ?_
                        rintro e w9 ⟨rfl, hb⟩
                        exact HK.out _ _ hb (HG.out.trans (hb.mono HG.out.size)) rfl
                      · intro vs wx hG hd K hK
                        have e7 : vs 7 = .bool false := hd.get (j := 7) (by simp [depsOf, Region.binds])
                        have e12 : vs 12 = .bool true := hd.get (j := 12) (by simp [depsOf, Region.binds])
                        replace hK : ∀ (uu : Value) (w' : World), Below wx.heap.size wx w' → ((Below W11.heap.size W11)) w' → (HV W11.heap.size) (.v (.bool false)) uu w' → K _ w' := hK
                        simp only [Act.put, List.setIfInBounds_toArray, List.set_cons_zero, List.set_cons_succ, e7, e12] at hK ⊢
                        have HK := Lib.hid hK
                        have HG := Lib.hid hG
                        clear hK hd e7 e12
                        clear hG
                        go_simp
                        exact HK.out _ _ (Below.refl _ _) HG.out rfl
                      · intro vs wx hG hd K hK
                        have e7 : vs 7 = .bool false := hd.get (j := 7) (by simp [depsOf, Region.binds])
                        have e13 : vs 13 = .bool false := hd.get (j := 13) (by simp [depsOf, Region.binds])
                        replace hK : ∀ (uu : Value) (w' : World), Below wx.heap.size wx w' → ((Below W11.heap.size W11)) w' → (HV W11.heap.size) (.v (.bool false)) uu w' → K _ w' := hK
                        simp only [Act.put, List.setIfInBounds_toArray, List.set_cons_zero, List.set_cons_succ, e7, e13] at hK ⊢
                        have HK := Lib.hid hK
                        have HG := Lib.hid hG
                        clear hK hd e7 e13
                        clear hG
                        go_simp
                        exact HK.out _ _ (Below.refl _ _) HG.out rfl
                      · intro vs wx hG hd K hK
                        have e14 : vs 14 = .bool false := hd.get (j := 14) (by simp [depsOf, Region.binds])
                        replace hK : ∀ (uu : Value) (w' : World), Below wx.heap.size wx w' → ((Below W11.heap.size W11)) w' → (HV W11.heap.size) (.v (.bool false)) uu w' → K _ w' := hK
                        simp only [Act.put, List.setIfInBounds_toArray, List.set_cons_zero, List.set_cons_succ, e14] at hK ⊢
                        have HK := Lib.hid hK
                        have HG := Lib.hid hG
                        clear hK hd e14
                        clear hG
                        go_simp
                        exact HK.out _ _ (Below.refl _ _) HG.out rfl
                      · intro vs wx hG hd K hK
                        have e15 : vs 15 = .bool false := hd.get (j := 15) (by simp [depsOf, Region.binds])
                        replace hK : ∀ (uu : Value) (w' : World), Below wx.heap.size wx w' → ((Below W11.heap.size W11)) w' → (HV W11.heap.size) (.v (.pointer (some ⟨b, 0, none⟩))) uu w' → K _ w' := hK
                        simp only [Act.put, List.setIfInBounds_toArray, List.set_cons_zero, List.set_cons_succ, e15] at hK ⊢
                        have HK := Lib.hid hK
                        have HG := Lib.hid hG
                        clear hK hd e15
                        clear hG
                        go_simp
                        exact HK.out _ _ (Below.refl _ _) HG.out rfl
                      · intro vs wx hG hd K hK
                        have e15 : vs 15 = .bool false := hd.get (j := 15) (by simp [depsOf, Region.binds])
                        have e16 : vs 16 = .pointer (some ⟨b, 0, none⟩) := hd.get (j := 16) (by simp [depsOf, Region.binds])
                        replace hK : ∀ (uu : Value) (w' : World), Below wx.heap.size wx w' → ((Below W11.heap.size W11)) w' → (HV W11.heap.size) (.b c2.e c2.p c2.ms) uu w' → K _ w' := hK
                        simp only [Act.put, List.setIfInBounds_toArray, List.set_cons_zero, List.set_cons_succ, e15, e16] at hK ⊢
                        have HK := Lib.hid hK
                        have HG := Lib.hid hG
                        clear hK hd e15 e16
                        clear hG
                        go_simp
                        go_at_call 16
                        refine (now_any (HVZ.out.ct.below HG.out) HML.out).mono ?_
                        rintro e w9 ⟨A9, c9, rfl, h9, hb⟩
                        exact HK.out _ _ hb (HG.out.trans (hb.mono HG.out.size)) ⟨A9, c9, rfl, h9.more HG.out.size⟩
                      · intro vs wx hG hd K hK
                        have e15 : vs 15 = .bool false := hd.get (j := 15) (by simp [depsOf, Region.binds])
                        obtain ⟨A17, d17, e17, r17⟩ : ∃ A' c', vs 17 = .agg #[.int .i64 c2.e, .int .i64 c2.p, .slice A' c2.ms.length c'] ∧ So encI 1 wx W11.heap.size 3 (.slice A' c2.ms.length c') c2.ms := hd.get (j := 17) (by simp [depsOf, Region.binds])
                        replace hK : ∀ (uu : Value) (w' : World), Below wx.heap.size wx w' → ((Below W11.heap.size W11)) w' → (HV W11.heap.size) (.v (.bool true)) uu w' → K _ w' := hK
                        simp only [Act.put, List.setIfInBounds_toArray, List.set_cons_zero, List.set_cons_succ, e15, e17] at hK ⊢
                        have HK := Lib.hid hK
                        have HG := Lib.hid hG
                        clear hK hd e15 e17
                        clear hG
                        go_simp
                        go_at_call 19
                        refine (vright_any c2.e c2.p wx.heap.size A17 _ d17 c2.ms wx rfl (r17.sr encI_len).1 (Nat.le_refl _)).mono ?_
                        rintro e w9 ⟨rfl, hb⟩
                        exact HK.out _ _ hb (HG.out.trans (hb.mono HG.out.size)) (by rw [HOK.out]; rfl)
                      · intro vs wx hG hd K hK
                        have e15 : vs 15 = .bool false := hd.get (j := 15) (by simp [depsOf, Region.binds])
                        replace hK : ∀ (uu : Value) (w' : World), Below wx.heap.size wx w' → ((Below W11.heap.size W11)) w' → (HV W11.heap.size) (.v (.pointer (some ⟨q, 0, none⟩))) uu w' → K _ w' := hK
                        simp only [Act.put, List.setIfInBounds_toArray, List.set_cons_zero, List.set_cons_succ, e15] at hK ⊢
                        have HK := Lib.hid hK
                        have HG := Lib.hid hG
                        clear hK hd e15
                        clear hG
                        go_simp
                        exact HK.out _ _ (Below.refl _ _) HG.out rfl
                      · intro vs wx hG hd K hK
                        have e15 : vs 15 = .bool false := hd.get (j := 15) (by simp [depsOf, Region.binds])
                        have e19 : vs 19 = .pointer (some ⟨q, 0, none⟩) := hd.get (j := 19) (by simp [depsOf, Region.binds])
                        replace hK : ∀ (uu : Value) (w' : World), Below wx.heap.size wx w' → ((Below W11.heap.size W11)) w' → (HV W11.heap.size) (.v (.agg #[.int .i64 c2.e, .int .i64 c2.p, .slice mA2 c2.ms.length n2])) uu w' → K _ w' := hK
                        simp only [Act.put, List.setIfInBounds_toArray, List.set_cons_zero, List.set_cons_succ, e15, e19] at hK ⊢
                        have HK := Lib.hid hK
                        have HG := Lib.hid hG
                        clear hK hd e15 e19
                        have h0 := HG.out.cell (p := ⟨q, 0, none⟩) HVZ.out.dq.lt
                        rw [HVZ.out.dq.x0] at h0
                        have h1 := HG.out.cell (p := ⟨q, 1, none⟩) HVZ.out.dq.lt
                        rw [HVZ.out.dq.x1] at h1
                        have h2 := HG.out.cell (p := ⟨q, 2, none⟩) HVZ.out.dq.lt
                        rw [HVZ.out.dq.x2] at h2
                        have h3 := HG.out.cell (p := ⟨q, 3, none⟩) HVZ.out.dq.lt
                        rw [HVZ.out.dq.x3] at h3
                        clear hG
                        go_simp
                        exact HK.out _ _ (Below.refl _ _) HG.out rfl
                      · intro vs wx hG hd K hK
                        have e15 : vs 15 = .bool false := hd.get (j := 15) (by simp [depsOf, Region.binds])
                        have e20 : vs 20 = .agg #[.int .i64 c2.e, .int .i64 c2.p, .slice mA2 c2.ms.length n2] := hd.get (j := 20) (by simp [depsOf, Region.binds])
                        replace hK : ∀ (uu : Value) (w' : World), Below wx.heap.size wx w' → ((Below W11.heap.size W11)) w' → (HV W11.heap.size) (.v (.bool true)) uu w' → K _ w' := hK
                        simp only [Act.put, List.setIfInBounds_toArray, List.set_cons_zero, List.set_cons_succ, e15, e20] at hK ⊢
                        have HK := Lib.hid hK
                        have HG := Lib.hid hG
                        clear hK hd e15 e20
                        clear hG
                        go_simp
                        go_at_call 20
                        refine (rright_any c2.e c2.p W11.heap.size mA2 _ n2 c2.ms wx rfl (HVZ.out.dq.sm.below HG.out) HG.out.size).mono ?_
                        rintro e w9 ⟨rfl, hb⟩
                        exact HK.out _ _ hb (HG.out.trans (hb.mono HG.out.size)) (by rw [HOK.out]; rfl)
                      · intro vs wx hG hd K hK
                        have e15 : vs 15 = .bool false := hd.get (j := 15) (by simp [depsOf, Region.binds])
                        have e18 : vs 18 = .bool true := hd.get (j := 18) (by simp [depsOf, Region.binds])
                        have e21 : vs 21 = .bool true := hd.get (j := 21) (by simp [depsOf, Region.binds])
                        replace hK : ∀ (uu : Value) (w' : World), Below wx.heap.size wx w' → ((Below W11.heap.size W11)) w' → (HV W11.heap.size) (.v (.bool false)) uu w' → K _ w' := hK
                        simp only [Act.put, List.setIfInBounds_toArray, List.set_cons_zero, List.set_cons_succ, e15, e18, e21] at hK ⊢
                        have HK := Lib.hid hK
                        have HG := Lib.hid hG
                        clear hK hd e15 e18 e21
                        clear hG
                        go_simp
                        exact HK.out _ _ (Below.refl _ _) HG.out rfl
                      · intro vs wx hG hd K hK
                        have e15 : vs 15 = .bool false := hd.get (j := 15) (by simp [depsOf, Region.binds])
                        have e22 : vs 22 = .bool false := hd.get (j := 22) (by simp [depsOf, Region.binds])
                        replace hK : ∀ (uu : Value) (w' : World), Below wx.heap.size wx w' → ((Below W11.heap.size W11)) w' → (HV W11.heap.size) (.v (.bool false)) uu w' → K _ w' := hK
                        simp only [Act.put, List.setIfInBounds_toArray, List.set_cons_zero, List.set_cons_succ, e15, e22] at hK ⊢
                        have HK := Lib.hid hK
                        have HG := Lib.hid hG
                        clear hK hd e15 e22
                        clear hG
                        go_simp
                        exact HK.out _ _ (Below.refl _ _) HG.out rfl
                    case hend =>
                      intro vs W12 hG hv
                      have e23 : vs 23 = .bool false := hv 23 (by decide)
                      have HV12 := Lib.hid (HVZ.out.below hG)
                      clear hG hv
                      simp only [e23]
                      go_wp2_with fail
                      go_roundw
                      case rel => exact ⟨i + 1, c2, _, _, _, _, _, _, _, _, by omega, by go_num, HV12.out⟩
                      case measure => simp [intOf]; omega
          · have HY := Lib.hid (And.intro h1 (And.intro h2 (And.intro h3 hr)))
            obtain ⟨c2, hc2⟩ : ∃ c2 : Vc, c2 = ⟨c.e + 1, o.n, o.ms, c.sf.filter fun n => hasB o.ms n⟩ := ⟨_, rfl⟩
            have HCE := Lib.hid hc2.symm
            have HCK : Hid (VcOk c2) := Lib.hid (by have h9 := ch_ok HVC.out.ok o.n o.ms; rw [hr] at h9; rw [hc2]; exact h9)
            clear h1 h2 h3 hr hc2
            go_at_call 10
            refine (change_yes (HVC.out.ct.below HB3.out) (HS3.out.sr encI_len).1 (Nat.le_refl _) (fun hl ad e => by subst e; have h9 := (HS3.out.lt ad.block rfl).1; have := HVC.out.ct.lt; exact ⟨by omega, by omega⟩) HY.out.1 HY.out.2.1 HY.out.2.2.1 HVC.out.ok.e1).mono ?_
            rintro e w4 ⟨h4, mc4, A4, c4, K4, rfl, ct4, kh4, kK4, hk4, so4, t4⟩
            have hz4 := t4.size
            have HCT4 := Lib.hid ct4
            have HT4 := Lib.hid t4
            have HS4 := Lib.hid so4
            clear so4
            have HIN4 := Lib.hid (HS3.out.tn t4 (fun k e q => by have h9 := (HS3.out.lt k e).1; have := HVC.out.ct.lt; omega))
            have y04 := t4.cell HY3.out.1 (fun e => by have := HVC.out.ct.lt; simp only at e; omega)
            have y14 := t4.cell HY3.out.2.1 (fun e => by have := HVC.out.ct.lt; simp only at e; omega)
            have y24 := t4.cell HY3.out.2.2 (fun e => by have := HVC.out.ct.lt; simp only at e; omega)
            have HY4 := Lib.hid (And.intro y04 (And.intro y14 y24))
            clear ct4 t4 y04 y14 y24
            go_wp2_with fail
            go_loopw [72] (fun jv wr => ∃ (j : Nat) (L : List Int), j ≤ o.ms.length ∧ jv = .int .i64 (j : Int) ∧ So encI 1 wr (W0.heap.size + 1) 3 (.slice A3 o.ms.length c3) L ∧ Tn (fun k => (Value.slice A3 o.ms.length c3).ownBlock = some k) (w4.alloc (.cells #[.int .i64 (c.e + 1), .int .i64 (o.n), .slice A4 o.ms.length c4] 37)) wr) (fun jv _ => o.ms.length - (intOf jv).toNat)
            case atStart => exact ⟨0, o.ms, Nat.zero_le _, rfl, HIN4.out.alloc _, Tn.refl _ _⟩
            case round =>
              obtain ⟨j, L, hj, rfl, so, tn⟩ := hrel
              rename World => W6
              by_cases hjl : j < o.ms.length
              · obtain ⟨x1, rfl⟩ := own_some so (by rw [so.lenI]; omega)
                obtain ⟨v9, hcell⟩ : ∃ v9, World.cell? _ _ = some v9 := ⟨_, so.cellI (i := j) (by rw [so.lenI]; exact hjl)⟩
                have hfro := so.froI j
                have hj0 : (0 : Int) ≤ (j : Int) := by omega
                have hjI : (j : Int) < (o.ms.length : Int) := by omega
                have HSN := Lib.hid (so.set99 hjl 99)
                have HTN := Lib.hid (tn.then ((Tn.setCell W6 x1 j (.int .i64 99)).mono (fun k _ e => by rw [e]; rfl)))
                clear so tn
                go_wp2
                go_roundw
                case rel => exact ⟨j + 1, _, by omega, by go_num, HSN.out, HTN.out⟩
                case measure => simp [intOf]; omega
              · have hown : ∀ k, (Value.slice A3 o.ms.length c3).ownBlock = some k → W0.heap.size + 1 ≤ k ∧ k < w3.heap.size := fun k e => ⟨(HS3.out.lt k e).1, (HS3.out.lt k e).2⟩
                have hb3 := HB3.out.size
                have hlt0 := HVC.out.ct.lt
                have hq0 := HVC.out.dq.lt
                have TW : Tn (fun k => k = b ∨ k = g) W0 W6 := (((Tn.ofNew HB3.out).thenQ HT4.out (fun k _ h => h)).thenQ (Tn.alloc (P := fun _ => False) _ _) (fun _ _ h => h.elim)).thenQ tn (fun k hk e => by have := (hown k e).1; omega)
                have T46 : Tn (fun k => (Value.slice A3 o.ms.length c3).ownBlock = some k) w4 W6 := (Tn.alloc (P := fun k => (Value.slice A3 o.ms.length c3).ownBlock = some k) _ _).then tn
                have ct6 : Ct W6 b h4 g mc4 sc c2 := (show Ct w4 b h4 g mc4 sc c2 from HCE.out ▸ HCT4.out).tn T46 (fun e => by have := (hown _ e).1; omega) (fun e => by have := hown _ e; omega) (fun e => by have := (hown _ e).1; omega)
                have dq6 := HVC.out.dq.tn TW (fun e => by have := HVC.out.ne; rcases e with e | e <;> omega) (fun ad e h => by have := HVC.out.fm ad e; rcases h with h | h <;> omega) (fun ad e h => by have := HVC.out.fs ad e; rcases h with h | h <;> omega)
                have bl6 : Below w.heap.size w W6 := HVC.out.bl.trans (TW.below HVC.out.bl.size (fun k _ e => by have := HVC.out.k; rcases e with rfl | rfl <;> omega))
                have sr6 := HX.out.sr.below (TW.below HVC.out.bl.size (fun k _ e => by have := HVC.out.k; rcases e with rfl | rfl <;> omega))
                have y0 := T46.cell HY4.out.1 (fun e => by have := (hown _ e).1; simp only at this; omega)
                have y1 := T46.cell HY4.out.2.1 (fun e => by have := (hown _ e).1; simp only at this; omega)
                have y2 := T46.cell HY4.out.2.2 (fun e => by have := (hown _ e).1; simp only at this; omega)
                have v0 := tn.cell (p := ⟨w4.heap.size, 0, none⟩) (v := .int .i64 (c.e + 1)) (by simp [go_sem]) (fun e => by have := (hown _ e).2; simp only at this; omega)
                have v1 := tn.cell (p := ⟨w4.heap.size, 1, none⟩) (v := .int .i64 (o.n)) (by simp [go_sem]) (fun e => by have := (hown _ e).2; simp only at this; omega)
                have v2 := tn.cell (p := ⟨w4.heap.size, 2, none⟩) (v := .slice A4 o.ms.length c4) (by simp [go_sem]) (fun e => by have := (hown _ e).2; simp only at this; omega)
                have hz6 : w4.heap.size < W6.heap.size := by have := tn.size; simp at this; omega
                have HS6 := Lib.hid (HS4.out.tn T46 (fun k e q => by have := (HS4.out.lt k e).1; have := (hown k q).2; omega))
                have HCT6 := Lib.hid ct6
                have HDQ6 := Lib.hid dq6
                have HBL6 := Lib.hid bl6
                have HSR6 := Lib.hid sr6
                have HV6 := Lib.hid (And.intro v0 (And.intro v1 v2))
                have q0 := dq6.x0
                have q1 := dq6.x1
                have q2 := dq6.x2
                have q3 := dq6.x3
                have HDL6 : Hid (q < W6.heap.size) := Lib.hid dq6.lt
                clear ct6 dq6 bl6 sr6 v0 v1 v2 TW T46 so tn
                go_wp2_with fail
                go_at_call 11
                refine (rchange_yes HDQ6.out.ss HSR6.out (Nat.le_refl _) HBL6.out.size HY.out.1 HY.out.2.1 HY.out.2.2.1 HVC.out.ok.e1 HVC.out.ok.len).mono ?_
                rintro e w7 ⟨mA2, n2, sA2, k2, rfl, sm7, ss7, hmA, hsA, b7⟩
                have hz7 := b7.size
                have HSM7 : Hid (Sr encI 1 w7 w7.heap.size mA2 n2 c2.ms) := Lib.hid (by rw [← HCE.out]; exact sm7)
                have HSS7 : Hid (Sr encI 1 w7 w7.heap.size sA2 k2 c2.sf) := Lib.hid (by rw [← HCE.out]; exact ss7)
                have HMA : Hid (∀ ad, mA2 = some ad → ad.block < W0.heap.size ∧ ad.block ≠ b ∧ ad.block ≠ g ∧ ad.block ≠ q) := Lib.hid (by
                  intro ad e
                  rcases hmA with rfl | rfl
                  · obtain ⟨ad', e', hk', _⟩ := HVC.out.dq.sm.at_ (by have := mems_len HVC.out.ok.ms; omega)
                    rw [e] at e'
                    cases e'
                    have := HVC.out.fm ad e
                    exact ⟨hk', this.1, this.2.2.1, this.2.2.2⟩
                  · obtain ⟨ad', e', hk', _⟩ := HX.out.sr.at_ (by have := mems_len (rightV_iff.1 HY.out.1).2.2.1; omega)
                    rw [e] at e'
                    cases e'
                    have := HVC.out.k
                    have := HVC.out.bl.size
                    exact ⟨by omega, by omega, by omega, by omega⟩)
                have HSA : Hid (∀ ad, sA2 = some ad → (ad.block < W0.heap.size ∧ ad.block ≠ b ∧ ad.block ≠ g ∧ ad.block ≠ q ∧ ad.block ≠ h) ∨ W6.heap.size ≤ ad.block) := Lib.hid (by
                  intro ad e
                  rcases hsA with rfl | rfl | h9
                  · obtain ⟨ad', e', hk', _⟩ := HVC.out.dq.ss.at_ (by have := List.length_pos_of_mem HVC.out.ok.ps; omega)
                    rw [e] at e'
                    cases e'
                    have := HVC.out.fs ad e
                    exact .inl ⟨hk', this.1, this.2.2.1, this.2.2.2, this.2.1⟩
                  · obtain ⟨ad', e', hk', _⟩ := HVC.out.dq.sm.at_ (by have := mems_len HVC.out.ok.ms; omega)
                    rw [e] at e'
                    cases e'
                    have := HVC.out.fm ad e
                    exact .inl ⟨hk', this.1, this.2.2.1, this.2.2.2, this.2.1⟩
                  · exact .inr (h9 ad e))
                have HMH : Hid (∀ ad, mA2 = some ad → ad.block ≠ h4) := Lib.hid (by
                  intro ad e
                  have := (HMA.out ad e).1
                  omega)
                have HSH : Hid (∀ ad, sA2 = some ad → ad.block ≠ h4) := Lib.hid (by
                  intro ad e
                  have := HCT6.out.lt
                  rcases HSA.out ad e with h9 | h9 <;> omega)
                have HCT7 := Lib.hid (HCT6.out.below b7)
                have HDQ7 := Lib.hid (HDQ6.out.below b7)
                have HBL7 := Lib.hid (HBL6.out.trans (b7.mono HBL6.out.size))
                have HV7 := Lib.hid (And.intro (kept b7 HV6.out.1) (And.intro (kept b7 HV6.out.2.1) (kept b7 HV6.out.2.2)))
                have HS7 := Lib.hid (HS6.out.below b7)
                clear sm7 ss7 hmA hsA b7 y0 y1 y2 q0 q1 q2 q3
                go_upto_region 22 with fail
                have HZ9 : Hid (∀ W, Below w7.heap.size w7 W → Ct W b h4 g mc4 sc c2 ∧ Dq W q c mA m2 sA s2 ∧ Below w.heap.size w W ∧ Sr encI 1 W W.heap.size mA2 n2 c2.ms ∧ Sr encI 1 W W.heap.size sA2 k2 c2.sf) := Lib.hid fun W h => ⟨HCT7.out.below h, HDQ7.out.below h, HBL7.out.trans (h.mono HBL7.out.size), (HSM7.out.below h).more h.size, (HSS7.out.below h).more h.size⟩
                generalize hW8 : World.alloc (World.alloc w7 _) _ = W8
                have HB8 : Hid (Below w7.heap.size w7 W8) := Lib.hid (by rw [← hW8]; go_grown)
                obtain ⟨z12, hz12⟩ : ∃ z12, z12 = w4.heap.size := ⟨_, rfl⟩
                obtain ⟨z16, hz16⟩ : ∃ z16, z16 = w7.heap.size := ⟨_, rfl⟩
                obtain ⟨z17, hz17⟩ : ∃ z17, z17 = z16 + 1 := ⟨_, rfl⟩
                have HCz12 : Hid (W8.cell? ⟨z12, 0, none⟩ = some (.int .i64 (c.e + 1)) ∧ W8.cell? ⟨z12, 1, none⟩ = some (.int .i64 (o.n)) ∧ W8.cell? ⟨z12, 2, none⟩ = some (.slice A4 o.ms.length c4)) := Lib.hid (by rw [hz12]; exact ⟨kept HB8.out HV7.out.1, kept HB8.out HV7.out.2.1, kept HB8.out HV7.out.2.2⟩)
                have HCz16 : Hid (W8.cell? ⟨z16, 0, none⟩ = some (.int .i64 c2.e) ∧ W8.cell? ⟨z16, 1, none⟩ = some (.int .i64 c2.p) ∧ W8.cell? ⟨z16, 2, none⟩ = some (.slice mA2 c2.ms.length n2) ∧ W8.cell? ⟨z16, 3, none⟩ = some (.slice sA2 c2.sf.length k2)) := Lib.hid (by rw [hz16, ← hW8, ← HCE.out]; simp [go_sem])
                have HCz17 : Hid (W8.cell? ⟨z17, 0, none⟩ = some (.int .i64 (c.e + 1)) ∧ W8.cell? ⟨z17, 1, none⟩ = some (.int .i64 (o.n)) ∧ W8.cell? ⟨z17, 2, none⟩ = some (.slice mA2 o.ms.length n2)) := Lib.hid (by rw [hz17, hz16, ← hW8]; simp [go_sem])
                have HZ : Hid (z12 < W8.heap.size ∧ z17 < W8.heap.size ∧ z16 < W8.heap.size ∧ w4.heap.size ≤ z12 ∧ W6.heap.size ≤ z16) := Lib.hid (by rw [hz17, hz12, hz16, ← hW8]; simp; omega)
                have HS8 := Lib.hid (HS7.out.below HB8.out)
                simp only [← hz12, ← hz16]
                simp only [← hz17]
                clear hW8 hz12 hz16 hz17
                apply region_V (HV W8.heap.size) (Below W8.heap.size W8) [.v (.int .i64 0), .v (.int .i64 0), .v (.bool false), .v (.bool false), .v (.agg #[.int .i64 (c.e + 1), .int .i64 (o.n), .slice A4 o.ms.length c4]), .v (.agg #[.int .i64 (c.e + 1), .int .i64 (o.n), .slice A4 o.ms.length c4]), .v (.agg #[.int .i64 (c.e + 1), .int .i64 (o.n), .slice mA2 o.ms.length n2]), .v (.bool true), .v (.bool false), .v (.bool false)] (.v undef)
                case mono => exact fun p v w0 w1 h hb => HV.mono h hb
                case hm => kernel_rfl
                case hf => kernel_rfl
                case hQ => exact (by intro c x y w e h; exact And.intro (e.symm.trans (And.left h)) (And.right h))
                case hF => intro vs; simp only [putAll, Act.put, List.setIfInBounds_toArray, List.set_cons_zero, List.set_cons_succ, Nat.reduceAdd]; rfl
                case h0 => exact ⟨rfl, rfl, rfl, Nat.le_refl _, fun _ _ => rfl⟩
                case hstep =>
                  repeat' (first | exact AllOps.nil | apply AllOps.cons)
                  · intro vs wx hG hd K hK
                    replace hK : ∀ (uu : Value) (w' : World), Below wx.heap.size wx w' → ((Below W8.heap.size W8)) w' → (HV W8.heap.size) (.v (.int .i64 0)) uu w' → K _ w' := hK
                    simp only [Act.put, List.setIfInBounds_toArray, List.set_cons_zero, List.set_cons_succ] at hK ⊢
                    have HK := Lib.hid hK
                    have HG := Lib.hid hG
                    clear hK hd
                    clear hG
                    go_simp
                    exact HK.out _ _ (Below.refl _ _) HG.out rfl
                  · intro vs wx hG hd K hK
                    replace hK : ∀ (uu : Value) (w' : World), Below wx.heap.size wx w' → ((Below W8.heap.size W8)) w' → (HV W8.heap.size) (.v (.int .i64 0)) uu w' → K _ w' := hK
                    simp only [Act.put, List.setIfInBounds_toArray, List.set_cons_zero, List.set_cons_succ] at hK ⊢
                    have HK := Lib.hid hK
                    have HG := Lib.hid hG
                    clear hK hd
                    clear hG
                    go_simp
                    exact HK.out _ _ (Below.refl _ _) HG.out rfl
                  · intro vs wx hG hd K hK
                    have e0 : vs 0 = .int .i64 0 := hd.get (j := 0) (by simp [depsOf, Region.binds])
                    have e1 : vs 1 = .int .i64 0 := hd.get (j := 1) (by simp [depsOf, Region.binds])
                    replace hK : ∀ (uu : Value) (w' : World), Below wx.heap.size wx w' → ((Below W8.heap.size W8)) w' → (HV W8.heap.size) (.v (.bool false)) uu w' → K _ w' := hK
                    simp only [Act.put, List.setIfInBounds_toArray, List.set_cons_zero, List.set_cons_succ, e0, e1] at hK ⊢
                    have HK := Lib.hid hK
                    have HG := Lib.hid hG
                    clear hK hd e0 e1
                    clear hG
                    have dr : ((0 : Int) != 0) = false := by simp
                    go_simp
                    exact HK.out _ _ (Below.refl _ _) HG.out rfl
                  · intro vs wx hG hd K hK
                    have e2 : vs 2 = .bool false := hd.get (j := 2) (by simp [depsOf, Region.binds])
                    replace hK : ∀ (uu : Value) (w' : World), Below wx.heap.size wx w' → ((Below W8.heap.size W8)) w' → (HV W8.heap.size) (.v (.bool false)) uu w' → K _ w' := hK
                    simp only [Act.put, List.setIfInBounds_toArray, List.set_cons_zero, List.set_cons_succ, e2] at hK ⊢
                    have HK := Lib.hid hK
                    have HG := Lib.hid hG
                    clear hK hd e2
                    clear hG
                    go_simp
                    exact HK.out _ _ (Below.refl _ _) HG.out rfl
                  · intro vs wx hG hd K hK
                    have e3 : vs 3 = .bool false := hd.get (j := 3) (by simp [depsOf, Region.binds])
                    replace hK : ∀ (uu : Value) (w' : World), Below wx.heap.size wx w' → ((Below W8.heap.size W8)) w' → (HV W8.heap.size) (.v (.agg #[.int .i64 (c.e + 1), .int .i64 (o.n), .slice A4 o.ms.length c4])) uu w' → K _ w' := hK
                    simp only [Act.put, List.setIfInBounds_toArray, List.set_cons_zero, List.set_cons_succ, e3] at hK ⊢
                    have HK := Lib.hid hK
                    have HG := Lib.hid hG
                    clear hK hd e3
                    have z120 := HG.out.cell (p := ⟨z12, 0, none⟩) HZ.out.1
                    rw [HCz12.out.1] at z120
                    have z121 := HG.out.cell (p := ⟨z12, 1, none⟩) HZ.out.1
                    rw [HCz12.out.2.1] at z121
                    have z122 := HG.out.cell (p := ⟨z12, 2, none⟩) HZ.out.1
                    rw [HCz12.out.2.2] at z122
                    have z170 := HG.out.cell (p := ⟨z17, 0, none⟩) HZ.out.2.1
                    rw [HCz17.out.1] at z170
                    have z171 := HG.out.cell (p := ⟨z17, 1, none⟩) HZ.out.2.1
                    rw [HCz17.out.2.1] at z171
                    have z172 := HG.out.cell (p := ⟨z17, 2, none⟩) HZ.out.2.1
                    rw [HCz17.out.2.2] at z172
                    clear hG
                    go_simp
                    exact HK.out _ _ (Below.refl _ _) HG.out rfl
                  · intro vs wx hG hd K hK
                    have e3 : vs 3 = .bool false := hd.get (j := 3) (by simp [depsOf, Region.binds])
                    have e4 : vs 4 = .agg #[.int .i64 (c.e + 1), .int .i64 (o.n), .slice A4 o.ms.length c4] := hd.get (j := 4) (by simp [depsOf, Region.binds])
                    replace hK : ∀ (uu : Value) (w' : World), Below wx.heap.size wx w' → ((Below W8.heap.size W8)) w' → (HV W8.heap.size) (.v (.agg #[.int .i64 (c.e + 1), .int .i64 (o.n), .slice A4 o.ms.length c4])) uu w' → K _ w' := hK
                    simp only [Act.put, List.setIfInBounds_toArray, List.set_cons_zero, List.set_cons_succ, e3, e4] at hK ⊢
                    have HK := Lib.hid hK
                    have HG := Lib.hid hG
                    clear hK hd e3 e4
                    clear hG
                    go_simp
                    go_at_call 13
                    refine (from_any _ _ _ _ _ wx).mono ?_
                    rintro e w9 ⟨rfl, hb⟩
                    exact HK.out _ _ hb (HG.out.trans (hb.mono HG.out.size)) rfl
                  · intro vs wx hG hd K hK
                    have e3 : vs 3 = .bool false := hd.get (j := 3) (by simp [depsOf, Region.binds])
                    replace hK : ∀ (uu : Value) (w' : World), Below wx.heap.size wx w' → ((Below W8.heap.size W8)) w' → (HV W8.heap.size) (.v (.agg #[.int .i64 (c.e + 1), .int .i64 (o.n), .slice mA2 o.ms.length n2])) uu w' → K _ w' := hK
                    simp only [Act.put, List.setIfInBounds_toArray, List.set_cons_zero, List.set_cons_succ, e3] at hK ⊢
                    have HK := Lib.hid hK
                    have HG := Lib.hid hG
                    clear hK hd e3
                    have z120 := HG.out.cell (p := ⟨z12, 0, none⟩) HZ.out.1
                    rw [HCz12.out.1] at z120
                    have z121 := HG.out.cell (p := ⟨z12, 1, none⟩) HZ.out.1
                    rw [HCz12.out.2.1] at z121
                    have z122 := HG.out.cell (p := ⟨z12, 2, none⟩) HZ.out.1
                    rw [HCz12.out.2.2] at z122
                    have z170 := HG.out.cell (p := ⟨z17, 0, none⟩) HZ.out.2.1
                    rw [HCz17.out.1] at z170
                    have z171 := HG.out.cell (p := ⟨z17, 1, none⟩) HZ.out.2.1
                    rw [HCz17.out.2.1] at z171
                    have z172 := HG.out.cell (p := ⟨z17, 2, none⟩) HZ.out.2.1
                    rw [HCz17.out.2.2] at z172
                    clear hG
                    go_simp
                    exact HK.out _ _ (Below.refl _ _) HG.out rfl
                  · intro vs wx hG hd K hK
                    have e3 : vs 3 = .bool false := hd.get (j := 3) (by simp [depsOf, Region.binds])
                    have e5 : vs 5 = .agg #[.int .i64 (c.e + 1), .int .i64 (o.n), .slice A4 o.ms.length c4] := hd.get (j := 5) (by simp [depsOf, Region.binds])
                    have e6 : vs 6 = .agg #[.int .i64 (c.e + 1), .int .i64 (o.n), .slice mA2 o.ms.length n2] := hd.get (j := 6) (by simp [depsOf, Region.binds])
                    replace hK : ∀ (uu : Value) (w' : World), Below wx.heap.size wx w' → ((Below W8.heap.size W8)) w' → (HV W8.heap.size) (.v (.bool true)) uu w' → K _ w' := hK
                    simp only [Act.put, List.setIfInBounds_toArray, List.set_cons_zero, List.set_cons_succ, e3, e5, e6] at hK ⊢
                    have HK := Lib.hid hK
                    have HG := Lib.hid hG
                    clear hK hd e3 e5 e6
                    clear hG
                    go_simp
                    go_at_call 12
                    refine (same_any (c.e + 1) (o.n) ((HS8.out.sr encI_len).1.below HG.out) ((by have h9 := (HZ9.out W8 HB8.out).2.2.2.1; rw [← HCE.out] at h9; exact h9.below HG.out)) HG.out.size HG.out.size).mono ?_
                    rintro e w9 ⟨rfl, hb⟩
                    exact HK.out _ _ hb (HG.out.trans (hb.mono HG.out.size)) rfl
                  · intro vs wx hG hd K hK
                    have e3 : vs 3 = .bool false := hd.get (j := 3) (by simp [depsOf, Region.binds])
                    have e7 : vs 7 = .bool true := hd.get (j := 7) (by simp [depsOf, Region.binds])
                    replace hK : ∀ (uu : Value) (w' : World), Below wx.heap.size wx w' → ((Below W8.heap.size W8)) w' → (HV W8.heap.size) (.v (.bool false)) uu w' → K _ w' := hK
                    simp only [Act.put, List.setIfInBounds_toArray, List.set_cons_zero, List.set_cons_succ, e3, e7] at hK ⊢
                    have HK := Lib.hid hK
                    have HG := Lib.hid hG
                    clear hK hd e3 e7
                    clear hG
                    go_simp
                    exact HK.out _ _ (Below.refl _ _) HG.out rfl
                  · intro vs wx hG hd K hK
                    have e3 : vs 3 = .bool false := hd.get (j := 3) (by simp [depsOf, Region.binds])
                    have e8 : vs 8 = .bool false := hd.get (j := 8) (by simp [depsOf, Region.binds])
                    replace hK : ∀ (uu : Value) (w' : World), Below wx.heap.size wx w' → ((Below W8.heap.size W8)) w' → (HV W8.heap.size) (.v (.bool false)) uu w' → K _ w' := hK
                    simp only [Act.put, List.setIfInBounds_toArray, List.set_cons_zero, List.set_cons_succ, e3, e8] at hK ⊢
                    have HK := Lib.hid hK
                    have HG := Lib.hid hG
                    clear hK hd e3 e8
                    clear hG
                    go_simp
                    exact HK.out _ _ (Below.refl _ _) HG.out rfl
                case hend =>
                  intro vs W9 hG hv
                  have e9 : vs 9 = .bool false := hv 9 (by decide)
                  clear hv
                  have B79 := HB8.out.trans (hG.mono HB8.out.size)
                  obtain ⟨ct9, dq9, bl9, sm9, ss9⟩ := HZ9.out W9 B79
                  have hz9 := hG.size
                  have u0 := kept hG HCz16.out.1
                  have u1 := kept hG HCz16.out.2.1
                  have u2 := kept hG HCz16.out.2.2.1
                  have u3 := kept hG HCz16.out.2.2.2
                  have q0 := dq9.x0
                  have q1 := dq9.x1
                  have q2 := dq9.x2
                  have q3 := dq9.x3
                  have qf := dq9.fr
                  have hq0 := HVC.out.dq.lt
                  have hlt0 := HVC.out.ct.lt
                  have hqz : q ≠ z16 := by have := HZ.out; have := HDL6.out; omega
                  have hqz2 : z16 ≠ q := fun e => hqz e.symm
                  obtain ⟨dq10, t10⟩ := dq9.put (c' := c2) sm9 ss9 (fun ad e => (HMA.out ad e).2.2.2) (fun ad e => by rcases HSA.out ad e with h9 | h9 <;> have := HDL6.out <;> omega)
                  have v2 := t10.cell (kept hG HCz12.out.2.2) (fun e => by have := HZ.out; simp only at e; omega)
                  have ct10 := ct9.tn t10 (fun e => HVC.out.ne.1 e.symm) (fun e => by have h9 := HCT6.out.lt; omega) (fun e => HVC.out.ne.2.2 e.symm)
                  have bl10 : Below w.heap.size w _ := bl9.trans (t10.below bl9.size (fun k _ e => by have := HVC.out.k; omega))
                  have HDQ10 := Lib.hid dq10
                  have HCT10 := Lib.hid ct10
                  have HBL10 := Lib.hid bl10
                  have HS10 := Lib.hid ((HS8.out.below hG).tn t10 (fun k e q9 => by have := (HS8.out.lt k e).1; omega))
                  have hzz : z16 < W9.heap.size := by have := HZ.out; omega
                  have hqw : q < W9.heap.size := by have := dq9.lt; omega
                  clear dq9 ct9 bl9 sm9 ss9 dq10 ct10 bl10 hG B79
                  simp only [e9]
                  go_wp2_with fail
                  generalize ((((W9.setCell ⟨q, 0, none⟩ (.int .i64 c2.e)).setCell ⟨q, 1, none⟩ (.int .i64 c2.p)).setCell ⟨q, 2, none⟩ (.slice mA2 c2.ms.length n2)).setCell ⟨q, 3, none⟩ (.slice sA2 c2.sf.length k2)) = W10 at *
                  have hz10 : W9.heap.size ≤ W10.heap.size := t10.size
                  clear t10 u0 u1 u2 u3 q0 q1 q2 q3 qf
                  have hv12 : z12 < W10.heap.size := by have := HZ.out; omega
                  go_loopw [107] (fun jv wr => ∃ (j : Nat) (L : List Int), j ≤ o.ms.length ∧ jv = .int .i64 (j : Int) ∧ So encI 1 wr K4 3 (.slice A4 o.ms.length c4) L ∧ Tn (fun k => (Value.slice A4 o.ms.length c4).ownBlock = some k) W10 wr) (fun jv _ => o.ms.length - (intOf jv).toNat)
                  case atStart => exact ⟨0, o.ms, Nat.zero_le _, rfl, HS10.out, Tn.refl _ _⟩
                  case round =>
                    obtain ⟨j, L, hj, rfl, so, tn⟩ := hrel
                    rename World => W11
                    have hown : ∀ k, (Value.slice A4 o.ms.length c4).ownBlock = some k → K4 ≤ k ∧ k < w4.heap.size := fun k e => HS4.out.lt k e
                    by_cases hjl : j < o.ms.length
                    · have v2' := tn.cell v2 (fun e => by have h9 := (hown _ e).2; have := HZ.out; simp only at h9; omega)
                      obtain ⟨x4, rfl⟩ := own_some so (by rw [so.lenI]; omega)
                      obtain ⟨v9, hcell⟩ : ∃ v9, World.cell? _ _ = some v9 := ⟨_, so.cellI (i := j) (by rw [so.lenI]; exact hjl)⟩
                      have hfro := so.froI j
                      have hj0 : (0 : Int) ≤ (j : Int) := by omega
                      have hjI : (j : Int) < (o.ms.length : Int) := by omega
                      have HSN := Lib.hid (so.set99 hjl 99)
                      have HTN := Lib.hid (tn.then ((Tn.setCell W11 x4 j (.int .i64 99)).mono (fun k _ e => by rw [e]; rfl)))
                      clear so tn
                      go_wp2
                      go_roundw
                      case rel => exact ⟨j + 1, _, by omega, by go_num, HSN.out, HTN.out⟩
                      case measure => simp [intOf]; omega
                    · have HVZ : Hid (Vz w W11 b q h4 g mc4 sc mA2 n2 sA2 k2 c2) := Lib.hid (by
                        have hk := HVC.out.k
                        have hne := HVC.out.ne
                        have hdl := HDL6.out
                        have hc6 := HCT6.out.lt
                        refine ⟨HCT10.out.tn tn (fun e => by have := hown _ e; omega) (fun e => by have := hown _ e; omega) (fun e => by have := hown _ e; omega), HDQ10.out.tn tn (fun e => by have := hown _ e; omega) (fun ad e h9 => by have := hown _ h9; have := HMA.out ad e; omega) (fun ad e h9 => by have := hown _ h9; rcases HSA.out ad e with h8 | h8 <;> omega), ?_, HBL10.out.trans (tn.below HBL10.out.size (fun k _ e => by have := hown k e; have := HVC.out.bl.size; omega)), ⟨hk.1, by have := HVC.out.bl.size; omega, hk.2.2.1, hk.2.2.2⟩, ⟨hne.1, by omega, hne.2.2⟩, fun ad e => ?_, fun ad e => ?_⟩
                        · exact HCK.out
                        · have := HMA.out ad e
                          exact ⟨this.2.1, HMH.out ad e, this.2.2.1, this.2.2.2⟩
                        · have := HSH.out ad e
                          rcases HSA.out ad e with h8 | h8
                          · exact ⟨h8.2.1, this, h8.2.2.1, h8.2.2.2.1⟩
                          · exact ⟨by omega, this, by omega, by omega⟩)
                      clear so tn
                      go_upto_region 34 with fail
                      have HOK : Hid (rightV c2.e c2.p c2.ms = true) := Lib.hid (rightV_iff.2 ⟨HVZ.out.ok.e1, HVZ.out.ok.e2, HVZ.out.ok.ms, HVZ.out.ok.pm⟩)
                      have HML : Hid (c2.ms.length * 8 ≤ 140737488355328) := Lib.hid (by have := mems_len HVZ.out.ok.ms; omega)
                      have HSL : Hid (c2.sf.length * 8 ≤ 140737488355328) := Lib.hid (by have := HVZ.out.ok.len; omega)
                      apply region_V (HV W11.heap.size) (Below W11.heap.size W11) [.v (.pointer (some ⟨b, 0, none⟩)), .b c2.e c2.p c2.ms, .b c2.e c2.p c2.ms, .v (.pointer (some ⟨q, 0, none⟩)), .v (.agg #[.int .i64 c2.e, .int .i64 c2.p, .slice mA2 c2.ms.length n2]), .v (.bool true), .v (.bool false), .v (.bool false), .v (.pointer (some ⟨b, 0, none⟩)), .s c2.sf, .v (.pointer (some ⟨q, 3, none⟩)), .v (.slice sA2 c2.sf.length k2), .v (.bool true), .v (.bool false), .v (.bool false), .v (.bool false), .v (.pointer (some ⟨b, 0, none⟩)), .b c2.e c2.p c2.ms, .v (.bool true), .v (.pointer (some ⟨q, 0, none⟩)), .v (.agg #[.int .i64 c2.e, .int .i64 c2.p, .slice mA2 c2.ms.length n2]), .v (.bool true), .v (.bool false), .v (.bool false)] (.v undef)
                      case mono => exact fun p v w0 w1 h hb => HV.mono h hb
                      case hm => kernel_rfl
                      case hf => kernel_rfl
                      case hQ => exact (by intro c x y w e h; exact And.intro (e.symm.trans (And.left h)) (And.right h))
                      case hF => intro vs; simp only [putAll, Act.put, List.setIfInBounds_toArray, List.set_cons_zero, List.set_cons_succ, Nat.reduceAdd]; rfl
                      case h0 => exact ⟨rfl, rfl, rfl, Nat.le_refl _, fun _ _ => rfl⟩
                      case hstep =>
                        repeat' (first | exact AllOps.nil | apply AllOps.cons)
                        · intro vs wx hG hd K hK
                          replace hK : ∀ (uu : Value) (w' : World), Below wx.heap.size wx w' → ((Below W11.heap.size W11)) w' → (HV W11.heap.size) (.v (.pointer (some ⟨b, 0, none⟩))) uu w' → K _ w' := hK
                          simp only [Act.put, List.setIfInBounds_toArray, List.set_cons_zero, List.set_cons_succ] at hK ⊢
                          have HK := Lib.hid hK
                          have HG := Lib.hid hG
                          clear hK hd
                          clear hG
                          go_simp
                          exact HK.out _ _ (Below.refl _ _) HG.out rfl
                        · intro vs wx hG hd K hK
                          have e0 : vs 0 = .pointer (some ⟨b, 0, none⟩) := hd.get (j := 0) (by simp [depsOf, Region.binds])
                          replace hK : ∀ (uu : Value) (w' : World), Below wx.heap.size wx w' → ((Below W11.heap.size W11)) w' → (HV W11.heap.size) (.b c2.e c2.p c2.ms) uu w' → K _ w' := hK
                          simp only [Act.put, List.setIfInBounds_toArray, List.set_cons_zero, List.set_cons_succ, e0] at hK ⊢
                          have HK := Lib.hid hK
                          have HG := Lib.hid hG
                          clear hK hd e0
                          clear hG
                          go_simp
                          go_at_call 16
                          refine (now_any (HVZ.out.ct.below HG.out) HML.out).mono ?_
                          rintro e w9 ⟨A9, c9, rfl, h9, hb⟩
                          exact HK.out _ _ hb (HG.out.trans (hb.mono HG.out.size)) ⟨A9, c9, rfl, h9.more HG.out.size⟩
                        · intro vs wx hG hd K hK
                          obtain ⟨A1, d1, e1, r1⟩ : ∃ A' c', vs 1 = .agg #[.int .i64 c2.e, .int .i64 c2.p, .slice A' c2.ms.length c'] ∧ So encI 1 wx W11.heap.size 3 (.slice A' c2.ms.length c') c2.ms := hd.get (j := 1) (by simp [depsOf, Region.binds])
                          replace hK : ∀ (uu : Value) (w' : World), Below wx.heap.size wx w' → ((Below W11.heap.size W11)) w' → (HV W11.heap.size) (.b c2.e c2.p c2.ms) uu w' → K _ w' := hK
                          simp only [Act.put, List.setIfInBounds_toArray, List.set_cons_zero, List.set_cons_succ, e1] at hK ⊢
                          have HK := Lib.hid hK
                          have HG := Lib.hid hG
                          clear hK hd e1
                          clear hG
                          go_simp
                          go_at_call 13
                          refine (from_any _ _ _ _ _ wx).mono ?_
                          rintro e w9 ⟨rfl, hb⟩
                          exact HK.out _ _ hb (HG.out.trans (hb.mono HG.out.size)) ⟨A1, d1, rfl, r1.below hb⟩
                        · intro vs wx hG hd K hK
                          replace hK : ∀ (uu : Value) (w' : World), Below wx.heap.size wx w' → ((Below W11.heap.size W11)) w' → (HV W11.heap.size) (.v (.pointer (some ⟨q, 0, none⟩))) uu w' → K _ w' := hK
                          simp only [Act.put, List.setIfInBounds_toArray, List.set_cons_zero, List.set_cons_succ] at hK ⊢
                          have HK := Lib.hid hK
                          have HG := Lib.hid hG
                          clear hK hd
                          clear hG
                          go_simp
                          exact HK.out _ _ (Below.refl _ _) HG.out rfl
                        · intro vs wx hG hd K hK
                          have e3 : vs 3 = .pointer (some ⟨q, 0, none⟩) := hd.get (j := 3) (by simp [depsOf, Region.binds])
                          replace hK : ∀ (uu : Value) (w' : World), Below wx.heap.size wx w' → ((Below W11.heap.size W11)) w' → (HV W11.heap.size) (.v (.agg #[.int .i64 c2.e, .int .i64 c2.p, .slice mA2 c2.ms.length n2])) uu w' → K _ w' := hK
                          simp only [Act.put, List.setIfInBounds_toArray, List.set_cons_zero, List.set_cons_succ, e3] at hK ⊢
                          have HK := Lib.hid hK
                          have HG := Lib.hid hG
                          clear hK hd e3
                          have h0 := HG.out.cell (p := ⟨q, 0, none⟩) HVZ.out.dq.lt
                          rw [HVZ.out.dq.x0] at h0
                          have h1 := HG.out.cell (p := ⟨q, 1, none⟩) HVZ.out.dq.lt
                          rw [HVZ.out.dq.x1] at h1
                          have h2 := HG.out.cell (p := ⟨q, 2, none⟩) HVZ.out.dq.lt
                          rw [HVZ.out.dq.x2] at h2
                          have h3 := HG.out.cell (p := ⟨q, 3, none⟩) HVZ.out.dq.lt
                          rw [HVZ.out.dq.x3] at h3
                          clear hG
                          go_simp
                          exact HK.out _ _ (Below.refl _ _) HG.out rfl
                        · intro vs wx hG hd K hK
                          obtain ⟨A2, d2, e2, r2⟩ : ∃ A' c', vs 2 = .agg #[.int .i64 c2.e, .int .i64 c2.p, .slice A' c2.ms.length c'] ∧ So encI 1 wx W11.heap.size 3 (.slice A' c2.ms.length c') c2.ms := hd.get (j := 2) (by simp [depsOf, Region.binds])
                          have e4 : vs 4 = .agg #[.int .i64 c2.e, .int .i64 c2.p, .slice mA2 c2.ms.length n2] := hd.get (j := 4) (by simp [depsOf, Region.binds])
                          replace hK : ∀ (uu : Value) (w' : World), Below wx.heap.size wx w' → ((Below W11.heap.size W11)) w' → (HV W11.heap.size) (.v (.bool true)) uu w' → K _ w' := hK
                          simp only [Act.put, List.setIfInBounds_toArray, List.set_cons_zero, List.set_cons_succ, e2, e4] at hK ⊢
                          have HK := Lib.hid hK
                          have HG := Lib.hid hG
                          clear hK hd e2 e4
                          clear hG
                          go_simp
                          go_at_call 12
                          refine (same_any c2.e c2.p (r2.sr encI_len).1 (HVZ.out.dq.sm.below HG.out) (Nat.le_refl _) HG.out.size).mono ?_
                          rintro e w9 ⟨rfl, hb⟩
                          exact HK.out _ _ hb (HG.out.trans (hb.mono HG.out.size)) rfl
                        · intro vs wx hG hd K hK
                          have e5 : vs 5 = .bool true := hd.get (j := 5) (by simp [depsOf, Region.binds])
                          replace hK : ∀ (uu : Value) (w' : World), Below wx.heap.size wx w' → ((Below W11.heap.size W11)) w' → (HV W11.heap.size) (.v (.bool false)) uu w' → K _ w' := hK
                          simp only [Act.put, List.setIfInBounds_toArray, List.set_cons_zero, List.set_cons_succ, e5] at hK ⊢
                          have HK := Lib.hid hK
                          have HG := Lib.hid hG
                          clear hK hd e5
                          clear hG
                          go_simp
                          exact HK.out _ _ (Below.refl _ _) HG.out rfl
                        · intro vs wx hG hd K hK
                          have e6 : vs 6 = .bool false := hd.get (j := 6) (by simp [depsOf, Region.binds])
                          replace hK : ∀ (uu : Value) (w' : World), Below wx.heap.size wx w' → ((Below W11.heap.size W11)) w' → (HV W11.heap.size) (.v (.bool false)) uu w' → K _ w' := hK
                          simp only [Act.put, List.setIfInBounds_toArray, List.set_cons_zero, List.set_cons_succ, e6] at hK ⊢
                          have HK := Lib.hid hK
                          have HG := Lib.hid hG
                          clear hK hd e6
                          clear hG
                          go_simp
                          exact HK.out _ _ (Below.refl _ _) HG.out rfl
                        · intro vs wx hG hd K hK
                          have e7 : vs 7 = .bool false := hd.get (j := 7) (by simp [depsOf, Region.binds])
                          replace hK : ∀ (uu : Value) (w' : World), Below wx.heap.size wx w' → ((Below W11.heap.size W11)) w' → (HV W11.heap.size) (.v (.pointer (some ⟨b, 0, none⟩))) uu w' → K _ w' := hK
                          simp only [Act.put, List.setIfInBounds_toArray, List.set_cons_zero, List.set_cons_succ, e7] at hK ⊢
                          have HK := Lib.hid hK
                          have HG := Lib.hid hG
                          clear hK hd e7
                          clear hG
                          go_simp
                          exact HK.out _ _ (Below.refl _ _) HG.out rfl
                        · intro vs wx hG hd K hK
                          have e7 : vs 7 = .bool false := hd.get (j := 7) (by simp [depsOf, Region.binds])
                          have e8 : vs 8 = .pointer (some ⟨b, 0, none⟩) := hd.get (j := 8) (by simp [depsOf, Region.binds])
                          replace hK : ∀ (uu : Value) (w' : World), Below wx.heap.size wx w' → ((Below W11.heap.size W11)) w' → (HV W11.heap.size) (.s c2.sf) uu w' → K _ w' := hK
                          simp only [Act.put, List.setIfInBounds_toArray, List.set_cons_zero, List.set_cons_succ, e7, e8] at hK ⊢
                          have HK := Lib.hid hK
                          have HG := Lib.hid hG
                          clear hK hd e7 e8
                          clear hG
                          go_simp
                          go_at_call 18
                          refine (safe_any (HVZ.out.ct.below HG.out) HSL.out).mono ?_
                          rintro e w9 ⟨A9, c9, rfl, h9, hb⟩
                          exact HK.out _ _ hb (HG.out.trans (hb.mono HG.out.size)) ⟨A9, c9, rfl, h9.more HG.out.size⟩
                        · intro vs wx hG hd K hK
                          have e7 : vs 7 = .bool false := hd.get (j := 7) (by simp [depsOf, Region.binds])
                          replace hK : ∀ (uu : Value) (w' : World), Below wx.heap.size wx w' → ((Below W11.heap.size W11)) w' → (HV W11.heap.size) (.v (.pointer (some ⟨q, 3, none⟩))) uu w' → K _ w' := hK
                          simp only [Act.put, List.setIfInBounds_toArray, List.set_cons_zero, List.set_cons_succ, e7] at hK ⊢
                          have HK := Lib.hid hK
                          have HG := Lib.hid hG
                          clear hK hd e7
                          clear hG
                          go_simp
                          exact HK.out _ _ (Below.refl _ _) HG.out rfl
                        · intro vs wx hG hd K hK
                          have e7 : vs 7 = .bool false := hd.get (j := 7) (by simp [depsOf, Region.binds])
                          have e10 : vs 10 = .pointer (some ⟨q, 3, none⟩) := hd.get (j := 10) (by simp [depsOf, Region.binds])
                          replace hK : ∀ (uu : Value) (w' : World), Below wx.heap.size wx w' → ((Below W11.heap.size W11)) w' → (HV W11.heap.size) (.v (.slice sA2 c2.sf.length k2)) uu w' → K _ w' := hK
                          simp only [Act.put, List.setIfInBounds_toArray, List.set_cons_zero, List.set_cons_succ, e7, e10] at hK ⊢
                          have HK := Lib.hid hK
                          have HG := Lib.hid hG
                          clear hK hd e7 e10
                          have h0 := HG.out.cell (p := ⟨q, 0, none⟩) HVZ.out.dq.lt
                          rw [HVZ.out.dq.x0] at h0
                          have h1 := HG.out.cell (p := ⟨q, 1, none⟩) HVZ.out.dq.lt
                          rw [HVZ.out.dq.x1] at h1
                          have h2 := HG.out.cell (p := ⟨q, 2, none⟩) HVZ.out.dq.lt
                          rw [HVZ.out.dq.x2] at h2
                          have h3 := HG.out.cell (p := ⟨q, 3, none⟩) HVZ.out.dq.lt
                          rw [HVZ.out.dq.x3] at h3
                          clear hG
                          go_simp
                          exact HK.out _ _ (Below.refl _ _) HG.out rfl
                        · intro vs wx hG hd K hK
                          have e7 : vs 7 = .bool false := hd.get (j := 7) (by simp [depsOf, Region.binds])
                          obtain ⟨A9, d9, e9, r9⟩ : ∃ A' c', vs 9 = .slice A' c2.sf.length c' ∧ So encI 1 wx W11.heap.size 3 (.slice A' c2.sf.length c') c2.sf := hd.get (j := 9) (by simp [depsOf, Region.binds])
                          have e11 : vs 11 = .slice sA2 c2.sf.length k2 := hd.get (j := 11) (by simp [depsOf, Region.binds])
                          replace hK : ∀ (uu : Value) (w' : World), Below wx.heap.size wx w' → ((Below W11.heap.size W11)) w' → (HV W11.heap.size) (.v (.bool true)) uu w' → K _ w' := hK
                          simp only [Act.put, List.setIfInBounds_toArray, List.set_cons_zero, List.set_cons_succ, e7, e9, e11] at hK ⊢
                          have HK := Lib.hid hK
                          have HG := Lib.hid hG
                          clear hK hd e7 e9 e11
                          clear hG
                          go_simp
                          go_at_call 17
                          refine (samelist_any rfl (r9.sr encI_len).1 (HVZ.out.dq.ss.below HG.out)).mono ?_
                          rintro e w9 ⟨rfl, hb⟩
                          exact HK.out _ _ hb (HG.out.trans (hb.mono HG.out.size)) rfl
                        · intro vs wx hG hd K hK
                          have e7 : vs 7 = .bool false := hd.get (j := 7) (by simp [depsOf, Region.binds])
                          have e12 : vs 12 = .bool true := hd.get (j := 12) (by simp [depsOf, Region.binds])
                          replace hK : ∀ (uu : Value) (w' : World), Below wx.heap.size wx w' → ((Below W11.heap.size W11)) w' → (HV W11.heap.size) (.v (.bool false)) uu w' → K _ w' := hK
                          simp only [Act.put, List.setIfInBounds_toArray, List.set_cons_zero, List.set_cons_succ, e7, e12] at hK ⊢
                          have HK := Lib.hid hK
                          have HG := Lib.hid hG
                          clear hK hd e7 e12
                          clear hG
                          go_simp
                          exact HK.out _ _ (Below.refl _ _) HG.out rfl
                        · intro vs wx hG hd K hK
                          have e7 : vs 7 = .bool false := hd.get (j := 7) (by simp [depsOf, Region.binds])
                          have e13 : vs 13 = .bool false := hd.get (j := 13) (by simp [depsOf, Region.binds])
                          replace hK : ∀ (uu : Value) (w' : World), Below wx.heap.size wx w' → ((Below W11.heap.size W11)) w' → (HV W11.heap.size) (.v (.bool false)) uu w' → K _ w' := hK
                          simp only [Act.put, List.setIfInBounds_toArray, List.set_cons_zero, List.set_cons_succ, e7, e13] at hK ⊢
                          have HK := Lib.hid hK
                          have HG := Lib.hid hG
                          clear hK hd e7 e13
                          clear hG
                          go_simp
                          exact HK.out _ _ (Below.refl _ _) HG.out rfl
                        · intro vs wx hG hd K hK
                          have e14 : vs 14 = .bool false := hd.get (j := 14) (by simp [depsOf, Region.binds])
                          replace hK : ∀ (uu : Value) (w' : World), Below wx.heap.size wx w' → ((Below W11.heap.size W11)) w' → (HV W11.heap.size) (.v (.bool false)) uu w' → K _ w' := hK
                          simp only [Act.put, List.setIfInBounds_toArray, List.set_cons_zero, List.set_cons_succ, e14] at hK ⊢
                          have HK := Lib.hid hK
                          have HG := Lib.hid hG
                          clear hK hd e14
                          clear hG
                          go_simp
                          exact HK.out _ _ (Below.refl _ _) HG.out rfl
                        · intro vs wx hG hd K hK
                          have e15 : vs 15 = .bool false := hd.get (j := 15) (by simp [depsOf, Region.binds])
                          replace hK : ∀ (uu : Value) (w' : World), Below wx.heap.size wx w' → ((Below W11.heap.size W11)) w' → (HV W11.heap.size) (.v (.pointer (some ⟨b, 0, none⟩))) uu w' → K _ w' := hK
                          simp only [Act.put, List.setIfInBounds_toArray, List.set_cons_zero, List.set_cons_succ, e15] at hK ⊢
                          have HK := Lib.hid hK
                          have HG := Lib.hid hG
                          clear hK hd e15
                          clear hG
                          go_simp
                          exact HK.out _ _ (Below.refl _ _) HG.out rfl
                        · intro vs wx hG hd K hK
                          have e15 : vs 15 = .bool false := hd.get (j := 15) (by simp [depsOf, Region.binds])
                          have e16 : vs 16 = .pointer (some ⟨b, 0, none⟩) := hd.get (j := 16) (by simp [depsOf, Region.binds])
                          replace hK : ∀ (uu : Value) (w' : World), Below wx.heap.size wx w' → ((Below W11.heap.size W11)) w' → (HV W11.heap.size) (.b c2.e c2.p c2.ms) uu w' → K _ w' := hK
                          simp only [Act.put, List.setIfInBounds_toArray, List.set_cons_zero, List.set_cons_succ, e15, e16] at hK ⊢
                          have HK := Lib.hid hK
                          have HG := Lib.hid hG
                          clear hK hd e15 e16
                          clear hG
                          go_simp
                          go_at_call 16
                          refine (now_any (HVZ.out.ct.below HG.out) HML.out).mono ?_
                          rintro e w9 ⟨A9, c9, rfl, h9, hb⟩
                          exact HK.out _ _ hb (HG.out.trans (hb.mono HG.out.size)) ⟨A9, c9, rfl, h9.more HG.out.size⟩
                        · intro vs wx hG hd K hK
                          have e15 : vs 15 = .bool false := hd.get (j := 15) (by simp [depsOf, Region.binds])
                          obtain ⟨A17, d17, e17, r17⟩ : ∃ A' c', vs 17 = .agg #[.int .i64 c2.e, .int .i64 c2.p, .slice A' c2.ms.length c'] ∧ So encI 1 wx W11.heap.size 3 (.slice A' c2.ms.length c') c2.ms := hd.get (j := 17) (by simp [depsOf, Region.binds])
                          replace hK : ∀ (uu : Value) (w' : World), Below wx.heap.size wx w' → ((Below W11.heap.size W11)) w' → (HV W11.heap.size) (.v (.bool true)) uu w' → K _ w' := hK
                          simp only [Act.put, List.setIfInBounds_toArray, List.set_cons_zero, List.set_cons_succ, e15, e17] at hK ⊢
                          have HK := Lib.hid hK
                          have HG := Lib.hid hG
                          clear hK hd e15 e17
                          clear hG
                          go_simp
                          go_at_call 19
                          refine (vright_any c2.e c2.p wx.heap.size A17 _ d17 c2.ms wx rfl (r17.sr encI_len).1 (Nat.le_refl _)).mono ?_
                          rintro e w9 ⟨rfl, hb⟩
                          exact HK.out _ _ hb (HG.out.trans (hb.mono HG.out.size)) (by rw [HOK.out]; rfl)
                        · intro vs wx hG hd K hK
                          have e15 : vs 15 = .bool false := hd.get (j := 15) (by simp [depsOf, Region.binds])
                          replace hK : ∀ (uu : Value) (w' : World), Below wx.heap.size wx w' → ((Below W11.heap.size W11)) w' → (HV W11.heap.size) (.v (.pointer (some ⟨q, 0, none⟩))) uu w' → K _ w' := hK
                          simp only [Act.put, List.setIfInBounds_toArray, List.set_cons_zero, List.set_cons_succ, e15] at hK ⊢
                          have HK := Lib.hid hK
                          have HG := Lib.hid hG
                          clear hK hd e15
                          clear hG
                          go_simp
                          exact HK.out _ _ (Below.refl _ _) HG.out rfl
                        · intro vs wx hG hd K hK
                          have e15 : vs 15 = .bool false := hd.get (j := 15) (by simp [depsOf, Region.binds])
                          have e19 : vs 19 = .pointer (some ⟨q, 0, none⟩) := hd.get (j := 19) (by simp [depsOf, Region.binds])
                          replace hK : ∀ (uu : Value) (w' : World), Below wx.heap.size wx w' → ((Below W11.heap.size W11)) w' → (HV W11.heap.size) (.v (.agg #[.int .i64 c2.e, .int .i64 c2.p, .slice mA2 c2.ms.length n2])) uu w' → K _ w' := hK
                          simp only [Act.put, List.setIfInBounds_toArray, List.set_cons_zero, List.set_cons_succ, e15, e19] at hK ⊢
                          have HK := Lib.hid hK
                          have HG := Lib.hid hG
                          clear hK hd e15 e19
                          have h0 := HG.out.cell (p := ⟨q, 0, none⟩) HVZ.out.dq.lt
                          rw [HVZ.out.dq.x0] at h0
                          have h1 := HG.out.cell (p := ⟨q, 1, none⟩) HVZ.out.dq.lt
                          rw [HVZ.out.dq.x1] at h1
                          have h2 := HG.out.cell (p := ⟨q, 2, none⟩) HVZ.out.dq.lt
                          rw [HVZ.out.dq.x2] at h2
                          have h3 := HG.out.cell (p := ⟨q, 3, none⟩) HVZ.out.dq.lt
                          rw [HVZ.out.dq.x3] at h3
                          clear hG
                          go_simp
                          exact HK.out _ _ (Below.refl _ _) HG.out rfl
                        · intro vs wx hG hd K hK
                          have e15 : vs 15 = .bool false := hd.get (j := 15) (by simp [depsOf, Region.binds])
                          have e20 : vs 20 = .agg #[.int .i64 c2.e, .int .i64 c2.p, .slice mA2 c2.ms.length n2] := hd.get (j := 20) (by simp [depsOf, Region.binds])
                          replace hK : ∀ (uu : Value) (w' : World), Below wx.heap.size wx w' → ((Below W11.heap.size W11)) w' → (HV W11.heap.size) (.v (.bool true)) uu w' → K _ w' := hK
                          simp only [Act.put, List.setIfInBounds_toArray, List.set_cons_zero, List.set_cons_succ, e15, e20] at hK ⊢
                          have HK := Lib.hid hK
                          have HG := Lib.hid hG
                          clear hK hd e15 e20
                          clear hG
                          go_simp
                          go_at_call 20
                          refine (rright_any c2.e c2.p W11.heap.size mA2 _ n2 c2.ms wx rfl (HVZ.out.dq.sm.below HG.out) HG.out.size).mono ?_
                          rintro e w9 ⟨rfl, hb⟩
                          exact HK.out _ _ hb (HG.out.trans (hb.mono HG.out.size)) (by rw [HOK.out]; rfl)
                        · intro vs wx hG hd K hK
                          have e15 : vs 15 = .bool false := hd.get (j := 15) (by simp [depsOf, Region.binds])
                          have e18 : vs 18 = .bool true := hd.get (j := 18) (by simp [depsOf, Region.binds])
                          have e21 : vs 21 = .bool true := hd.get (j := 21) (by simp [depsOf, Region.binds])
                          replace hK : ∀ (uu : Value) (w' : World), Below wx.heap.size wx w' → ((Below W11.heap.size W11)) w' → (HV W11.heap.size) (.v (.bool false)) uu w' → K _ w' := hK
                          simp only [Act.put, List.setIfInBounds_toArray, List.set_cons_zero, List.set_cons_succ, e15, e18, e21] at hK ⊢
                          have HK := Lib.hid hK
                          have HG := Lib.hid hG
                          clear hK hd e15 e18 e21
                          clear hG
                          go_simp
                          exact HK.out _ _ (Below.refl _ _) HG.out rfl
                        · intro vs wx hG hd K hK
                          have e15 : vs 15 = .bool false := hd.get (j := 15) (by simp [depsOf, Region.binds])
                          have e22 : vs 22 = .bool false := hd.get (j := 22) (by simp [depsOf, Region.binds])
                          replace hK : ∀ (uu : Value) (w' : World), Below wx.heap.size wx w' → ((Below W11.heap.size W11)) w' → (HV W11.heap.size) (.v (.bool false)) uu w' → K _ w' := hK
                          simp only [Act.put, List.setIfInBounds_toArray, List.set_cons_zero, List.set_cons_succ, e15, e22] at hK ⊢
                          have HK := Lib.hid hK
                          have HG := Lib.hid hG
                          clear hK hd e15 e22
                          clear hG
                          go_simp
                          exact HK.out _ _ (Below.refl _ _) HG.out rfl
                      case hend =>
                        intro vs W12 hG hv
                        have e23 : vs 23 = .bool false := hv 23 (by decide)
                        have HV12 := Lib.hid (HVZ.out.below hG)
                        clear hG hv
                        simp only [e23]
                        go_wp2_with fail
                        go_roundw
                        case rel => exact ⟨i + 1, c2, _, _, _, _, _, _, _, _, by omega, by go_num, HV12.out⟩
                        case measure => simp [intOf]; omega
        | false =>
          have q0 := HVC.out.dq.x0
          have q1 := HVC.out.dq.x1
          have q2 := HVC.out.dq.x2
          have q3 := HVC.out.dq.x3
          have hql := HVC.out.dq.lt
          have HDB : Hid (Dq (W0.alloc (.cells #[.int .i64 o.k, .int .i64 o.n, .slice A2 o.ms.length d2] 36)) q c mA m2 sA s2) := Lib.hid (HVC.out.dq.below ((Below.refl _ _).alloc (Nat.le_refl _) _))
          go_wp2_with fail
          go_at_call 14
          refine (ractive_any o.n HDB.out.sm HDB.out.ss (Nat.le_refl _) (Nat.le_refl _)).mono ?_
          rintro e w7 ⟨mA2, n2, sA2, k2, rfl, sm7, ss7, hmA, hsA, b7⟩
          have hz7 := b7.size
          have HB7 : Hid (Below W0.heap.size W0 w7) := Lib.hid (((Below.refl _ _).alloc (Nat.le_refl _) _).trans (b7.mono (by simp)))
          have HAC := Lib.hid (fun W (h : Below W0.heap.size W0 W) => active_any o.n (HVC.out.ct.below h) (by have := mems_len HVC.out.ok.ms; omega) (by have := mems_len HVC.out.ok.ms; omega))
          have HCK : Hid (VcOk (acV c o.n).2) := Lib.hid (ac_ok HVC.out.ok o.n)
          have HACT : Hid (∀ W, Below W0.heap.size W0 W → Calls Try.prog 15 #[.pointer (some ⟨b, 0, none⟩), .int .i64 o.n] W fun e w' => e = .returned (.int .i64 (acV c o.n).1) ∧ ∃ g' sc', Ct w' b h g' mc sc' (acV c o.n).2 ∧ (g' = g ∨ W.heap.size ≤ g') ∧ Tn (· = b) W w') := HAC
          have y1 := kept b7 (p := ⟨W0.heap.size, 1, none⟩) (v := .int .i64 o.n) (by simp [go_sem])
          have hzb : W0.heap.size < w7.heap.size := by have := b7.size; simp at this; omega
          clear HAC q0 q1 q2 q3
          generalize (acV c o.n).1 = r at *
          generalize (acV c o.n).2 = c2 at *
          have HSM7 := Lib.hid sm7
          have HSS7 := Lib.hid ss7
          have HMA : Hid (mA2 = mA) := Lib.hid (by rcases hmA with h | h <;> exact h)
          have HSA : Hid (∀ ad, sA2 = some ad → sA = some ad ∨ mA = some ad ∨ W0.heap.size ≤ ad.block) := Lib.hid (by
            intro ad e
            rcases hsA with rfl | rfl | h9
            · exact .inl e
            · exact .inr (.inl e)
            · have := h9 ad e; simp at this; exact .inr (.inr (by omega)))
          clear sm7 ss7 hmA hsA b7
          go_wp2_with fail
          go_at_call 15
          refine (HACT.out _ (HB7.out.alloc HB7.out.size _)).mono ?_
          rintro e w8 ⟨rfl, g8, sc8, ct8, kg8, t8⟩
          have hz8 := t8.size
          have hz8' : w7.heap.size < w8.heap.size := by have := t8.size; simp at this; omega
          have hb0 := HVC.out.ct.lt
          have u0 := t8.cell (p := ⟨w7.heap.size, 0, none⟩) (v := .int .i64 c2.e) (by simp [go_sem]) (fun e => by simp only at e; omega)
          have u1 := t8.cell (p := ⟨w7.heap.size, 1, none⟩) (v := .int .i64 c2.p) (by simp [go_sem]) (fun e => by simp only at e; omega)
          have u2 := t8.cell (p := ⟨w7.heap.size, 2, none⟩) (v := .slice mA2 c2.ms.length n2) (by simp [go_sem]) (fun e => by simp only at e; omega)
          have u3 := t8.cell (p := ⟨w7.heap.size, 3, none⟩) (v := .slice sA2 c2.sf.length k2) (by simp [go_sem]) (fun e => by simp only at e; omega)
          have T08 : Tn (· = b) W0 w8 := (Tn.ofNew (HB7.out.alloc HB7.out.size _)).then t8
          have HSN : Hid (∀ ad, sA2 = some ad → ad.block ≠ b ∧ ad.block ≠ h ∧ ad.block ≠ g ∧ ad.block ≠ q) := Lib.hid (by
            intro ad e
            have hq9 := HVC.out.dq.lt
            rcases HSA.out ad e with h9 | h9 | h9
            · exact HVC.out.fs ad h9
            · exact HVC.out.fm ad h9
            · exact ⟨by omega, by omega, by omega, by omega⟩)
          have HLE : Hid (∀ ad, sA2 = some ad → ad.block < w7.heap.size) := Lib.hid (by
            intro ad e
            obtain ⟨ad', e', hk', _⟩ := HSS7.out.at_ (by have := List.length_pos_of_mem HCK.out.ps; omega)
            rw [e] at e'
            cases e'
            exact hk')
          have HLM : Hid (∀ ad, mA = some ad → ad.block < w7.heap.size) := Lib.hid (by
            intro ad e
            obtain ⟨ad', e', hk', _⟩ := HSM7.out.at_ (by have := mems_len HCK.out.ms; omega)
            rw [HMA.out, e] at e'
            cases e'
            exact hk')
          have dq8 := HVC.out.dq.tn T08 HVC.out.ne.1 (fun ad e => (HVC.out.fm ad e).1) (fun ad e => (HVC.out.fs ad e).1)
          have sm8 : Sr encI 1 w8 w8.heap.size mA2 n2 c2.ms := ((HSM7.out.alloc (Nat.le_refl _) _).tn t8 (fun _ ad e => (HVC.out.fm ad (HMA.out ▸ e)).1)).more (by omega)
          have ss8 : Sr encI 1 w8 w8.heap.size sA2 k2 c2.sf := ((HSS7.out.alloc (Nat.le_refl _) _).tn t8 (fun _ ad e => (HSN.out ad e).1)).more (by omega)
          obtain ⟨dq10, t10⟩ := dq8.put (c' := c2) sm8 ss8 (fun ad e => (HVC.out.fm ad (HMA.out ▸ e)).2.2.2) (fun ad e => (HSN.out ad e).2.2.2)
          have hq9 := HVC.out.dq.lt
          have kg9 : g8 = g ∨ w7.heap.size < g8 := by
            rcases kg8 with h9 | h9
            · exact .inl h9
            · simp at h9; exact .inr (by omega)
          have hqg : q ≠ g8 := by
            rcases kg9 with h9 | h9
            · rw [h9]; exact HVC.out.ne.2.2
            · omega
          have hg9 : w.heap.size ≤ g8 := by
            have := HVC.out.bl.size
            rcases kg9 with h9 | h9
            · rw [h9]; exact HVC.out.k.2.2.1
            · omega
          have ct10 := ct8.tn t10 (fun e => HVC.out.ne.1 e.symm) (fun e => HVC.out.ne.2.1 e.symm) (fun e => hqg e.symm)
          have q0 := dq8.x0
          have q1 := dq8.x1
          have q2 := dq8.x2
          have q3 := dq8.x3
          have qf := dq8.fr
          have hqz : q ≠ w7.heap.size := by omega
          have hqz2 : w7.heap.size ≠ q := by omega
          have hqw : q < w8.heap.size := by omega
          have bl10 : Below w.heap.size w _ := (HVC.out.bl.trans (T08.below HVC.out.bl.size (fun k _ e => by have := HVC.out.k; omega))).trans (t10.below (Nat.le_trans HVC.out.bl.size T08.size) (fun k _ e => by have := HVC.out.k; omega))
          have HVZ : Hid (Vz w _ b q h g8 mc sc8 mA2 n2 sA2 k2 c2) := Lib.hid ⟨ct10, dq10, HCK.out, bl10, ⟨HVC.out.k.1, HVC.out.k.2.1, hg9, HVC.out.k.2.2.2⟩, ⟨HVC.out.ne.1, HVC.out.ne.2.1, hqg⟩,
            (fun ad e => by
              have h1 := HVC.out.fm ad (HMA.out ▸ e)
              have h2 := HLM.out ad (HMA.out ▸ e)
              refine ⟨h1.1, h1.2.1, ?_, h1.2.2.2⟩
              rcases kg9 with h9 | h9
              · rw [h9]; exact h1.2.2.1
              · omega),
            (fun ad e => by
              have h1 := HSN.out ad e
              have h2 := HLE.out ad e
              refine ⟨h1.1, h1.2.1, ?_, h1.2.2.2⟩
              rcases kg9 with h9 | h9
              · rw [h9]; exact h1.2.2.1
              · omega)⟩
          have dr : (r != r) = false := by simp
          clear ct8 ct10 dq8 dq10 sm8 ss8 bl10 T08 t8 t10
          go_upto_region 34 with fail
          clear q0 q1 q2 q3 qf u0 u1 u2 u3
          generalize ((((w8.setCell ⟨q, 0, none⟩ (.int .i64 c2.e)).setCell ⟨q, 1, none⟩ (.int .i64 c2.p)).setCell ⟨q, 2, none⟩ (.slice mA2 c2.ms.length n2)).setCell ⟨q, 3, none⟩ (.slice sA2 c2.sf.length k2)) = W11 at *
          have HOK : Hid (rightV c2.e c2.p c2.ms = true) := Lib.hid (rightV_iff.2 ⟨HVZ.out.ok.e1, HVZ.out.ok.e2, HVZ.out.ok.ms, HVZ.out.ok.pm⟩)
          have HML : Hid (c2.ms.length * 8 ≤ 140737488355328) := Lib.hid (by have := mems_len HVZ.out.ok.ms; omega)
          have HSL : Hid (c2.sf.length * 8 ≤ 140737488355328) := Lib.hid (by have := HVZ.out.ok.len; omega)
          apply region_V (HV W11.heap.size) (Below W11.heap.size W11) [.v (.pointer (some ⟨b, 0, none⟩)), .b c2.e c2.p c2.ms, .b c2.e c2.p c2.ms, .v (.pointer (some ⟨q, 0, none⟩)), .v (.agg #[.int .i64 c2.e, .int .i64 c2.p, .slice mA2 c2.ms.length n2]), .v (.bool true), .v (.bool false), .v (.bool false), .v (.pointer (some ⟨b, 0, none⟩)), .s c2.sf, .v (.pointer (some ⟨q, 3, none⟩)), .v (.slice sA2 c2.sf.length k2), .v (.bool true), .v (.bool false), .v (.bool false), .v (.bool false), .v (.pointer (some ⟨b, 0, none⟩)), .b c2.e c2.p c2.ms, .v (.bool true), .v (.pointer (some ⟨q, 0, none⟩)), .v (.agg #[.int .i64 c2.e, .int .i64 c2.p, .slice mA2 c2.ms.length n2]), .v (.bool true), .v (.bool false), .v (.bool false)] (.v undef)
          case mono => exact fun p v w0 w1 h hb => HV.mono h hb
          case hm => kernel_rfl
          case hf => kernel_rfl
          case hQ => exact (by intro c x y w e h; exact And.intro (e.symm.trans (And.left h)) (And.right h))
          case hF => intro vs; simp only [putAll, Act.put, List.setIfInBounds_toArray, List.set_cons_zero, List.set_cons_succ, Nat.reduceAdd]; rfl
          case h0 => exact ⟨rfl, rfl, rfl, Nat.le_refl _, fun _ _ => rfl⟩
          case hstep =>
            repeat' (first | exact AllOps.nil | apply AllOps.cons)
            · intro vs wx hG hd K hK
              replace hK : ∀ (uu : Value) (w' : World), Below wx.heap.size wx w' → ((Below W11.heap.size W11)) w' → (HV W11.heap.size) (.v (.pointer (some ⟨b, 0, none⟩))) uu w' → K _ w' := hK
              simp only [Act.put, List.setIfInBounds_toArray, List.set_cons_zero, List.set_cons_succ] at hK ⊢
              have HK := Lib.hid hK
              have HG := Lib.hid hG
              clear hK hd
              clear hG
              go_simp
              exact HK.out _ _ (Below.refl _ _) HG.out rfl
            · intro vs wx hG hd K hK
              have e0 : vs 0 = .pointer (some ⟨b, 0, none⟩) := hd.get (j := 0) (by simp [depsOf, Region.binds])
              replace hK : ∀ (uu : Value) (w' : World), Below wx.heap.size wx w' → ((Below W11.heap.size W11)) w' → (HV W11.heap.size) (.b c2.e c2.p c2.ms) uu w' → K _ w' := hK
              simp only [Act.put, List.setIfInBounds_toArray, List.set_cons_zero, List.set_cons_succ, e0] at hK ⊢
              have HK := Lib.hid hK
              have HG := Lib.hid hG
              clear hK hd e0
              clear hG
              go_simp
              go_at_call 16
              refine (now_any (HVZ.out.ct.below HG.out) HML.out).mono ?_
              rintro e w9 ⟨A9, c9, rfl, h9, hb⟩
              exact HK.out _ _ hb (HG.out.trans (hb.mono HG.out.size)) ⟨A9, c9, rfl, h9.more HG.out.size⟩
            · intro vs wx hG hd K hK
              obtain ⟨A1, d1, e1, r1⟩ : ∃ A' c', vs 1 = .agg #[.int .i64 c2.e, .int .i64 c2.p, .slice A' c2.ms.length c'] ∧ So encI 1 wx W11.heap.size 3 (.slice A' c2.ms.length c') c2.ms := hd.get (j := 1) (by simp [depsOf, Region.binds])
              replace hK : ∀ (uu : Value) (w' : World), Below wx.heap.size wx w' → ((Below W11.heap.size W11)) w' → (HV W11.heap.size) (.b c2.e c2.p c2.ms) uu w' → K _ w' := hK
              simp only [Act.put, List.setIfInBounds_toArray, List.set_cons_zero, List.set_cons_succ, e1] at hK ⊢
              have HK := Lib.hid hK
              have HG := Lib.hid hG
              clear hK hd e1
              clear hG
              go_simp
              go_at_call 13
              refine (from_any _ _ _ _ _ wx).mono ?_
              rintro e w9 ⟨rfl, hb⟩
              exact HK.out _ _ hb (HG.out.trans (hb.mono HG.out.size)) ⟨A1, d1, rfl, r1.below hb⟩
            · intro vs wx hG hd K hK
              replace hK : ∀ (uu : Value) (w' : World), Below wx.heap.size wx w' → ((Below W11.heap.size W11)) w' → (HV W11.heap.size) (.v (.pointer (some ⟨q, 0, none⟩))) uu w' → K _ w' := hK
              simp only [Act.put, List.setIfInBounds_toArray, List.set_cons_zero, List.set_cons_succ] at hK ⊢
              have HK := Lib.hid hK
              have HG := Lib.hid hG
              clear hK hd
              clear hG
              go_simp
              exact HK.out _ _ (Below.refl _ _) HG.out rfl
            · intro vs wx hG hd K hK
              have e3 : vs 3 = .pointer (some ⟨q, 0, none⟩) := hd.get (j := 3) (by simp [depsOf, Region.binds])
              replace hK : ∀ (uu : Value) (w' : World), Below wx.heap.size wx w' → ((Below W11.heap.size W11)) w' → (HV W11.heap.size) (.v (.agg #[.int .i64 c2.e, .int .i64 c2.p, .slice mA2 c2.ms.length n2])) uu w' → K _ w' := hK
              simp only [Act.put, List.setIfInBounds_toArray, List.set_cons_zero, List.set_cons_succ, e3] at hK ⊢
              have HK := Lib.hid hK
              have HG := Lib.hid hG
              clear hK hd e3
              have h0 := HG.out.cell (p := ⟨q, 0, none⟩) HVZ.out.dq.lt
              rw [HVZ.out.dq.x0] at h0
              have h1 := HG.out.cell (p := ⟨q, 1, none⟩) HVZ.out.dq.lt
              rw [HVZ.out.dq.x1] at h1
              have h2 := HG.out.cell (p := ⟨q, 2, none⟩) HVZ.out.dq.lt
              rw [HVZ.out.dq.x2] at h2
              have h3 := HG.out.cell (p := ⟨q, 3, none⟩) HVZ.out.dq.lt
              rw [HVZ.out.dq.x3] at h3
              clear hG
              go_simp
              exact HK.out _ _ (Below.refl _ _) HG.out rfl
            · intro vs wx hG hd K hK
              obtain ⟨A2, d2, e2, r2⟩ : ∃ A' c', vs 2 = .agg #[.int .i64 c2.e, .int .i64 c2.p, .slice A' c2.ms.length c'] ∧ So encI 1 wx W11.heap.size 3 (.slice A' c2.ms.length c') c2.ms := hd.get (j := 2) (by simp [depsOf, Region.binds])
              have e4 : vs 4 = .agg #[.int .i64 c2.e, .int .i64 c2.p, .slice mA2 c2.ms.length n2] := hd.get (j := 4) (by simp [depsOf, Region.binds])
              replace hK : ∀ (uu : Value) (w' : World), Below wx.heap.size wx w' → ((Below W11.heap.size W11)) w' → (HV W11.heap.size) (.v (.bool true)) uu w' → K _ w' := hK
              simp only [Act.put, List.setIfInBounds_toArray, List.set_cons_zero, List.set_cons_succ, e2, e4] at hK ⊢
              have HK := Lib.hid hK
              have HG := Lib.hid hG
              clear hK hd e2 e4
              clear hG
              go_simp
              go_at_call 12
              refine (same_any c2.e c2.p (r2.sr encI_len).1 (HVZ.out.dq.sm.below HG.out) (Nat.le_refl _) HG.out.size).mono ?_
              rintro e w9 ⟨rfl, hb⟩
              exact HK.out _ _ hb (HG.out.trans (hb.mono HG.out.size)) rfl
            · intro vs wx hG hd K hK
              have e5 : vs 5 = .bool true := hd.get (j := 5) (by simp [depsOf, Region.binds])
              replace hK : ∀ (uu : Value) (w' : World), Below wx.heap.size wx w' → ((Below W11.heap.size W11)) w' → (HV W11.heap.size) (.v (.bool false)) uu w' → K _ w' := hK
              simp only [Act.put, List.setIfInBounds_toArray, List.set_cons_zero, List.set_cons_succ, e5] at hK ⊢
              have HK := Lib.hid hK
              have HG := Lib.hid hG
              clear hK hd e5
              clear hG
              go_simp
              exact HK.out _ _ (Below.refl _ _) HG.out rfl
            · intro vs wx hG hd K hK
              have e6 : vs 6 = .bool false := hd.get (j := 6) (by simp [depsOf, Region.binds])
              replace hK : ∀ (uu : Value) (w' : World), Below wx.heap.size wx w' → ((Below W11.heap.size W11)) w' → (HV W11.heap.size) (.v (.bool false)) uu w' → K _ w' := hK
              simp only [Act.put, List.setIfInBounds_toArray, List.set_cons_zero, List.set_cons_succ, e6] at hK ⊢
              have HK := Lib.hid hK
              have HG := Lib.hid hG
              clear hK hd e6
              clear hG
              go_simp
              exact HK.out _ _ (Below.refl _ _) HG.out rfl
            · intro vs wx hG hd K hK
              have e7 : vs 7 = .bool false := hd.get (j := 7) (by simp [depsOf, Region.binds])
              replace hK : ∀ (uu : Value) (w' : World), Below wx.heap.size wx w' → ((Below W11.heap.size W11)) w' → (HV W11.heap.size) (.v (.pointer (some ⟨b, 0, none⟩))) uu w' → K _ w' := hK
              simp only [Act.put, List.setIfInBounds_toArray, List.set_cons_zero, List.set_cons_succ, e7] at hK ⊢
              have HK := Lib.hid hK
              have HG := Lib.hid hG
              clear hK hd e7
              clear hG
              go_simp
              exact HK.out _ _ (Below.refl _ _) HG.out rfl
            · intro vs wx hG hd K hK
              have e7 : vs 7 = .bool false := hd.get (j := 7) (by simp [depsOf, Region.binds])
              have e8 : vs 8 = .pointer (some ⟨b, 0, none⟩) := hd.get (j := 8) (by simp [depsOf, Region.binds])
              replace hK : ∀ (uu : Value) (w' : World), Below wx.heap.size wx w' → ((Below W11.heap.size W11)) w' → (HV W11.heap.size) (.s c2.sf) uu w' → K _ w' := hK
              simp only [Act.put, List.setIfInBounds_toArray, List.set_cons_zero, List.set_cons_succ, e7, e8] at hK ⊢
              have HK := Lib.hid hK
              have HG := Lib.hid hG
              clear hK hd e7 e8
              clear hG
              go_simp
              go_at_call 18
              refine (safe_any (HVZ.out.ct.below HG.out) HSL.out).mono ?_
              rintro e w9 ⟨A9, c9, rfl, h9, hb⟩
              exact HK.out _ _ hb (HG.out.trans (hb.mono HG.out.size)) ⟨A9, c9, rfl, h9.more HG.out.size⟩
            · intro vs wx hG hd K hK
              have e7 : vs 7 = .bool false := hd.get (j := 7) (by simp [depsOf, Region.binds])
              replace hK : ∀ (uu : Value) (w' : World), Below wx.heap.size wx w' → ((Below W11.heap.size W11)) w' → (HV W11.heap.size) (.v (.pointer (some ⟨q, 3, none⟩))) uu w' → K _ w' := hK
              simp only [Act.put, List.setIfInBounds_toArray, List.set_cons_zero, List.set_cons_succ, e7] at hK ⊢
              have HK := Lib.hid hK
              have HG := Lib.hid hG
              clear hK hd e7
              clear hG
              go_simp
              exact HK.out _ _ (Below.refl _ _) HG.out rfl
            · intro vs wx hG hd K hK
              have e7 : vs 7 = .bool false := hd.get (j := 7) (by simp [depsOf, Region.binds])
              have e10 : vs 10 = .pointer (some ⟨q, 3, none⟩) := hd.get (j := 10) (by simp [depsOf, Region.binds])
              replace hK : ∀ (uu : Value) (w' : World), Below wx.heap.size wx w' → ((Below W11.heap.size W11)) w' → (HV W11.heap.size) (.v (.slice sA2 c2.sf.length k2)) uu w' → K _ w' := hK
              simp only [Act.put, List.setIfInBounds_toArray, List.set_cons_zero, List.set_cons_succ, e7, e10] at hK ⊢
              have HK := Lib.hid hK
              have HG := Lib.hid hG
              clear hK hd e7 e10
              have h0 := HG.out.cell (p := ⟨q, 0, none⟩) HVZ.out.dq.lt
              rw [HVZ.out.dq.x0] at h0
              have h1 := HG.out.cell (p := ⟨q, 1, none⟩) HVZ.out.dq.lt
              rw [HVZ.out.dq.x1] at h1
              have h2 := HG.out.cell (p := ⟨q, 2, none⟩) HVZ.out.dq.lt
              rw [HVZ.out.dq.x2] at h2
              have h3 := HG.out.cell (p := ⟨q, 3, none⟩) HVZ.out.dq.lt
              rw [HVZ.out.dq.x3] at h3
              clear hG
              go_simp
              exact HK.out _ _ (Below.refl _ _) HG.out rfl
            · intro vs wx hG hd K hK
              have e7 : vs 7 = .bool false := hd.get (j := 7) (by simp [depsOf, Region.binds])
              obtain ⟨A9, d9, e9, r9⟩ : ∃ A' c', vs 9 = .slice A' c2.sf.length c' ∧ So encI 1 wx W11.heap.size 3 (.slice A' c2.sf.length c') c2.sf := hd.get (j := 9) (by simp [depsOf, Region.binds])
              have e11 : vs 11 = .slice sA2 c2.sf.length k2 := hd.get (j := 11) (by simp [depsOf, Region.binds])
              replace hK : ∀ (uu : Value) (w' : World), Below wx.heap.size wx w' → ((Below W11.heap.size W11)) w' → (HV W11.heap.size) (.v (.bool true)) uu w' → K _ w' := hK
              simp only [Act.put, List.setIfInBounds_toArray, List.set_cons_zero, List.set_cons_succ, e7, e9, e11] at hK ⊢
              have HK := Lib.hid hK
              have HG := Lib.hid hG
              clear hK hd e7 e9 e11
              clear hG
              go_simp
              go_at_call 17
              refine (samelist_any rfl (r9.sr encI_len).1 (HVZ.out.dq.ss.below HG.out)).mono ?_
              rintro e w9 ⟨rfl, hb⟩
              exact HK.out _ _ hb (HG.out.trans (hb.mono HG.out.size)) rfl
            · intro vs wx hG hd K hK
              have e7 : vs 7 = .bool false := hd.get (j := 7) (by simp [depsOf, Region.binds])
              have e12 : vs 12 = .bool true := hd.get (j := 12) (by simp [depsOf, Region.binds])
              replace hK : ∀ (uu : Value) (w' : World), Below wx.heap.size wx w' → ((Below W11.heap.size W11)) w' → (HV W11.heap.size) (.v (.bool false)) uu w' → K _ w' := hK
              simp only [Act.put, List.setIfInBounds_toArray, List.set_cons_zero, List.set_cons_succ, e7, e12] at hK ⊢
              have HK := Lib.hid hK
              have HG := Lib.hid hG
              clear hK hd e7 e12
              clear hG
              go_simp
              exact HK.out _ _ (Below.refl _ _) HG.out rfl
            · intro vs wx hG hd K hK
              have e7 : vs 7 = .bool false := hd.get (j := 7) (by simp [depsOf, Region.binds])
              have e13 : vs 13 = .bool false := hd.get (j := 13) (by simp [depsOf, Region.binds])
              replace hK : ∀ (uu : Value) (w' : World), Below wx.heap.size wx w' → ((Below W11.heap.size W11)) w' → (HV W11.heap.size) (.v (.bool false)) uu w' → K _ w' := hK
              simp only [Act.put, List.setIfInBounds_toArray, List.set_cons_zero, List.set_cons_succ, e7, e13] at hK ⊢
              have HK := Lib.hid hK
              have HG := Lib.hid hG
              clear hK hd e7 e13
              clear hG
              go_simp
              exact HK.out _ _ (Below.refl _ _) HG.out rfl
            · intro vs wx hG hd K hK
              have e14 : vs 14 = .bool false := hd.get (j := 14) (by simp [depsOf, Region.binds])
              replace hK : ∀ (uu : Value) (w' : World), Below wx.heap.size wx w' → ((Below W11.heap.size W11)) w' → (HV W11.heap.size) (.v (.bool false)) uu w' → K _ w' := hK
              simp only [Act.put, List.setIfInBounds_toArray, List.set_cons_zero, List.set_cons_succ, e14] at hK ⊢
              have HK := Lib.hid hK
              have HG := Lib.hid hG
              clear hK hd e14
              clear hG
              go_simp
              exact HK.out _ _ (Below.refl _ _) HG.out rfl
            · intro vs wx hG hd K hK
              have e15 : vs 15 = .bool false := hd.get (j := 15) (by simp [depsOf, Region.binds])
              replace hK : ∀ (uu : Value) (w' : World), Below wx.heap.size wx w' → ((Below W11.heap.size W11)) w' → (HV W11.heap.size) (.v (.pointer (some ⟨b, 0, none⟩))) uu w' → K _ w' := hK
              simp only [Act.put, List.setIfInBounds_toArray, List.set_cons_zero, List.set_cons_succ, e15] at hK ⊢
              have HK := Lib.hid hK
              have HG := Lib.hid hG
              clear hK hd e15
              clear hG
              go_simp
              exact HK.out _ _ (Below.refl _ _) HG.out rfl
            · intro vs wx hG hd K hK
              have e15 : vs 15 = .bool false := hd.get (j := 15) (by simp [depsOf, Region.binds])
              have e16 : vs 16 = .pointer (some ⟨b, 0, none⟩) := hd.get (j := 16) (by simp [depsOf, Region.binds])
              replace hK : ∀ (uu : Value) (w' : World), Below wx.heap.size wx w' → ((Below W11.heap.size W11)) w' → (HV W11.heap.size) (.b c2.e c2.p c2.ms) uu w' → K _ w' := hK
              simp only [Act.put, List.setIfInBounds_toArray, List.set_cons_zero, List.set_cons_succ, e15, e16] at hK ⊢
              have HK := Lib.hid hK
              have HG := Lib.hid hG
              clear hK hd e15 e16
              clear hG
              go_simp
              go_at_call 16
              refine (now_any (HVZ.out.ct.below HG.out) HML.out).mono ?_
              rintro e w9 ⟨A9, c9, rfl, h9, hb⟩
              exact HK.out _ _ hb (HG.out.trans (hb.mono HG.out.size)) ⟨A9, c9, rfl, h9.more HG.out.size⟩
            · intro vs wx hG hd K hK
              have e15 : vs 15 = .bool false := hd.get (j := 15) (by simp [depsOf, Region.binds])
              obtain ⟨A17, d17, e17, r17⟩ : ∃ A' c', vs 17 = .agg #[.int .i64 c2.e, .int .i64 c2.p, .slice A' c2.ms.length c'] ∧ So encI 1 wx W11.heap.size 3 (.slice A' c2.ms.length c') c2.ms := hd.get (j := 17) (by simp [depsOf, Region.binds])
              replace hK : ∀ (uu : Value) (w' : World), Below wx.heap.size wx w' → ((Below W11.heap.size W11)) w' → (HV W11.heap.size) (.v (.bool true)) uu w' → K _ w' := hK
              simp only [Act.put, List.setIfInBounds_toArray, List.set_cons_zero, List.set_cons_succ, e15, e17] at hK ⊢
              have HK := Lib.hid hK
              have HG := Lib.hid hG
              clear hK hd e15 e17
              clear hG
              go_simp
              go_at_call 19
              refine (vright_any c2.e c2.p wx.heap.size A17 _ d17 c2.ms wx rfl (r17.sr encI_len).1 (Nat.le_refl _)).mono ?_
              rintro e w9 ⟨rfl, hb⟩
              exact HK.out _ _ hb (HG.out.trans (hb.mono HG.out.size)) (by rw [HOK.out]; rfl)
            · intro vs wx hG hd K hK
              have e15 : vs 15 = .bool false := hd.get (j := 15) (by simp [depsOf, Region.binds])
              replace hK : ∀ (uu : Value) (w' : World), Below wx.heap.size wx w' → ((Below W11.heap.size W11)) w' → (HV W11.heap.size) (.v (.pointer (some ⟨q, 0, none⟩))) uu w' → K _ w' := hK
              simp only [Act.put, List.setIfInBounds_toArray, List.set_cons_zero, List.set_cons_succ, e15] at hK ⊢
              have HK := Lib.hid hK
              have HG := Lib.hid hG
              clear hK hd e15
              clear hG
              go_simp
              exact HK.out _ _ (Below.refl _ _) HG.out rfl
            · intro vs wx hG hd K hK
              have e15 : vs 15 = .bool false := hd.get (j := 15) (by simp [depsOf, Region.binds])
              have e19 : vs 19 = .pointer (some ⟨q, 0, none⟩) := hd.get (j := 19) (by simp [depsOf, Region.binds])
              replace hK : ∀ (uu : Value) (w' : World), Below wx.heap.size wx w' → ((Below W11.heap.size W11)) w' → (HV W11.heap.size) (.v (.agg #[.int .i64 c2.e, .int .i64 c2.p, .slice mA2 c2.ms.length n2])) uu w' → K _ w' := hK
              simp only [Act.put, List.setIfInBounds_toArray, List.set_cons_zero, List.set_cons_succ, e15, e19] at hK ⊢
              have HK := Lib.hid hK
              have HG := Lib.hid hG
              clear hK hd e15 e19
              have h0 := HG.out.cell (p := ⟨q, 0, none⟩) HVZ.out.dq.lt
              rw [HVZ.out.dq.x0] at h0
              have h1 := HG.out.cell (p := ⟨q, 1, none⟩) HVZ.out.dq.lt
              rw [HVZ.out.dq.x1] at h1
              have h2 := HG.out.cell (p := ⟨q, 2, none⟩) HVZ.out.dq.lt
              rw [HVZ.out.dq.x2] at h2
              have h3 := HG.out.cell (p := ⟨q, 3, none⟩) HVZ.out.dq.lt
              rw [HVZ.out.dq.x3] at h3
              clear hG
              go_simp
              exact HK.out _ _ (Below.refl _ _) HG.out rfl
            · intro vs wx hG hd K hK
              have e15 : vs 15 = .bool false := hd.get (j := 15) (by simp [depsOf, Region.binds])
              have e20 : vs 20 = .agg #[.int .i64 c2.e, .int .i64 c2.p, .slice mA2 c2.ms.length n2] := hd.get (j := 20) (by simp [depsOf, Region.binds])
              replace hK : ∀ (uu : Value) (w' : World), Below wx.heap.size wx w' → ((Below W11.heap.size W11)) w' → (HV W11.heap.size) (.v (.bool true)) uu w' → K _ w' := hK
              simp only [Act.put, List.setIfInBounds_toArray, List.set_cons_zero, List.set_cons_succ, e15, e20] at hK ⊢
              have HK := Lib.hid hK
              have HG := Lib.hid hG
              clear hK hd e15 e20
              clear hG
              go_simp
              go_at_call 20
              refine (rright_any c2.e c2.p W11.heap.size mA2 _ n2 c2.ms wx rfl (HVZ.out.dq.sm.below HG.out) HG.out.size).mono ?_
              rintro e w9 ⟨rfl, hb⟩
              exact HK.out _ _ hb (HG.out.trans (hb.mono HG.out.size)) (by rw [HOK.out]; rfl)
            · intro vs wx hG hd K hK
              have e15 : vs 15 = .bool false := hd.get (j := 15) (by simp [depsOf, Region.binds])
              have e18 : vs 18 = .bool true := hd.get (j := 18) (by simp [depsOf, Region.binds])
              have e21 : vs 21 = .bool true := hd.get (j := 21) (by simp [depsOf, Region.binds])
              replace hK : ∀ (uu : Value) (w' : World), Below wx.heap.size wx w' → ((Below W11.heap.size W11)) w' → (HV W11.heap.size) (.v (.bool false)) uu w' → K _ w' := hK
              simp only [Act.put, List.setIfInBounds_toArray, List.set_cons_zero, List.set_cons_succ, e15, e18, e21] at hK ⊢
              have HK := Lib.hid hK
              have HG := Lib.hid hG
              clear hK hd e15 e18 e21
              clear hG
              go_simp
              exact HK.out _ _ (Below.refl _ _) HG.out rfl
            · intro vs wx hG hd K hK
              have e15 : vs 15 = .bool false := hd.get (j := 15) (by simp [depsOf, Region.binds])
              have e22 : vs 22 = .bool false := hd.get (j := 22) (by simp [depsOf, Region.binds])
              replace hK : ∀ (uu : Value) (w' : World), Below wx.heap.size wx w' → ((Below W11.heap.size W11)) w' → (HV W11.heap.size) (.v (.bool false)) uu w' → K _ w' := hK
              simp only [Act.put, List.setIfInBounds_toArray, List.set_cons_zero, List.set_cons_succ, e15, e22] at hK ⊢
              have HK := Lib.hid hK
              have HG := Lib.hid hG
              clear hK hd e15 e22
              clear hG
              go_simp
              exact HK.out _ _ (Below.refl _ _) HG.out rfl
          case hend =>
            intro vs W12 hG hv
            have e23 : vs 23 = .bool false := hv 23 (by decide)
            have HV12 := Lib.hid (HVZ.out.below hG)
            clear hG hv
            simp only [e23]
            go_wp2_with fail
            go_roundw
            case rel => exact ⟨i + 1, c2, _, _, _, _, _, _, _, _, by omega, by go_num, HV12.out⟩
            case measure => simp [intOf]; omega

      · obtain rfl : i = os.length := by omega
        go_wp2
        go_ret
        exact ⟨rfl, HVC.out.bl⟩
end Go.Proofs.Ytcgkbpjfbahleaa
