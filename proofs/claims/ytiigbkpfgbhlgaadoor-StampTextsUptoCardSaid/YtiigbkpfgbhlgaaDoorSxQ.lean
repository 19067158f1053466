/- stamp.Parse: the walk where there are three words. -/
import Derived.Test.YtiigbkpfgbhlgaaDoorSxV
namespace Go.Proofs.YtiigbkpfgbhlgaaDoor
open Go.RowKit

set_option maxRecDepth 100000 in
set_option maxHeartbeats 6400000 in
theorem parse_any (t : ByteArray) (w : World) (hs : t.size ≤ 1048576) (hm : MxS w) (he : Errs w) (hpw : Pow w) :
    Calls Tryd.prog 6 #[.string t] w (ParsePost w t.data.toList) := by
  by_cases h3 : (wordsB t).length = 3
  case neg => exact parse_words t w hs hm h3
  obtain ⟨s, hw⟩ := three_of h3
  have HW := Lib.hid hw
  have HC : Hid (∀ i, i < 3 → (wordsB t)[i]? = some (s i)) := Lib.hid fun i hi => by
    rw [HW.out]
    rcases (show i = 0 ∨ i = 1 ∨ i = 2 by omega) with rfl | rfl | rfl <;> rfl
  have HZ : Hid (∀ i, i < 3 → (s i).size ≤ 281474976710656) := Lib.hid fun i hi => by
    have := words_size t t.size (min 4 (t.size + 1) - 1) t (Nat.le_refl _) (s i) (List.mem_of_getElem? (HC.out i hi))
    omega
  have HSP := Lib.hid fun W hM => splitN_any t W hs hM
  rw [h3] at HSP
  clear h3 hw hs
  go_enter Tryd.func6, Tryd.ntmps6
  go_wp2_with (go_at_call 14; refine (HSP.out _ (hm.below (by go_grown))).mono ?_; rintro e w2 ⟨N, rfl, hb2, z2, hN, hN4, hc2⟩; have B2 : Below w.heap.size w w2 := via hb2 (by go_grown) (by go_size); have J0 : PW w 0 0 0 s w2 := ⟨B2, (by simp at z2; omega), kept hb2 (by simp), kept hb2 (by simp), kept hb2 (by simp), fun i => keptF hb2 (by simp; omega) (by simp), kept hb2 (by simp), kept hb2 (by simp), kept hb2 (by simp), fun i => keptF hb2 (by simp) (by simp), fun i hi => (by have := hc2 i (s i) (HC.out i hi); simpa using this)⟩)
  clear hb2 z2 hN hc2 B2
  go_loopw [19] (fun i wr => ∃ (k : Nat) (x0 x1 x2 : Int), k ≤ 3 ∧ i = .int .i64 k ∧ PW w x0 x1 x2 s wr ∧ Hid ((0 < k → Lib.parseIntB 64 (s 0).data.toList = .ok x0) ∧ (1 < k → Lib.parseIntB 64 (s 1).data.toList = .ok x1) ∧ (2 < k → Lib.parseIntB 64 (s 2).data.toList = .ok x2))) (fun i _ => 3 - (intOf i).toNat)
  case atStart => exact ⟨0, 0, 0, 0, by omega, rfl, J0, Lib.hid ⟨fun h => absurd h (by omega), fun h => absurd h (by omega), fun h => absurd h (by omega)⟩⟩
  case round =>
    obtain ⟨k, x0, x1, x2, hk, rfl, J, HX⟩ := hrel
    clear J0
    rcases (show k = 0 ∨ k = 1 ∨ k = 2 ∨ k = 3 by omega) with rfl | rfl | rfl | rfl
    · have cw := J.c 0 (by omega)
      have r0 := J.r0
      have r1 := J.r1
      have r2 := J.r2
      have rf0 := J.rf 0
      have rf1 := J.rf 1
      have rf2 := J.rf 2
      have p0 := J.p0
      have p1 := J.p1
      have p2 := J.p2
      have bl := J.bl
      have sz := J.sz
      have hs0 : w.heap.size < wr.heap.size := by omega
      have hs1 : w.heap.size + 1 < wr.heap.size := by omega
      have hs2 : w.heap.size + 2 < wr.heap.size := by omega
      by_cases hp : ∃ v, Lib.parseIntB 64 (s 0).data.toList = .ok v
      · obtain ⟨v, hv⟩ := hp
        have HV := Lib.hid hv
        clear hv
        go_wp2_with (go_at_call 15; refine (parseInt_ok (s 0) _ (HZ.out 0 (by omega)) (he.below bl) v HV.out).mono ?_; rintro e w3 ⟨rfl, hb3⟩; have J3 := J.below hb3; have q0 := J3.p0; have g0 := J3.pf 0; have z3 := hb3.size)
        go_roundw
        case rel => exact ⟨1, v, x1, x2, by omega, rfl, J3.set0 v, Lib.hid ⟨fun _ => HV.out, fun h => absurd h (by omega), fun h => absurd h (by omega)⟩⟩
        case measure => simp [intOf]
      · have hn : ∀ v, Lib.parseIntB 64 (s 0).data.toList ≠ .ok v := fun v hv => hp ⟨v, hv⟩
        have HF : Hid (∀ w', Below w.heap.size w w' → ParsePost w t.data.toList (.returned (.tuple #[stv 0 0 0, .int .i64 10])) w') := Lib.hid fun w' hb => ⟨hb, .inr ⟨none_word HW.out (i := 0) (by omega) hn, rfl⟩⟩
        have HN := Lib.hid hn
        clear hn hp
        go_wp2_with (go_at_call 15; refine (parseInt_bad (s 0) _ (HZ.out 0 (by omega)) (he.below bl) HN.out).mono ?_; rintro e w3 ⟨v, N', rfl, hb3⟩; have J3 := J.below hb3; have R0 := J3.r0; have R1 := J3.r1; have R2 := J3.r2; have F0 := J3.rf 0; have F1 := J3.rf 1; have F2 := J3.rf 2; have B3 := J3.bl; have z3 := hb3.size; obtain ⟨t0, t1, t2⟩ := three R0 R1 R2)
        exact bodyPost_ret (v := .tuple #[stv 0 0 0, .int .i64 10]) (by simp [results, Tryd.results6, go_sem, t0, t1, t2]) rfl (HF.out _ (by go_grown))
    · have cw := J.c 1 (by omega)
      have r0 := J.r0
      have r1 := J.r1
      have r2 := J.r2
      have rf0 := J.rf 0
      have rf1 := J.rf 1
      have rf2 := J.rf 2
      have p0 := J.p0
      have p1 := J.p1
      have p2 := J.p2
      have bl := J.bl
      have sz := J.sz
      have hs0 : w.heap.size < wr.heap.size := by omega
      have hs1 : w.heap.size + 1 < wr.heap.size := by omega
      have hs2 : w.heap.size + 2 < wr.heap.size := by omega
      by_cases hp : ∃ v, Lib.parseIntB 64 (s 1).data.toList = .ok v
      · obtain ⟨v, hv⟩ := hp
        have HV := Lib.hid hv
        clear hv
        go_wp2_with (go_at_call 15; refine (parseInt_ok (s 1) _ (HZ.out 1 (by omega)) (he.below bl) v HV.out).mono ?_; rintro e w3 ⟨rfl, hb3⟩; have J3 := J.below hb3; have q1 := J3.p1; have g1 := J3.pf 1; have z3 := hb3.size)
        go_roundw
        case rel => exact ⟨2, x0, v, x2, by omega, rfl, J3.set1 v, Lib.hid ⟨fun _ => HX.out.1 (by omega), fun _ => HV.out, fun h => absurd h (by omega)⟩⟩
        case measure => simp [intOf]
      · have hn : ∀ v, Lib.parseIntB 64 (s 1).data.toList ≠ .ok v := fun v hv => hp ⟨v, hv⟩
        have HF : Hid (∀ w', Below w.heap.size w w' → ParsePost w t.data.toList (.returned (.tuple #[stv 0 0 0, .int .i64 10])) w') := Lib.hid fun w' hb => ⟨hb, .inr ⟨none_word HW.out (i := 1) (by omega) hn, rfl⟩⟩
        have HN := Lib.hid hn
        clear hn hp
        go_wp2_with (go_at_call 15; refine (parseInt_bad (s 1) _ (HZ.out 1 (by omega)) (he.below bl) HN.out).mono ?_; rintro e w3 ⟨v, N', rfl, hb3⟩; have J3 := J.below hb3; have R0 := J3.r0; have R1 := J3.r1; have R2 := J3.r2; have F0 := J3.rf 0; have F1 := J3.rf 1; have F2 := J3.rf 2; have B3 := J3.bl; have z3 := hb3.size; obtain ⟨t0, t1, t2⟩ := three R0 R1 R2)
        exact bodyPost_ret (v := .tuple #[stv 0 0 0, .int .i64 10]) (by simp [results, Tryd.results6, go_sem, t0, t1, t2]) rfl (HF.out _ (by go_grown))
    · have cw := J.c 2 (by omega)
      have r0 := J.r0
      have r1 := J.r1
      have r2 := J.r2
      have rf0 := J.rf 0
      have rf1 := J.rf 1
      have rf2 := J.rf 2
      have p0 := J.p0
      have p1 := J.p1
      have p2 := J.p2
      have bl := J.bl
      have sz := J.sz
      have hs0 : w.heap.size < wr.heap.size := by omega
      have hs1 : w.heap.size + 1 < wr.heap.size := by omega
      have hs2 : w.heap.size + 2 < wr.heap.size := by omega
      by_cases hp : ∃ v, Lib.parseIntB 64 (s 2).data.toList = .ok v
      · obtain ⟨v, hv⟩ := hp
        have HV := Lib.hid hv
        clear hv
        go_wp2_with (go_at_call 15; refine (parseInt_ok (s 2) _ (HZ.out 2 (by omega)) (he.below bl) v HV.out).mono ?_; rintro e w3 ⟨rfl, hb3⟩; have J3 := J.below hb3; have q2 := J3.p2; have g2 := J3.pf 2; have z3 := hb3.size)
        go_roundw
        case rel => exact ⟨3, x0, x1, v, by omega, rfl, J3.set2 v, Lib.hid ⟨fun _ => HX.out.1 (by omega), fun _ => HX.out.2.1 (by omega), fun _ => HV.out⟩⟩
        case measure => simp [intOf]
      · have hn : ∀ v, Lib.parseIntB 64 (s 2).data.toList ≠ .ok v := fun v hv => hp ⟨v, hv⟩
        have HF : Hid (∀ w', Below w.heap.size w w' → ParsePost w t.data.toList (.returned (.tuple #[stv 0 0 0, .int .i64 10])) w') := Lib.hid fun w' hb => ⟨hb, .inr ⟨none_word HW.out (i := 2) (by omega) hn, rfl⟩⟩
        have HN := Lib.hid hn
        clear hn hp
        go_wp2_with (go_at_call 15; refine (parseInt_bad (s 2) _ (HZ.out 2 (by omega)) (he.below bl) HN.out).mono ?_; rintro e w3 ⟨v, N', rfl, hb3⟩; have J3 := J.below hb3; have R0 := J3.r0; have R1 := J3.r1; have R2 := J3.r2; have F0 := J3.rf 0; have F1 := J3.rf 1; have F2 := J3.rf 2; have B3 := J3.bl; have z3 := hb3.size; obtain ⟨t0, t1, t2⟩ := three R0 R1 R2)
        exact bodyPost_ret (v := .tuple #[stv 0 0 0, .int .i64 10]) (by simp [results, Tryd.results6, go_sem, t0, t1, t2]) rfl (HF.out _ (by go_grown))
    · obtain ⟨y, hy⟩ : ∃ y, y = x1 % 4294967296 := ⟨_, rfl⟩
      obtain ⟨z, hz⟩ : ∃ z, z = x2 % 4294967296 := ⟨_, rfl⟩
      have r0 := J.r0
      have r1 := J.r1
      have r2 := J.r2
      have rf0 := J.rf 0
      have rf1 := J.rf 1
      have rf2 := J.rf 2
      have p0 := J.p0
      have p1 := J.p1
      have p2 := J.p2
      have bl := J.bl
      have sz := J.sz
      have hs0 : w.heap.size < wr.heap.size := by omega
      have hs1 : w.heap.size + 1 < wr.heap.size := by omega
      have hs2 : w.heap.size + 2 < wr.heap.size := by omega
      have hy0 : 0 ≤ y ∧ y ≤ 4294967295 := by omega
      have hz0 : 0 ≤ z ∧ z ≤ 4294967295 := by omega
      have HST : Hid (∀ W, Calls Tryd.prog 16 #[.agg #[.int .i64 x0, .int .i64 x1, .int .i64 x2]] W fun e w' => e = .returned (stv x0 y z) ∧ Below W.heap.size W w') := Lib.hid fun W => by rw [hy, hz]; exact stamp_any x0 x1 x2 W
      have HR : Hid (∀ a b c : Nat, Reads t.data.toList a b c → x0 = a ∧ y = b ∧ z = c) := Lib.hid fun a b c hr => by
        obtain ⟨e0, e1, e2⟩ := reads_parts HW.out (HX.out.1 (by omega)) (HX.out.2.1 (by omega)) (HX.out.2.2 (by omega)) hr
        obtain ⟨⟨k1, k2, k3⟩, _⟩ := hr
        omega
      have HY := Lib.hid hy0
      have HZ0 := Lib.hid hz0
      clear hy hz hy0 hz0 HX
      by_cases hr : 0 ≤ x0 ∧ x0 ≤ 4611686018427387904
      · have hrb : rightB x0 = true := by unfold rightB; simp; omega
        have HTX := Lib.hid fun W hP => text_any x0 y z W (by omega) HY.out HZ0.out hP
        by_cases ht : strB (sttextB x0 y z) = t
        · have HF : Hid (∀ w', Below w.heap.size w w' → ParsePost w t.data.toList (.returned (.tuple #[stv x0 y z, .int .i64 0])) w') := Lib.hid fun w' hb => ⟨hb, .inl ⟨x0.toNat, y.toNat, z.toNat, reads_of hr HY.out HZ0.out ht, by
            have h1 := HY.out
            have h2 := HZ0.out
            rw [show ((x0.toNat : Nat) : Int) = x0 by omega, show ((y.toNat : Nat) : Int) = y by omega, show ((z.toNat : Nat) : Int) = z by omega]⟩⟩
          unfold Str1 at HTX
          rw [ht] at HTX
          clear hr ht
          go_wp2_with (first | (go_at_call 16; refine (HST.out _).mono ?_; rintro e w2 ⟨rfl, hb2⟩; have J2 := J.below hb2; have B2 := J2.bl; have z2 := hb2.size; have R0 := J2.r0; have R1 := J2.r1; have R2 := J2.r2; have F0 := J2.rf 0; have F1 := J2.rf 1; have F2 := J2.rf 2) | (go_at_call 17; refine (stright_any x0 y z _).mono ?_; rw [hrb]; rintro e w3 ⟨rfl, hb3⟩; have z3 := hb3.size; have B23 : Below w2.heap.size w2 w3 := ((Below.refl _ _).alloc (Nat.le_refl _) _).trans (hb3.mono (by simp)); have B3 : Below w.heap.size w w3 := B2.trans (B23.mono (by omega)); have U0 : w3.cell? ⟨w2.heap.size, 0, none⟩ = some (.int .i64 x0) := kept hb3 (by simp); have U1 : w3.cell? ⟨w2.heap.size, 1, none⟩ = some (.int .u32 y) := kept hb3 (by simp); have U2 : w3.cell? ⟨w2.heap.size, 2, none⟩ = some (.int .u32 z) := kept hb3 (by simp); have S0 := kept B23 R0; have S1 := kept B23 R1; have S2 := kept B23 R2; have G0 := keptF B23 (show w.heap.size < w2.heap.size by omega) F0; have G1 := keptF B23 (show w.heap.size < w2.heap.size by omega) F1; have G2 := keptF B23 (show w.heap.size < w2.heap.size by omega) F2; have hl3 : w2.heap.size < w3.heap.size := (by simp at z3; omega); obtain ⟨t0, t1, t2⟩ := three S0 S1 S2) | (go_at_call 4; refine (HTX.out _ (hpw.below B3)).mono ?_; rintro e w4 ⟨rfl, hb4⟩; have z4 := hb4.size; have B4 : Below w.heap.size w w4 := B3.trans (hb4.mono (by omega)); have V0 := kept hb4 U0; have V1 := kept hb4 U1; have V2 := kept hb4 U2; have S0' := kept hb4 S0; have S1' := kept hb4 S1; have S2' := kept hb4 S2; have G0' := keptF hb4 (show w.heap.size < w3.heap.size by omega) G0; have G1' := keptF hb4 (show w.heap.size < w3.heap.size by omega) G1; have G2' := keptF hb4 (show w.heap.size < w3.heap.size by omega) G2; clear t0 t1 t2; obtain ⟨t0, t1, t2⟩ := three S0' S1' S2'))
          exact bodyPost_ret (v := .tuple #[stv x0 y z, .int .i64 0]) (by simp [results, Tryd.results6, go_sem, t0, t1, t2]) rfl (HF.out _ (by go_grown))
        · have HF : Hid (∀ w', Below w.heap.size w w' → ParsePost w t.data.toList (.returned (.tuple #[stv 0 0 0, .int .i64 10])) w') := Lib.hid fun w' hb => ⟨hb, .inr ⟨fun a b c hr' => by
            obtain ⟨e0, e1, e2⟩ := HR.out a b c hr'
            apply ht
            rw [e0, e1, e2, textB_dec, ← hr'.2]
            rfl, rfl⟩⟩
          unfold Str1 at HTX
          generalize strB (sttextB x0 y z) = T at *
          have hneq : (T.toList == t.toList) = false := by rw [beq_eq_false_iff_ne, Lib.toList_data, Lib.toList_data]; exact fun e => ht (ByteArray.ext (Array.ext' e))
          clear hr ht
          go_wp2_with (first | (go_at_call 16; refine (HST.out _).mono ?_; rintro e w2 ⟨rfl, hb2⟩; have J2 := J.below hb2; have B2 := J2.bl; have z2 := hb2.size; have R0 := J2.r0; have R1 := J2.r1; have R2 := J2.r2; have F0 := J2.rf 0; have F1 := J2.rf 1; have F2 := J2.rf 2) | (go_at_call 17; refine (stright_any x0 y z _).mono ?_; rw [hrb]; rintro e w3 ⟨rfl, hb3⟩; have z3 := hb3.size; have B23 : Below w2.heap.size w2 w3 := ((Below.refl _ _).alloc (Nat.le_refl _) _).trans (hb3.mono (by simp)); have B3 : Below w.heap.size w w3 := B2.trans (B23.mono (by omega)); have U0 : w3.cell? ⟨w2.heap.size, 0, none⟩ = some (.int .i64 x0) := kept hb3 (by simp); have U1 : w3.cell? ⟨w2.heap.size, 1, none⟩ = some (.int .u32 y) := kept hb3 (by simp); have U2 : w3.cell? ⟨w2.heap.size, 2, none⟩ = some (.int .u32 z) := kept hb3 (by simp); have S0 := kept B23 R0; have S1 := kept B23 R1; have S2 := kept B23 R2; have G0 := keptF B23 (show w.heap.size < w2.heap.size by omega) F0; have G1 := keptF B23 (show w.heap.size < w2.heap.size by omega) F1; have G2 := keptF B23 (show w.heap.size < w2.heap.size by omega) F2; have hl3 : w2.heap.size < w3.heap.size := (by simp at z3; omega); obtain ⟨t0, t1, t2⟩ := three S0 S1 S2) | (go_at_call 4; refine (HTX.out _ (hpw.below B3)).mono ?_; rintro e w4 ⟨rfl, hb4⟩; have z4 := hb4.size; have B4 : Below w.heap.size w w4 := B3.trans (hb4.mono (by omega)); have V0 := kept hb4 U0; have V1 := kept hb4 U1; have V2 := kept hb4 U2; have S0' := kept hb4 S0; have S1' := kept hb4 S1; have S2' := kept hb4 S2; have G0' := keptF hb4 (show w.heap.size < w3.heap.size by omega) G0; have G1' := keptF hb4 (show w.heap.size < w3.heap.size by omega) G1; have G2' := keptF hb4 (show w.heap.size < w3.heap.size by omega) G2; clear t0 t1 t2; obtain ⟨t0, t1, t2⟩ := three S0' S1' S2'))
          exact bodyPost_ret (v := .tuple #[stv 0 0 0, .int .i64 10]) (by simp [results, Tryd.results6, go_sem, t0, t1, t2]) rfl (HF.out _ (by go_grown))
      · have hrb : rightB x0 = false := by unfold rightB; simp; omega
        have HF : Hid (∀ w', Below w.heap.size w w' → ParsePost w t.data.toList (.returned (.tuple #[stv 0 0 0, .int .i64 10])) w') := Lib.hid fun w' hb => ⟨hb, .inr ⟨fun a b c hr' => by
            obtain ⟨e0, e1, e2⟩ := HR.out a b c hr'
            obtain ⟨⟨k1, k2, k3⟩, _⟩ := hr'
            exact hr (by omega), rfl⟩⟩
        clear hr
        go_wp2_with (first | (go_at_call 16; refine (HST.out _).mono ?_; rintro e w2 ⟨rfl, hb2⟩; have J2 := J.below hb2; have B2 := J2.bl; have z2 := hb2.size; have R0 := J2.r0; have R1 := J2.r1; have R2 := J2.r2; have F0 := J2.rf 0; have F1 := J2.rf 1; have F2 := J2.rf 2) | (go_at_call 17; refine (stright_any x0 y z _).mono ?_; rw [hrb]; rintro e w3 ⟨rfl, hb3⟩; have z3 := hb3.size; have B23 : Below w2.heap.size w2 w3 := ((Below.refl _ _).alloc (Nat.le_refl _) _).trans (hb3.mono (by simp)); have B3 : Below w.heap.size w w3 := B2.trans (B23.mono (by omega)); have U0 : w3.cell? ⟨w2.heap.size, 0, none⟩ = some (.int .i64 x0) := kept hb3 (by simp); have U1 : w3.cell? ⟨w2.heap.size, 1, none⟩ = some (.int .u32 y) := kept hb3 (by simp); have U2 : w3.cell? ⟨w2.heap.size, 2, none⟩ = some (.int .u32 z) := kept hb3 (by simp); have S0 := kept B23 R0; have S1 := kept B23 R1; have S2 := kept B23 R2; have G0 := keptF B23 (show w.heap.size < w2.heap.size by omega) F0; have G1 := keptF B23 (show w.heap.size < w2.heap.size by omega) F1; have G2 := keptF B23 (show w.heap.size < w2.heap.size by omega) F2; have hl3 : w2.heap.size < w3.heap.size := (by simp at z3; omega); obtain ⟨t0, t1, t2⟩ := three S0 S1 S2))
        exact bodyPost_ret (v := .tuple #[stv 0 0 0, .int .i64 10]) (by simp [results, Tryd.results6, go_sem, t0, t1, t2]) rfl (HF.out _ (by go_grown))
end Go.Proofs.YtiigbkpfgbhlgaaDoor
