/- PostCounts: the walk. -/
import Derived.Test.YtakpfjamlmfbbaaPc
import Derived.Test.YtakpfjamlmfbbaaPOc
import Derived.Deep.CutBlock
import Derived.LoopTactic
import Derived.IntWalk
import Derived.Carry
namespace Go.Proofs.Ytakpfjamlmfbbaa
open Go.RowKit Go.Conc Go.Maps

theorem u64_of (t : Int) : ∃ U : Nat, IntKind.u64.wrap t = (U : Int) ∧ U < 18446744073709551616 := by
  refine ⟨(t % 18446744073709551616).toNat, ?_, by omega⟩
  simp [IntKind.wrap, IntKind.bits, IntKind.signed]
  omega
theorem room_of (room : Int) : ∃ q : Nat, wrap64 ((IntKind.u64.wrap room).tmod 9) = (q : Int) ∧ q ≤ 8 := by
  obtain ⟨U, hU, _⟩ := u64_of room
  rw [hU]
  have e : ((U : Int)).tmod 9 = ((U % 9 : Nat) : Int) := by
    rw [Int.tmod_eq_emod_of_nonneg (by omega)]
    exact (Int.natCast_emod U 9).symm
  rw [e]
  have hlt : U % 9 < 9 := Nat.mod_lt _ (by decide)
  generalize U % 9 = q at *
  exact ⟨q, IntWalk.wrap64_in _ (by omega), by omega⟩
/-- What stands between the rounds. -/
def Rnd (w W : World) (p ch room b : Nat) (i : Nat) : Prop := ∃ (n : Nat) (ts : List Int) (h : Int → Bool), PC w W p ch room b n ts (cnt ts) h ∧ (∀ t ∈ ts, h t = true) ∧ (∀ t ∈ ts, I64 t) ∧ n ≤ i
set_option maxRecDepth 100000 in
set_option maxHeartbeats 6400000 in
theorem pcounts_any (room : Int) (A : Option Addr) (cap : Nat) (os : List Op8) (w : World) (ho : Os8 w w.heap.size A cap os) :
    Calls Try.prog 3 #[.int .i64 room, .slice A os.length cap] w fun e w' => e = .returned (.bool true) ∧ Below w.heap.size w w' := by
  obtain ⟨q, hq, hq8⟩ := room_of room
  have HOs := Lib.hid ho
  have HQ := Lib.hid hq
  have HNW := Lib.hid (new_ok q (by omega) w)
  have hle := ho.le
  have hmax := ho.max
  unfold maxLen at hmax
  clear ho hq
  go_enter Try.func3, Try.ntmps3
  go_wp2_with fail
  rw [HQ.out]
  refine HNW.out.mono ?_
  rintro e w1 ⟨rfl, hpo, hb1⟩
  clear HNW
  have z1 := hb1.size
  go_wp2_with fail
  refine (pawake_any _).mono ?_
  rintro e w2 ⟨rfl, hb2⟩
  have hpo2 := hpo.below hb2
  have B2 : Below w.heap.size w w2 := hb1.trans (hb2.mono z1)
  have hz2 : w.heap.size + 2 ≤ w2.heap.size := by
    have h1 := hpo2.lt
    omega
  have hPC : PC w (w2.alloc (.map #[] 0)) (w.heap.size + 1) w.heap.size q w2.heap.size 0 [] (cnt []) (fun _ => false) := by
    refine ⟨⟨_, _, _, hpo2.alloc _, rfl, (fun x hx => by simp at hx), by simp [Value.ownBlock]⟩, ?_, by omega, by omega, by omega, B2.alloc (by omega) _⟩
    rw [cnt_nil]
    exact Im.made w2
  have HPC := Lib.hid hPC
  have HB2 := Lib.hid B2
  have hmm := @run_makeMap Try.prog
  clear hPC hpo hpo2 hb1 hb2 B2
  go_wp2_with fail
  have BA : Below w.heap.size w (w2.alloc (.map #[] 0)) := HB2.out.alloc (by omega) _
  have HBA := Lib.hid BA
  clear hmm BA
  generalize hWA : w2.alloc (.map #[] 0) = WA at *
  clear hWA
  generalize w2.heap.size = b at *
  obtain ⟨p, hp⟩ : ∃ p, p = w.heap.size + 1 := ⟨_, rfl⟩
  obtain ⟨ch, hch⟩ : ∃ ch, ch = w.heap.size := ⟨_, rfl⟩
  have HPC2 : Hid (PC w WA p ch q b 0 [] (cnt []) (fun _ => false)) := Lib.hid (by rw [hp, hch]; exact HPC.out)
  rw [← hp]
  clear HPC HB2 hp hch hz2 z1
  go_loopw [42] (fun i wr => ∃ k : Nat, k ≤ os.length ∧ i = .int .i64 k ∧ Rnd w wr p ch q b k) (fun i _ => os.length - (intOf i).toNat)
  case atStart => exact ⟨0, Nat.zero_le _, rfl, 0, [], _, HPC2.out, (fun t ht => by simp at ht), (fun t ht => by simp at ht), Nat.le_refl _⟩
  case round =>
    obtain ⟨k, hk, rfl, n, ts, h, hpc, hcov, hts, hnk⟩ := hrel
    have BW := hpc.B
    have z := hpc.z
    by_cases hlt : k < os.length
    · obtain ⟨ad, rfl, hadw, c0, c1, c2, A', c', c3, _, c4, hi64⟩ := (HOs.out.below BW).get (List.getElem?_eq_getElem hlt)
      generalize os[k] = x at *
      obtain ⟨xk, ⟨xf, xt, xb⟩, xi⟩ := x
      simp only at c0 c1 c2 c3 c4 hi64
      have HPC := Lib.hid hpc
      have HCV := Lib.hid hcov
      have HTS := Lib.hid hts
      clear hpc hcov hts
      by_cases h80 : 80 ≤ k
      · go_wp2_with fail
        go_ret
        exact ⟨rfl, BW.alloc z _⟩
      by_cases h3k : 3000 < xb.length
      · go_wp2_with fail
        go_ret
        exact ⟨rfl, BW.alloc z _⟩
      have PA := HPC.out.below ((Below.refl _ _).alloc (Nat.le_refl _) (.cells #[.int .i64 xk, .int .i64 xf, .int .i64 xt, .slice A' xb.length c', .int .i64 xi] 34))
      have hbA : Below wr.heap.size wr (wr.alloc (.cells #[.int .i64 xk, .int .i64 xf, .int .i64 xt, .slice A' xb.length c', .int .i64 xi] 34)) := (Below.refl _ _).alloc (Nat.le_refl _) _
      have hir := HPC.out.inRoom
      have k80 : k < 80 := by omega
      go_upto_block 2 with (fail)
      clear c0 c1 c2 c3 c4 hadw
      obtain ⟨WB, hWB⟩ : ∃ WB, WB = wr.alloc (.cells #[.int .i64 xk, .int .i64 xf, .int .i64 xt, .slice A' xb.length c', .int .i64 xi] 34) := ⟨_, rfl⟩
      rw [← hWB] at hbA ⊢
      have d1 : WB.cell? ⟨wr.heap.size, 1, none⟩ = some (.int .i64 xf) := by rw [hWB]; simp
      have d2 : WB.cell? ⟨wr.heap.size, 2, none⟩ = some (.int .i64 xt) := by rw [hWB]; simp
      have d4 : WB.cell? ⟨wr.heap.size, 4, none⟩ = some (.int .i64 xi) := by rw [hWB]; simp
      have hbo : wr.heap.size < WB.heap.size := by rw [hWB]; simp
      have PA := HPC.out.below hbA
      have HPA := Lib.hid PA
      clear PA hWB
      obtain ⟨bo, hbo2⟩ : ∃ bo, bo = wr.heap.size := ⟨_, rfl⟩
      rw [← hbo2] at d1 d2 d4 hbo ⊢
      have HBO := Lib.hid hbo2
      clear hbo2
      go_cut [58] (fun _ wx => Rnd w wx p ch q b (k + 1))
      case first =>
        by_cases k0 : xk = 0
        · subst k0
          by_cases hr : ts.length < q
          ·
            go_wp2_with fail
            refine (HPC.out.send hbA xt hr (by omega)).mono ?_
            rintro e w3 ⟨rfl, hp3, tn3⟩
            have m2 : w3.cell? ⟨bo, 2, none⟩ = some (.int .i64 xt) := tn3.cell d2 (by rw [HBO.out]; simp)
            have hlk := hp3.im.look hi64
            obtain ⟨cv, hcv⟩ : ∃ cv, cv = cnt ts xt := ⟨_, rfl⟩
            have cvb := cnt_bd ts xt
            rw [← hcv] at hlk cvb
            obtain ⟨cv0, cv9⟩ := cvb
            have HCVV := Lib.hid hcv
            clear hcv
            go_wp2_with (at_mapUpdate; refine wpList_imput _ rfl _ _ _ rfl b n (cnt ts) h rfl hp3.im (by unfold maxLen; omega) xt (cv + 1) rfl rfl hi64 ⟨by omega, by omega⟩ ?_; intro w4 him4 tn4)
            go_meet
            rw [HCVV.out] at him4
            rw [← cnt_snoc] at him4
            exact ⟨n + 1, ts ++ [xt], _, hp3.put him4 tn4, (fun t ht => by rcases List.mem_append.1 ht with h | h <;> first | (rw [HCV.out t h]; rfl) | (simp at h; subst h; simp)), (fun t ht => by rcases List.mem_append.1 ht with h | h <;> first | exact HTS.out t h | (simp at h; subst h; exact hi64)), by omega⟩
          ·
            go_wp2_with fail
            refine (HPA.out.sendFull xt (by omega)).mono ?_
            rintro e w3 ⟨rfl, hb3⟩
            go_wp2_with fail
            go_meet
            exact ⟨n, ts, h, HPA.out.below hb3, HCV.out, HTS.out, by omega⟩
        by_cases k1 : xk = 1
        · subst k1
          clear k0
          by_cases hm : xi < 0 ∨ (ts.length : Int) ≤ xi
          ·
            go_wp2_with fail
            refine (HPA.out.takeBad hm).mono ?_
            rintro e w3 ⟨rfl, hb3⟩
            have hp4 := (HPA.out.below hb3).below ((Below.refl w3.heap.size w3).alloc (Nat.le_refl _) (.cells #[.int .i64 0, .int .i64 0, .slice none 0 0] 36))
            go_wp2_with fail
            go_meet
            exact ⟨n, ts, h, hp4, HCV.out, HTS.out, by omega⟩
          ·
            obtain ⟨j, rfl⟩ : ∃ j : Nat, xi = (j : Int) := ⟨xi.toNat, by omega⟩
            have hjl : j < ts.length := by omega
            have htj : ts[j]? = some ts[j] := List.getElem?_eq_getElem hjl
            have htw := HTS.out ts[j] (List.getElem_mem hjl)
            generalize ts[j] = tj at *
            have HTJ := Lib.hid htj
            clear htj
            go_wp2_with fail
            refine (HPC.out.take hbA HTJ.out (by omega)).mono ?_
            rintro e w3 ⟨⟨fr, A3, c3, rfl⟩, hp3, tn3⟩
            have hp4 := hp3.below ((Below.refl w3.heap.size w3).alloc (Nat.le_refl _) (.cells #[.int .i64 fr, .int .i64 tj, .slice A3 0 c3] 36))
            have hlk := hp4.im.look htw
            obtain ⟨cv, hcv⟩ : ∃ cv, cv = cnt ts tj := ⟨_, rfl⟩
            have cvb := cnt_bd ts tj
            rw [← hcv] at hlk cvb
            obtain ⟨cv0, cv9⟩ := cvb
            have HCVV := Lib.hid hcv
            clear hcv
            go_wp2_with (at_mapUpdate; refine wpList_imput _ rfl _ _ _ rfl b n (cnt ts) h rfl hp4.im (by unfold maxLen; omega) tj (cv - 1) rfl rfl htw ⟨by omega, by omega⟩ ?_; intro w4 him4 tn4)
            go_meet
            rw [HCVV.out] at him4
            rw [← cnt_erase HTJ.out] at him4
            exact ⟨n + 1, ts.eraseIdx j, _, hp4.put him4 tn4, (fun t ht => by rw [HCV.out t (List.mem_of_mem_eraseIdx ht)]; rfl), (fun t ht => HTS.out t (List.mem_of_mem_eraseIdx ht)), by omega⟩
        by_cases k2 : xk = 2
        · subst k2
          clear k0 k1
          by_cases hm : xi < 0 ∨ (ts.length : Int) ≤ xi
          ·
            go_wp2_with fail
            refine (HPA.out.lookBad hm).mono ?_
            rintro e w3 ⟨rfl, hb3⟩
            have hp4 := (HPA.out.below hb3).below ((Below.refl w3.heap.size w3).alloc (Nat.le_refl _) (.cells #[.int .i64 0, .int .i64 0, .slice none 0 0] 36))
            go_wp2_with fail
            go_meet
            exact ⟨n, ts, h, hp4, HCV.out, HTS.out, by omega⟩
          by_cases hr : ts.length < q
          ·
            obtain ⟨j, rfl⟩ : ∃ j : Nat, xi = (j : Int) := ⟨xi.toNat, by omega⟩
            have hjl : j < ts.length := by omega
            have htj : ts[j]? = some ts[j] := List.getElem?_eq_getElem hjl
            have htw := HTS.out ts[j] (List.getElem_mem hjl)
            generalize ts[j] = tj at *
            have HTJ := Lib.hid htj
            clear htj
            go_wp2_with fail
            refine (HPA.out.look HTJ.out).mono ?_
            rintro e w3 ⟨⟨fr, A3, c3, rfl⟩, hb3⟩
            have z3 := hb3.size
            have hb4 : Below WB.heap.size WB (w3.alloc (.cells #[.int .i64 fr, .int .i64 tj, .slice A3 0 c3] 36)) := hb3.alloc z3 _
            have hb5 : Below wr.heap.size wr (w3.alloc (.cells #[.int .i64 fr, .int .i64 tj, .slice A3 0 c3] 36)) := hbA.trans (hb4.mono hbA.size)
            have hz3 : bo < w3.heap.size := by omega
            have e4 : (w3.alloc (.cells #[.int .i64 fr, .int .i64 tj, .slice A3 0 c3] 36)).cell? ⟨bo, 4, none⟩ = some (.int .i64 (j : Int)) := kept hb4 d4
            have e1 : (w3.alloc (.cells #[.int .i64 fr, .int .i64 tj, .slice A3 0 c3] 36)).cell? ⟨w3.heap.size, 1, none⟩ = some (.int .i64 tj) := by simp
            have g4 : w3.cell? ⟨bo, 4, none⟩ = some (.int .i64 (j : Int)) := kept hb3 d4
            go_wp2_with fail
            refine (HPC.out.copy hb5 HTJ.out hr (by omega)).mono ?_
            rintro e w5 ⟨rfl, hp5, tn5⟩
            have m1 : w5.cell? ⟨w3.heap.size, 1, none⟩ = some (.int .i64 tj) := tn5.cell e1 (by have := HBO.out; simp; omega)
            have hlk := hp5.im.look htw
            obtain ⟨cv, hcv⟩ : ∃ cv, cv = cnt ts tj := ⟨_, rfl⟩
            have cvb := cnt_bd ts tj
            rw [← hcv] at hlk cvb
            obtain ⟨cv0, cv9⟩ := cvb
            have HCVV := Lib.hid hcv
            clear hcv
            go_wp2_with (at_mapUpdate; refine wpList_imput _ rfl _ _ _ rfl b n (cnt ts) h rfl hp5.im (by unfold maxLen; omega) tj (cv + 1) rfl rfl htw ⟨by omega, by omega⟩ ?_; intro w6 him4 tn4)
            go_meet
            rw [HCVV.out] at him4
            rw [← cnt_snoc] at him4
            exact ⟨n + 1, ts ++ [tj], _, hp5.put him4 tn4, (fun t ht => by rcases List.mem_append.1 ht with h | h <;> first | (rw [HCV.out t h]; rfl) | (simp at h; subst h; simp)), (fun t ht => by rcases List.mem_append.1 ht with h | h <;> first | exact HTS.out t h | (simp at h; subst h; exact htw)), by omega⟩
          ·
            obtain ⟨j, rfl⟩ : ∃ j : Nat, xi = (j : Int) := ⟨xi.toNat, by omega⟩
            have hjl : j < ts.length := by omega
            have htj : ts[j]? = some ts[j] := List.getElem?_eq_getElem hjl
            have htw := HTS.out ts[j] (List.getElem_mem hjl)
            generalize ts[j] = tj at *
            have HTJ := Lib.hid htj
            clear htj
            go_wp2_with fail
            refine (HPA.out.look HTJ.out).mono ?_
            rintro e w3 ⟨⟨fr, A3, c3, rfl⟩, hb3⟩
            have z3 := hb3.size
            have hb4 : Below WB.heap.size WB (w3.alloc (.cells #[.int .i64 fr, .int .i64 tj, .slice A3 0 c3] 36)) := hb3.alloc z3 _
            have hb5 : Below wr.heap.size wr (w3.alloc (.cells #[.int .i64 fr, .int .i64 tj, .slice A3 0 c3] 36)) := hbA.trans (hb4.mono hbA.size)
            have hz3 : bo < w3.heap.size := by omega
            have e4 : (w3.alloc (.cells #[.int .i64 fr, .int .i64 tj, .slice A3 0 c3] 36)).cell? ⟨bo, 4, none⟩ = some (.int .i64 (j : Int)) := kept hb4 d4
            have e1 : (w3.alloc (.cells #[.int .i64 fr, .int .i64 tj, .slice A3 0 c3] 36)).cell? ⟨w3.heap.size, 1, none⟩ = some (.int .i64 tj) := by simp
            have g4 : w3.cell? ⟨bo, 4, none⟩ = some (.int .i64 (j : Int)) := kept hb3 d4
            have hp4 := HPC.out.below hb5
            go_wp2_with fail
            refine (hp4.copyFull hjl (by omega)).mono ?_
            rintro e w5 ⟨rfl, rfl⟩
            go_wp2_with fail
            go_meet
            exact ⟨n, ts, h, hp4, HCV.out, HTS.out, by omega⟩
        have x0 : (xk == 0) = false := beq_eq_false_iff_ne.2 k0
        have x1 : (xk == 1) = false := beq_eq_false_iff_ne.2 k1
        have x2 : (xk == 2) = false := beq_eq_false_iff_ne.2 k2
        clear k0 k1 k2
        go_wp2_with fail
        go_meet
        exact ⟨n, ts, h, HPA.out, HCV.out, HTS.out, by omega⟩
      case rest =>
        obtain ⟨n2, ts2, h2, hpc2, hcov2, hts2, hnk2⟩ := hcut
        rename World => W3
        have hmm := @run_makeMap Try.prog
        have hlen8 := hpc2.inRoom
        have HP2 := Lib.hid hpc2
        have HV2 := Lib.hid hcov2
        have HT2 := Lib.hid hts2
        clear hpc2 hcov2 hts2 HPC HCV HTS HPA hbA d1 d2 d4 hbo HBO hir
        have bM : Below W3.heap.size W3 (W3.alloc (.map #[] 0)) := (Below.refl _ _).alloc (Nat.le_refl _) _
        go_wp2_with fail
        refine ((HP2.out.below bM).all (by omega)).mono ?_
        rintro e w5 ⟨A5, c5, ms, rfl, hso, hms, hb5⟩
        have him5 := (Im.made W3).below hb5
        have b5 : Below W3.heap.size W3 w5 := bM.trans (hb5.mono bM.size)
        have hown5 : ∀ g, (Value.slice A5 ts2.length c5).ownBlock = some g → W3.heap.size < g := fun g hg => by
          have := (hso.lt g hg).1
          simp at this
          omega
        have hKK : W3.heap.size < (W3.alloc (.map #[] 0)).heap.size := by simp
        generalize (W3.alloc (.map #[] 0)).heap.size = KK at *
        obtain ⟨b2, hb2⟩ : ∃ b2, b2 = W3.heap.size := ⟨_, rfl⟩
        rw [← hb2] at him5 hown5 ⊢
        have HB2 := Lib.hid hb2
        have HSO5 := Lib.hid hso
        have HOW := Lib.hid hown5
        have HMS := Lib.hid hms
        clear hb2 hso hb5 bM hmm hown5 hms
        have hms8 : ms.length = ts2.length := by rw [← HMS.out]; simp
        have HM8 := Lib.hid hms8
        clear hms8
        go_wp2_with fail
        go_loopw [116] (fun i wx => ∃ j : Nat, j ≤ ts2.length ∧ i = .int .i64 j ∧ (∃ hh, Im wx b2 j (cnt (ts2.take j)) hh) ∧ So encM 3 wx KK 36 (.slice A5 ts2.length c5) ms ∧ Below W3.heap.size W3 wx) (fun i _ => ts2.length - (intOf i).toNat)
        case atStart => exact ⟨0, Nat.zero_le _, rfl, ⟨_, by rw [List.take_zero, cnt_nil]; exact him5⟩, HSO5.out, b5⟩
        case round =>
          clear him5 b5 HSO5
          obtain ⟨j, hj, rfl, ⟨hh, him⟩, hso, hbl⟩ := hrel
          rename World => W6
          have z6 := hbl.size
          by_cases hjl : j < ts2.length
          · obtain ⟨ad5, rfl, _, u0, u1⟩ := (So.sr encM_length hso).1.get2 (show j < ms.length by rw [HM8.out]; exact hjl)
            have htj : (ms[j]'(by rw [HM8.out]; exact hjl)).t = ts2[j] := by
              have h1 := HMS.out
              have : (ms.map Mg.t)[j]? = ts2[j]? := by rw [h1]
              rw [List.getElem?_map, List.getElem?_eq_getElem (show j < ms.length by rw [HM8.out]; exact hjl), List.getElem?_eq_getElem hjl] at this
              simpa using this
            have v0 := u0 _ rfl
            have v1 := u1 1 _ (by decide) rfl
            have v2 := u1 2 _ (by decide) rfl
            have htk : ts2.take (j + 1) = ts2.take j ++ [ts2[j]] := List.take_succ_eq_append_getElem hjl
            have hw6 := HT2.out ts2[j] (List.getElem_mem hjl)
            clear u0 u1
            rw [htj] at v1
            generalize ts2[j] = tj at *
            generalize (ms[j]'(by rw [HM8.out]; exact hjl)) = mj at *
            obtain ⟨mf, mt, mA, mn, mc⟩ := mj
            simp only at v0 v1 v2
            have HTK := Lib.hid htk
            clear htk htj
            have im7 := him.below ((Below.refl W6.heap.size W6).alloc (Nat.le_refl _) (.cells #[.int .i64 mf, .int .i64 tj, .slice mA mn mc] 36))
            have hlk := im7.look hw6
            have cvb := cnt_bd (ts2.take j) tj
            obtain ⟨cv, hcv⟩ : ∃ cv, cv = cnt (ts2.take j) tj := ⟨_, rfl⟩
            rw [← hcv] at hlk cvb
            obtain ⟨cv0, cv9⟩ := cvb
            have hcl : (ts2.take j).length ≤ 8 := by rw [List.length_take]; omega
            have HCVV := Lib.hid hcv
            have HSO := Lib.hid hso
            have HBL := Lib.hid hbl
            have HIM := Lib.hid im7
            clear hcv hso hbl him im7
            go_wp2_with (at_mapUpdate; refine wpList_imput _ rfl _ _ _ rfl b2 j (cnt (ts2.take j)) hh rfl HIM.out (by unfold maxLen; omega) tj (cv + 1) rfl rfl hw6 ⟨by omega, by omega⟩ ?_; intro w8 him8 tn8)
            go_roundw
            case rel =>
              rw [HCVV.out] at him8
              rw [← cnt_snoc, ← HTK.out] at him8
              exact ⟨j + 1, by omega, by go_num, ⟨_, him8⟩, tn8.so (HSO.out.alloc _) (fun g hg e => by have := HOW.out g hg; omega), (HBL.out.alloc z6 _).trans (tn8.below (by simp; omega) (fun k _ e => by rw [e, HB2.out]; exact Nat.le_refl _))⟩
            case measure => simp [intOf]; omega
          · have hje : j = ts2.length := by omega
            subst hje
            rw [List.take_length] at him
            have HIM := Lib.hid him
            have HBL := Lib.hid hbl
            obtain ⟨D, hD, hD1, hD2⟩ := (HP2.out.below hbl).im
            have HD1 := Lib.hid hD1
            have HD2 := Lib.hid hD2
            clear hD1 hD2 him hbl hso
            go_wp2_with (at_range; refine wpList_range_own _ rfl _ MT rfl KT KT law_k Try.underlying29 (plainElem Try.prog KT) b n2 D rfl hD ?_; intro w7 hrg7 hg7 hs7)
            go_frame
            obtain ⟨r, hr⟩ : ∃ r, r = W6.heap.size := ⟨_, rfl⟩
            rw [← hr] at hrg7 ⊢
            have HR := Lib.hid hr
            have im7 : Im w7 b2 ts2.length (cnt ts2) hh := HIM.out.tn (Tn.ofGrown hg7) (by simp)
            have b7 : Below W3.heap.size W3 w7 := HBL.out.trans ((Tn.ofGrown hg7).below z6 (fun k _ e => by simp at e))
            have hb2r : b2 < r := by rw [hr]; exact HIM.out.lt
            clear hr hg7 hs7 hD
            have g0 : gone ts2 (Maps.has D) = 0 := gone_all fun t ht => by rw [HD2.out]; exact HV2.out t ht
            have G0 := Lib.hid g0
            clear g0
            go_loopw [14] (fun nn wy => ∃ (g cntl : Nat) (left : Lit → Bool), nn = .int .i64 g ∧ wy.ranges Try.prog KT (plainElem Try.prog KT) b r n2 D left cntl ∧ Hid (g = gone ts2 left) ∧ Im wy b2 ts2.length (cnt ts2) hh ∧ Below W3.heap.size W3 wy) (fun _ wy => wy.rangeLeft b r)
            case atStart => exact ⟨0, _, _, rfl, hrg7, Lib.hid G0.out.symm, im7, b7⟩
            case round =>
              clear im7 b7 hrg7
              obtain ⟨g, cntl, left, rfl, hrg, HGO, him, hbl⟩ := hrel
              rename World => W8
              have HIM8 := Lib.hid him
              have HBL8 := Lib.hid hbl
              clear him hbl
              have hg8 := gone_le ts2 left
              go_wp2_with (at_next; refine wpList_next_ranges_ii _ rfl _ rfl KT KT .i64 .i64 law_k Try.underlying3 Try.underlying3 b r n2 _ _ _ rfl hrg ?_ ?_)
              · intro h00 hl0
                have hgl : g = ts2.length := by rw [HGO.out]; exact gone_none _ _ hl0
                subst hgl
                clear h00 hl0 hrg hg8
                have PE := HP2.out.below HBL8.out
                go_wp2_with fail
                refine PE.len.mono ?_
                rintro e w' ⟨rfl, rfl⟩
                go_wp2_with fail
                go_roundw
                case rel => exact ⟨k + 1, by omega, by go_num, n2, ts2, h2, PE, HV2.out, HT2.out, hnk2⟩
                case measure => simp [intOf]; omega
              · intro x c w9 cnt9 hwx hwc hlx hat hrg9 hlt9 hg9 hs9 hen
                have hc : c = ((ts2.count x : Nat) : Int) := by
                  have h1 := hat (.lit (.int .i64 0))
                  rw [HD1.out] at h1
                  injection h1 with h1
                  injection h1 with _ h1
                  exact h1.symm
                subst hc
                have hx64 : I64 x := by simpa [I64, Lit.wf, IntKind.min, IntKind.max, IntKind.signed, IntKind.bits] using hwx
                have im9 : Im w9 b2 ts2.length (cnt ts2) hh := HIM8.out.tn (Tn.ofGrown hg9) (by simp; omega)
                have hlk : (Instr.lookup MT (.map (some b2)) (.int .i64 x) false).run Try.prog w9 = .ok (.int .i64 ((ts2.count x : Nat) : Int)) w9 := im9.look hx64
                have hst := gone_step ts2 left x hlx
                have hgn := gone_le ts2 (fun z => left z && !z.sameKey (.int .i64 x))
                have HG9 : Hid (g + ts2.count x = gone ts2 (fun z => left z && !z.sameKey (.int .i64 x))) := Lib.hid (by rw [hst, HGO.out])
                have hsm : g + ts2.count x ≤ 8 := by rw [HG9.out]; omega
                have b9 : Below W3.heap.size W3 w9 := HBL8.out.trans ((Tn.ofGrown hg9).below HBL8.out.size (fun k _ e => by
                  injection e with e
                  have h1 := HB2.out
                  omega))
                have HB9 := Lib.hid b9
                have HI9 := Lib.hid im9
                have HLT := Lib.hid hlt9
                generalize ts2.count x = m at *
                have hm1 : ((m : Int) != (m : Int)) = false := by simp
                clear hwx hwc hat hst hgn im9 b9 hg9 hs9 hlt9 hlx hx64
                go_wp2_with fail
                go_roundw
                case rel => exact ⟨g + m, cnt9, _, by go_num, hrg9, HG9, HI9.out, HB9.out⟩
                case measure => rw [hrg9.left_eq, hrg.left_eq]; exact HLT.out
    · have hks : k = os.length := by omega
      subst hks
      go_wp2_with fail
      go_ret
      exact ⟨rfl, BW⟩
end Go.Proofs.Ytakpfjamlmfbbaa
