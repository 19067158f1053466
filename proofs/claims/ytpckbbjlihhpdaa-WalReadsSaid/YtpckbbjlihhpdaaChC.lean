/- WalReads is proved: whatever the steps, the law returns true, and what came in reads as it did. -/
import Derived.Test.YtpckbbjlihhpdaaChB
import Derived.Test.YtpckbbjlihhpdaaChA
namespace Go.Proofs.Ytpckbbjlihhpdaa
open Go.RowKit Go.BigFrame

set_option maxRecDepth 100000 in
set_option maxHeartbeats 6400000 in
theorem walreads_any (A : Option Addr) (cap : Nat) (os : List Op9) (w : World) (ho : Os9 w w.heap.size A cap os) : Calls Try.prog 6 #[.slice A os.length cap] w (Ok0 w) := by
  have HO := Lib.hid ho
  have hcl := ho.le
  have hcm := ho.max
  unfold maxLen at hcm
  clear ho
  go_enter Try.func6, Try.ntmps6
  go_wp2_with fail
  refine (new_DD 4194304 (by decide) (by decide) w).mono ?_
  rintro e w1 ⟨rfl, ⟨B1, D1, hB1⟩, b1⟩
  generalize hd : w.heap.size + 1 = d at *
  clear hd
  go_wp2_with fail
  refine (open_new D1 hB1 b1 (by decide)).mono ?_
  rintro e w2 ⟨p, A1, c1, A2, c2, rfl, W2⟩
  have HW2 := Lib.hid W2.wz
  clear W2 D1 hB1 b1
  go_wp2_with fail
  refine (wawake_any w2).mono ?_
  rintro e w3 ⟨rfl, b3⟩
  have HW3 := Lib.hid (HW2.out.below b3)
  have HB0 : Hid (Bs w w.heap.size none 0 []) := Lib.hid ⟨Nat.le_refl _, Nat.zero_le _, fun _ => rfl, fun h => absurd h (by simp)⟩
  clear b3 HW2
  obtain ⟨F0, hF0⟩ : ∃ F0, F0 = framesB [] [] := ⟨_, rfl⟩
  rw [← hF0] at HW3
  have HF0 : Hid (F0 = framesB [] [] ++ recsB []) := Lib.hid (by rw [hF0]; simp [recsB])
  clear hF0
  go_wp2_with fail
  go_loopw [44, 5, 9, 10] (fun iv wv bv av wr => ∃ (i p : Nat) (Ab : Option Addr) (cb : Nat) (base : List UInt8) (Aa : Option Addr) (ca : Nat) (all : List (List UInt8)) (b : List UInt8) (l : Nat) (seg : Int), iv = .int .i64 (i : Int) ∧ wv = wP p ∧ bv = .slice Ab base.length cb ∧ av = .slice Aa all.length ca ∧ i ≤ os.length ∧ Hid (Wz w wr p d 4194304 b l seg Aa ca all) ∧ Hid (b = framesB base [] ++ recsB all) ∧ Hid (Bs w w.heap.size Ab cb base) ∧ Hid (base.length ≤ 1500 ∧ (∀ x ∈ all, x.length ≤ 1500) ∧ all.length ≤ i ∧ i ≤ 60 ∧ seg ≤ 1 + i)) (fun iv _ _ _ _ => os.length - (intOf iv).toNat)
  case atStart => exact ⟨0, p, none, 0, [], none, 0, [], F0, 18, 1, rfl, rfl, rfl, rfl, Nat.zero_le _, HW3, HF0, HB0, Lib.hid ⟨by simp, fun x hx => (by cases hx), by simp, by omega, by omega⟩⟩
  case round =>
    obtain ⟨i, p, Ab, cb, base, Aa, ca, all, b, l, seg, rfl, rfl, rfl, rfl, hi, HZ, HF, HBS, HN⟩ := hrel
    rename World => W0
    clear HW3 HF0 HB0
    have hzp := HZ.out.lt
    have hcb := HBS.out.le
    have hca := HZ.out.rr.le
    by_cases hlt : i < os.length
    · obtain ⟨ad, A1, c1, A2, c2, hA, X⟩ := HO.out.get (List.getElem?_eq_getElem hlt)
      subst hA
      generalize os[i] = o at X
      have x0 := (HZ.out.bel.cell X.lt).trans X.x0
      have x1 := (HZ.out.bel.cell (p := ⟨_, _, none⟩) X.lt).trans X.x1
      have x2 := (HZ.out.bel.cell (p := ⟨_, _, none⟩) X.lt).trans X.x2
      have x3 := (HZ.out.bel.cell (p := ⟨_, _, none⟩) X.lt).trans X.x3
      have hpl := X.bs.le
      have hpm := X.bs.max
      unfold maxLen at hpm
      have i0 : 0 ≤ (i : Int) := by omega
      have i1 : (i : Int) < os.length := by omega
      have HBX : Hid (Bs w w.heap.size A1 c1 o.p) := Lib.hid X.bs
      obtain ⟨ob, hob⟩ : ∃ ob : Obj, ob = (.cells #[.int .i64 o.k, .slice A1 o.p.length c1, .int .i64 o.n, .slice A2 o.ks.length c2] 50) := ⟨_, rfl⟩
      have HBO : Hid (Below W0.heap.size W0 (W0.alloc ob)) := Lib.hid ((Below.refl _ _).alloc (Nat.le_refl _) _)
      have HBW : Hid (Below w.heap.size w (W0.alloc ob)) := Lib.hid (HZ.out.bel.alloc HZ.out.bel.size _)
      have HY1 : Hid (∀ w', Tn (fun k => k < W0.heap.size) (W0.alloc ob) w' → w'.cell? ⟨W0.heap.size, 1, none⟩ = some (.slice A1 o.p.length c1)) := Lib.hid fun w' t => t.cell (by rw [hob]; simp [go_sem]) (by simp)
      have hws : w.heap.size ≤ W0.heap.size := HZ.out.bel.size
      clear X
      by_cases h60 : i < 60
      · have q60 : decide ((60 : Int) ≤ (i : Int)) = false := by simp; omega
        by_cases hp : o.p.length ≤ 1500
        · have qp : decide ((1500 : Int) < (o.p.length : Int)) = false := by simp; omega
          have HP := Lib.hid hp
          have hsz : b.length ≤ 18 + 1500 + 60 * 1509 := by
            have h1 := HN.out.1
            have h2 := recsB_len all HN.out.2.1
            have h3 := HN.out.2.2.1
            have h4 : all.length * (9 + 1500) ≤ 60 * 1509 := Nat.mul_le_mul (by have := HN.out.2.2.2.1; omega) (by omega)
            rw [HF.out, List.length_append, framesB_len]
            simp only [recsB, List.flatMap_nil, List.length_nil] at h2 ⊢
            omega
          have HSZ := Lib.hid hsz
          have H60 := Lib.hid h60
          clear hsz h60 hp
          by_cases k0 : o.k = 0
          · have e0 : (o.k == (0 : Int)) = true := by simpa using k0
            clear k0
            have HC := Lib.hid (HZ.out.app ob (HBX.out.below HBW.out) hws (by have := HP.out; omega) (by have := HP.out; have := HSZ.out; omega))
            go_wp2_with fail
            rw [← hob]
            refine HC.out.mono ?_
            rintro e W2 ⟨rfl, Z2, t2⟩
            have y1 := HY1.out _ t2
            have yl : W0.heap.size < W2.heap.size := World.block_lt_of_cell? _ _ y1
            have hca2 := Z2.rr.le
            have HBW2 := Lib.hid Z2.bel
            have HZ2 := Lib.hid Z2
            clear Z2 t2 HC HY1 HZ
            go_wp2_with (first
              | (at_builtin; refine wpList_app _ rfl (.tmp 118) (.tmp 120) rfl W2.heap.size (.slice (some ⟨W2.heap.size, 0, none⟩) 0 0) [] rfl (lit_ob W2 W2.heap.size W2.heap.size rfl (Nat.le_refl _) #[] 0 [] rfl rfl (by decide)) A1 o.p.length c1 o.p rfl rfl w.heap.size ((HBX.out.below HBW2.out).alloc HBW2.out.size _) o.p.length (by simp) (by have := HP.out; simp; omega) (by simp) ?_; intro A3 c3 W3 ho3 gr3 at3; have b3 : Below W2.heap.size W2 W3 := grown_below ((Below.refl _ _).alloc (Nat.le_refl _) _) gr3 (by simp) (by simp [Value.ownBlock]); have z3 := b3.size; obtain ⟨B3, D2, hB3, hp3, rz2⟩ := HZ2.out.ex; have HBT := Lib.hid D2.bt; have D3 := D2.below b3; have HRZ := Lib.hid (rz2.below b3); have hpW2 : p < W2.heap.size := HZ2.out.lt; have hrlt := rz2.lt; have hrl := HN.out; have hwp3 : p < W3.heap.size := (HZ2.out.below b3).lt; have HNE : Hid (∀ ad : Addr, A3 = some ad → 0 < o.p.length → (w.heap.size ≤ ad.block ∧ ¬ B3 ad.block ∧ ad.block ≠ p) ∧ (Value.slice Aa all.length ca).ownBlock ≠ some ad.block) := Lib.hid (fun ad e hl => by have h5 := (own_block ho3 hl e rfl).1; exact ⟨⟨by have := HBW2.out.size; omega, fun h => by have := HBT.out _ h; omega, by omega⟩, fun h => by have := hrlt _ h; omega⟩))
              | (at_builtin; refine wpList_pushZ Try.underlying40 info_bsl rfl _ rfl (.tmp 117) (.tmp 122) rfl (fun k => w.heap.size ≤ k ∧ ¬ B3 k ∧ k ≠ p) (.slice Aa all.length ca) all rfl HRZ.out o.p A3 c3 W3.heap.size rfl rfl ho3.bs.1 HNE.out (all.length + 1) rfl (by omega) (fun g hg => ⟨by have := HBW2.out.size; omega, fun h => by have := HBT.out _ h; omega, by omega⟩) ?_; intro A5 c5 W5 rz5 gr5 hat5))
            have hz9 : ∀ g, (Value.slice Aa all.length ca).ownBlock = some g → w.heap.size ≤ g ∧ ¬ B3 g ∧ g ≠ p := by
              obtain ⟨xs, _, hz, _⟩ := HRZ.out
              exact hz
            have HFIN := Lib.hid ((HZ2.out.below b3).all_ (A2 := A5) (c2 := c5) (all2 := all ++ [o.p]) D3 hB3 hp3 ((Tn.ofGrown gr5).mono fun k _ e => e.symm) hz9 (by simpa using rz5))
            have HF2 : Hid (b ++ sealB 1 o.p = framesB base [] ++ recsB (all ++ [o.p])) := Lib.hid (by rw [HF.out, recsB_snoc, List.append_assoc])
            have HN2 : Hid (base.length ≤ 1500 ∧ (∀ x ∈ all ++ [o.p], x.length ≤ 1500) ∧ (all ++ [o.p]).length ≤ i + 1 ∧ i + 1 ≤ 60 ∧ seg ≤ 1 + ((i + 1 : Nat) : Int)) := Lib.hid ⟨hrl.1, fun x hx => (List.mem_append.1 hx).elim (hrl.2.1 x) fun h => by simp at h; subst h; exact HP.out, by simp; exact hrl.2.2.1, by have := H60.out; omega, by have := hrl.2.2.2.2; omega⟩
            clear ho3 gr3 at3 b3 D3 D2 hB3 hp3 rz2 hrlt hz9 rz5 gr5 hat5 hrl
            go_wp2_with fail
            go_roundw
            case rel => exact ⟨i + 1, p, Ab, cb, base, A5, c5, all ++ [o.p], b ++ sealB 1 o.p, l, seg, by go_num, rfl, rfl, by simp, hlt, HFIN, HF2, HBS, HN2⟩
            case measure => simp [intOf]; omega
          · by_cases k1 : o.k = 1
            · have e0 : (o.k == (0 : Int)) = false := by simpa using k0
              have e1 : (o.k == (1 : Int)) = true := by simpa using k1
              clear k0 k1
              have HC := Lib.hid (HZ.out.sync ob)
              go_wp2_with fail
              rw [← hob]
              refine HC.out.mono ?_
              rintro e W2 ⟨rfl, Z2, t2⟩
              have HZ2 := Lib.hid Z2
              have HN2 : Hid (base.length ≤ 1500 ∧ (∀ x ∈ all, x.length ≤ 1500) ∧ all.length ≤ i + 1 ∧ i + 1 ≤ 60 ∧ seg ≤ 1 + ((i + 1 : Nat) : Int)) := Lib.hid ⟨HN.out.1, HN.out.2.1, by have := HN.out.2.2.1; omega, by have := H60.out; omega, by have := HN.out.2.2.2.2; omega⟩
              clear Z2 t2 HC HY1
              go_wp2_with fail
              go_roundw
              case rel => exact ⟨i + 1, p, Ab, cb, base, Aa, ca, all, b, b.length, seg, by go_num, rfl, rfl, rfl, hlt, HZ2, HF, HBS, HN2⟩
              case measure => simp [intOf]; omega
            · by_cases k2 : o.k = 2
              · have e0 : (o.k == (0 : Int)) = false := by simpa using k0
                have e1 : (o.k == (1 : Int)) = false := by simpa using k1
                have e2 : (o.k == (2 : Int)) = true := by simpa using k2
                clear k0 k1 k2
                have HC := Lib.hid (HZ.out.reb ob (HBX.out.below HBW.out) hws (by have := HP.out; omega) (by have := HN.out.2.2.2; omega) (by have := HP.out; have := HSZ.out; omega))
                go_wp2_with fail
                rw [← hob]
                refine HC.out.mono ?_
                rintro e W2 ⟨rfl, Z2, t2⟩
                have y1 := HY1.out _ t2
                have yl : W0.heap.size < W2.heap.size := World.block_lt_of_cell? _ _ y1
                have HZ2 := Lib.hid Z2.none_
                have HN2 : Hid (o.p.length ≤ 1500 ∧ (∀ x ∈ ([] : List (List UInt8)), x.length ≤ 1500) ∧ ([] : List (List UInt8)).length ≤ i + 1 ∧ i + 1 ≤ 60 ∧ seg + 1 ≤ 1 + ((i + 1 : Nat) : Int)) := Lib.hid ⟨HP.out, fun x hx => (by cases hx), by simp, by have := H60.out; omega, by have := HN.out.2.2.2.2; omega⟩
                have HF2 : Hid (framesB o.p [] = framesB o.p [] ++ recsB []) := Lib.hid (by simp [recsB])
                clear Z2 t2 HC HY1
                go_wp2_with fail
                go_roundw
                case rel => exact ⟨i + 1, p, A1, c1, o.p, none, 0, [], framesB o.p [], 18 + o.p.length, seg + 1, by go_num, rfl, rfl, rfl, hlt, HZ2, HF2, HBX, HN2⟩
                case measure => simp [intOf]; omega
              · have e0 : (o.k == (0 : Int)) = false := by simpa using k0
                have e1 : (o.k == (1 : Int)) = false := by simpa using k1
                have e2 : (o.k == (2 : Int)) = false := by simpa using k2
                clear k0 k1 k2
                have hrd : readB b = some (base, all, b.length) := by
                  have h := readB_frames base [] all (by have := HN.out.1; omega) (fun x hx => (by cases hx)) (fun x hx => by have := HN.out.2.1 x hx; omega)
                  rw [List.nil_append, ← HF.out] at h
                  exact h
                have HRD := Lib.hid hrd
                have HZ1 := Lib.hid (HZ.out.below HBO.out)
                clear hrd HY1
                go_wp2_with fail
                rw [← hob]
                refine (HZ1.out.open_ HRD.out).mono ?_
                rintro e W1 ⟨b1, p1, A3, c3, A4, c4, rfl, Z1, o1, r1⟩
                have HZ2 := Lib.hid Z1
                clear Z1
                go_wp2_with fail
                refine (HZ2.out.open_ HRD.out).mono ?_
                rintro e W2 ⟨b2, p2, A5, c5, A6, c6, rfl, Z2, o2, r2⟩
                have HBW2 := Lib.hid Z2.bel
                have h1 : (convert 30 9 (.slice A3 base.length c3)).run Try.prog W2 = .ok (.string (strB base)) W2 := bs_str (o1.below b2).bs.1 rfl
                have h2 : (convert 30 9 (.slice Ab base.length cb)).run Try.prog W2 = .ok (.string (strB base)) W2 := bs_str (HBS.out.below HBW2.out) rfl
                have h3 : (convert 30 9 (.slice A5 base.length c5)).run Try.prog W2 = .ok (.string (strB base)) W2 := bs_str o2.bs.1 rfl
                have HR1 := Lib.hid (r1.below b2).pr.1
                have HR2 := Lib.hid r2.pr.1
                have HRA := Lib.hid Z2.rr
                have HZ3 := Lib.hid Z2
                have g3 := o1.bs.1.le
                have g5 := o2.bs.1.le
                have g4 := r1.pr.1.le
                have g6 := r2.pr.1.le
                have HN2 : Hid (base.length ≤ 1500 ∧ (∀ x ∈ all, x.length ≤ 1500) ∧ all.length ≤ i + 1 ∧ i + 1 ≤ 60 ∧ seg ≤ 1 + ((i + 1 : Nat) : Int)) := Lib.hid ⟨HN.out.1, HN.out.2.1, by have := HN.out.2.2.1; omega, by have := H60.out; omega, by have := HN.out.2.2.2.2; omega⟩
                clear Z2 o1 r1 b1 o2 r2 b2 HZ1 HZ2 HRD
                go_wp2_with fail
                refine (wsame_any HR1.out HRA.out (Nat.le_refl _) (Nat.le_refl _)).mono ?_
                rintro e W3 ⟨rfl, b3⟩
                have HZ4 := Lib.hid (HZ3.out.below b3)
                have HC2 := Lib.hid (wsame_any (HR2.out.below b3) (HRA.out.below b3) b3.size b3.size)
                clear h1 h2 h3 b3
                go_wp2_with fail
                refine HC2.out.mono ?_
                rintro e W4 ⟨rfl, b4⟩
                have HZ5 := Lib.hid (HZ4.out.below b4)
                clear b4
                go_wp2_with fail
                go_roundw
                case rel => exact ⟨i + 1, p2, Ab, cb, base, Aa, ca, all, b, l, seg, by go_num, rfl, rfl, rfl, hlt, HZ5, HF, HBS, HN2⟩
                case measure => simp [intOf]; omega
        · have qp : decide ((1500 : Int) < (o.p.length : Int)) = true := by simp; omega
          clear h60 hp
          go_wp2_with fail
          rw [← hob]
          go_ret
          exact ⟨rfl, HBW.out⟩
      · have q60 : decide ((60 : Int) ≤ (i : Int)) = true := by simp; omega
        clear h60
        go_wp2_with fail
        rw [← hob]
        go_ret
        exact ⟨rfl, HBW.out⟩
    · have i1 : ¬ (i : Int) < os.length := by omega
      have HZB := Lib.hid HZ.out.bel
      go_wp2_with fail
      go_ret
      exact ⟨rfl, HZB.out⟩
end Go.Proofs.Ytpckbbjlihhpdaa
namespace Go.Proofs.Ytpckbbjlihhpdaa
open Go.ChangeShapes Go.WideShapes Go.ChangeAt Go.RowKit

set_option maxRecDepth 100000 in
theorem walreads_lifted (os : Os) (started : os.Started) (H : Type) (enc : TypeId × Value → H) :
    ReturnsInHanded {} Try.checked os 6 .any (Rows.walReadsSpec.pre6 enc Try.prog Try.f6 Rows.walReadsRow.domain false) (Rows.walReadsSpec.post enc Try.prog Try.f6 false true false false) := by
  refine returnsInHanded_of_change (C := Try.checked) own started (by kernel_rfl) Try.func6
    (ChangeSpec.witness6 (enc := enc) (C := Try.checked) false ⟨#[], #[.slice none 0 0], []⟩ 8 (by kernel_rfl) (by kernel_rfl) (by kernel_rfl) (by kernel_rfl)) ?_
  intro W base args ds gs before hval0 hW hcnd _
  have hval : ∀ (j : Nat) t v, Try.f6.params[j]? = some t → args[j]? = some v → Value.okWide Try.prog W .any base t v := hval0
  have hW' := hW
  obtain ⟨p, q, hA0, hV, rfl, hfz, hnd⟩ := hW
  have hA : DataW.TrodAll enc Try.prog W 0 (fun _ => true) true Try.f6.params.toList args.toList ds p := hA0
  rw [Try.params6] at hA hval
  obtain ⟨v0, vs0, d0, ds0, p0, q0, hargs, hds, hps, h0, r0⟩ := trodAll_cons hA
  obtain ⟨e1, e2, e3⟩ := trodAll_nil r0
  subst e1 e2 e3
  subst hds hps
  obtain rfl : args = #[v0] := by cases args; simp_all
  obtain ⟨rfl, rfl⟩ := trodVars_none hV
  obtain ⟨oA, oc, o, rfl, oh, oz⟩ := open_ops9z (hval 0 _ v0 rfl rfl) h0
  refine (walreads_any oA oc o W oh).mono fun e W' ⟨he, hg⟩ => ?_
  subst he
  exact ⟨_, rfl, law_post (s := Rows.walReadsSpec) hW' rfl rfl (by kernel_rfl) ⟨rfl, rfl, rfl⟩ hg⟩

theorem walreads_holds : Rows.WalReadsSaid :=
  OpenClaim.holds_of_wide 6 Try.f6 rfl rfl rfl rfl rfl rfl rfl ⟨rfl, rfl, rfl, rfl, rfl⟩ rfl rfl rfl rfl rfl (by kernel_rfl) Try.func6 (by kernel_rfl)
    (of_decide_eq_true (by kernel_rfl)) (by unfold Func.isWrapper; first | (rw [if_pos (by decide +kernel)]; kernel_rfl) | (rw [if_neg (by decide +kernel)]; exact ⟨rfl, rfl⟩))
    (fun os started H enc _ => walreads_lifted os started H enc)

end Go.Proofs.Ytpckbbjlihhpdaa
