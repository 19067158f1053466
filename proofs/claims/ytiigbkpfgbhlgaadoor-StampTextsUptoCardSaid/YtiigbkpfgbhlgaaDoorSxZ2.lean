/- The document's Parse of a stamp's text: the walk. -/
import Derived.Test.YtiigbkpfgbhlgaaDoorSxZ
namespace Go.Proofs.YtiigbkpfgbhlgaaDoor
open Go.RowKit

theorem CutB.len {l : List UInt8} {k at_ : Nat} {u : Nat → List UInt8} (h : CutB l k at_ u) : (u at_).length ≤ k := by
  have e := congrArg List.length h.eq
  have := h.le
  rw [List.length_take] at e
  rcases (show at_ = 0 ∨ at_ = 1 ∨ at_ = 2 by omega) with rfl | rfl | rfl <;> simp [catB] at e <;> omega

theorem number_lit (u : List UInt8) (most : Nat) (M : Int) (w : World) (hM : (most : Int) = M) (hm : most ≤ 9223372036854775807) : Calls Tryd.prog 18 #[.string (strB u), .int .u64 M] w (NumPost w u most) := by
  subst hM
  have h := number_any (strB u) most w hm
  have e : (strB u).data.toList = u := by simp [strB]
  rwa [e] at h
set_option maxRecDepth 100000 in
set_option maxHeartbeats 3200000 in
theorem rparse_any (t : ByteArray) (w : World) (hs : t.size ≤ 1048576) :
    Calls Tryd.prog 7 #[.string t] w (DocPost w t.data.toList) := by
  go_enter Tryd.func7, Tryd.ntmps7
  go_wp2_with fail
  have J0 : ZW w (fun _ => []) ((w.alloc (.cells #[.int .i64 0, .int .u32 0, .int .u32 0] 24)).alloc (.cells #[.string ⟨#[]⟩, .string ⟨#[]⟩, .string ⟨#[]⟩] 37)) :=
    ⟨by go_grown, by simp, by simp, by simp, by simp, by simp, fun i hi => by
      rcases (show i = 0 ∨ i = 1 ∨ i = 2 by omega) with rfl | rfl | rfl <;> (simp; rfl), by simp⟩
  go_loopw [5, 6] (fun a i wr => ∃ (k at_ : Nat) (u : Nat → List UInt8), k ≤ t.size ∧ a = .int .i64 at_ ∧ i = .int .i64 k ∧ ZW w u wr ∧ Hid (CutB t.data.toList k at_ u)) (fun _ i _ => t.size - (intOf i).toNat)
  case atStart => exact ⟨0, 0, _, Nat.zero_le _, rfl, rfl, J0, Lib.hid (CutB.start _)⟩
  case round =>
    obtain ⟨k, at_, u, hk, rfl, rfl, J, HC⟩ := hrel
    clear J0
    have hle := HC.out.le
    by_cases hlt : k < t.size
    · have HG := Lib.hid (byte_get t k hlt)
      have r0 := J.r0
      have r1 := J.r1
      have r2 := J.r2
      have rf0 := J.rf 0
      have rf1 := J.rf 1
      have rf2 := J.rf 2
      have p0 := J.p 0 (by omega)
      have p1 := J.p 1 (by omega)
      have p2 := J.p 2 (by omega)
      have pf0 := J.pf 0
      have pf1 := J.pf 1
      have pf2 := J.pf 2
      have bl := J.bl
      have sz := J.sz
      have hs0 : w.heap.size < wr.heap.size := by omega
      have hs1 : w.heap.size + 1 < wr.heap.size := by omega
      by_cases hc : (t[k]).toNat = 46
      · have e1 : ((t[k]).toNat : Int) = 46 := by rw [hc]; rfl
        have e2 : (((t[k]).toNat : Int) != 46) = false := by rw [e1]; rfl
        have h46 : t[k] = 46 := UInt8.toNat_inj.1 hc
        have HG' : Hid (t.data.toList[k]? = some 46) := Lib.hid (HG.out.trans (congrArg some h46))
        clear hc h46
        rcases (show at_ = 0 ∨ at_ = 1 ∨ at_ = 2 by omega) with rfl | rfl | rfl
        · have HN := Lib.hid (HC.out.dot HG'.out (by omega))
          go_wp2_with fail
          go_roundw
          case rel => exact ⟨k + 1, 1, u, by omega, rfl, by go_num, J, HN⟩
          case measure => simp [intOf]; omega
        · have HN := Lib.hid (HC.out.dot HG'.out (by omega))
          go_wp2_with fail
          go_roundw
          case rel => exact ⟨k + 1, 2, u, by omega, rfl, by go_num, J, HN⟩
          case measure => simp [intOf]; omega
        · have HF : Hid (∀ w', Below w.heap.size w w' → DocPost w t.data.toList (.returned (.tuple #[stv 0 0 0, .int .i64 10])) w') := Lib.hid fun w' hb => ⟨hb, .inr ⟨HC.out.over HG'.out, rfl⟩⟩
          obtain ⟨t0, t1, t2⟩ := three r0 r1 r2
          go_wp2_with fail
          exact bodyPost_ret (v := .tuple #[stv 0 0 0, .int .i64 10]) (by simp [results, Tryd.results7, go_sem, t0, t1, t2]) rfl (HF.out _ (by go_grown))
      · have e1 : ¬ ((t[k]).toNat : Int) = 46 := by omega
        have e2 : (((t[k]).toNat : Int) != 46) = true := by rw [bne_iff_ne]; exact e1
        obtain ⟨P, hP⟩ : ∃ P, t.extract k (k + 1) = P := ⟨_, rfl⟩
        have hps : P.size = 1 := by rw [← hP, piece1 t k hlt, strB_size]; rfl
        have HP := Lib.hid hP
        have hwr : IntKind.i64.wrap ((k : Int) + 1) = (k : Int) + 1 := by rw [IntKind.wrap_i64]; omega
        have hk1 : (0 : Int) ≤ (k : Int) + 1 := by omega
        have hk2 : (k : Int) + 1 ≤ (t.size : Int) := by omega
        have hk3 : (k : Int) ≤ (k : Int) + 1 := by omega
        rcases (show at_ = 0 ∨ at_ = 1 ∨ at_ = 2 by omega) with rfl | rfl | rfl
        · have hu : (strB (u 0)).size ≤ k := by rw [strB_size]; exact HC.out.len
          have HN : Hid (CutB t.data.toList (k + 1) 0 (upd1 u 0 t[k])) := Lib.hid (HC.out.ch HG.out (fun e => hc (by rw [e]; rfl)))
          have hlim : ¬ 9223372036854775807 < (strB (u 0)).size + 1 := by omega
          have HU : Hid (strB (u 0) ++ P = strB (u 0 ++ [t[k]])) := Lib.hid (by rw [← HP.out, piece1 t k hlt, strB_app])
          go_wp2_with fail
          go_region_law fail
          all_goals
            go_wp2_with fail
            go_roundw
            case rel => exact ⟨k + 1, 0, upd1 u 0 t[k], by omega, rfl, by go_num, (J.set (by omega) t[k] _ HU.out).drew _, HN⟩
            case measure => simp [intOf]; omega
        · have hu : (strB (u 1)).size ≤ k := by rw [strB_size]; exact HC.out.len
          have HN : Hid (CutB t.data.toList (k + 1) 1 (upd1 u 1 t[k])) := Lib.hid (HC.out.ch HG.out (fun e => hc (by rw [e]; rfl)))
          have hlim : ¬ 9223372036854775807 < (strB (u 1)).size + 1 := by omega
          have HU : Hid (strB (u 1) ++ P = strB (u 1 ++ [t[k]])) := Lib.hid (by rw [← HP.out, piece1 t k hlt, strB_app])
          go_wp2_with fail
          go_region_law fail
          all_goals
            go_wp2_with fail
            go_roundw
            case rel => exact ⟨k + 1, 1, upd1 u 1 t[k], by omega, rfl, by go_num, (J.set (by omega) t[k] _ HU.out).drew _, HN⟩
            case measure => simp [intOf]; omega
        · have hu : (strB (u 2)).size ≤ k := by rw [strB_size]; exact HC.out.len
          have HN : Hid (CutB t.data.toList (k + 1) 2 (upd1 u 2 t[k])) := Lib.hid (HC.out.ch HG.out (fun e => hc (by rw [e]; rfl)))
          have hlim : ¬ 9223372036854775807 < (strB (u 2)).size + 1 := by omega
          have HU : Hid (strB (u 2) ++ P = strB (u 2 ++ [t[k]])) := Lib.hid (by rw [← HP.out, piece1 t k hlt, strB_app])
          go_wp2_with fail
          go_region_law fail
          all_goals
            go_wp2_with fail
            go_roundw
            case rel => exact ⟨k + 1, 2, upd1 u 2 t[k], by omega, rfl, by go_num, (J.set (by omega) t[k] _ HU.out).drew _, HN⟩
            case measure => simp [intOf]; omega
    · have hks : k = t.size := by omega
      subst hks
      have HD : Hid (CutB t.data.toList t.data.toList.length at_ u) := Lib.hid (by simpa using HC.out)
      have r0 := J.r0
      have r1 := J.r1
      have r2 := J.r2
      have rf0 := J.rf 0
      have rf1 := J.rf 1
      have rf2 := J.rf 2
      have p0 := J.p 0 (by omega)
      have p1 := J.p 1 (by omega)
      have p2 := J.p 2 (by omega)
      have bl := J.bl
      have sz := J.sz
      have hs0 : w.heap.size < wr.heap.size := by omega
      have hs1 : w.heap.size + 1 < wr.heap.size := by omega
      obtain ⟨N0, hN0⟩ : ∃ N : Nat, N = 4611686018427387904 := ⟨_, rfl⟩
      have HN0 := Lib.hid (fun W => number_lit (u 0) N0 4611686018427387904 W (by rw [hN0]; rfl) (by omega))
      have HE0 := Lib.hid hN0
      obtain ⟨N1, hN1⟩ : ∃ N : Nat, N = 4294967295 := ⟨_, rfl⟩
      have HN1 := Lib.hid (fun W => number_lit (u 1) N1 4294967295 W (by rw [hN1]; rfl) (by omega))
      have HE1 := Lib.hid hN1
      obtain ⟨N2, hN2⟩ : ∃ N : Nat, N = 4294967295 := ⟨_, rfl⟩
      have HN2 := Lib.hid (fun W => number_lit (u 2) N2 4294967295 W (by rw [hN2]; rfl) (by omega))
      have HE2 := Lib.hid hN2
      obtain ⟨t0, t1, t2⟩ := three r0 r1 r2
      clear HC hk hlt hN0 hN1 hN2
      go_wp2_with fail
      refine (HN0.out _).mono ?_
      rintro e w1 ⟨rfl, n0, b0, rfl, h0⟩
      have H0 := Lib.hid h0
      clear h0 HN0
      go_wp2_with fail
      refine (HN1.out _).mono ?_
      rintro e w1 ⟨rfl, n1, b1, rfl, h1⟩
      have H1 := Lib.hid h1
      clear h1 HN1
      go_wp2_with fail
      refine (HN2.out _).mono ?_
      rintro e w1 ⟨rfl, n2, b2, rfl, h2⟩
      have H2 := Lib.hid h2
      clear h2 HN2
      by_cases hg : at_ = 2 ∧ b0 = true ∧ b1 = true ∧ b2 = true
      · obtain ⟨rfl, rfl, rfl, rfl⟩ := hg
        have g0 := (HE0.out ▸ H0.out).1 rfl
        have g1 := (HE1.out ▸ H1.out).1 rfl
        have g2 := (HE2.out ▸ H2.out).1 rfl
        have HF : Hid (∀ w', Below w.heap.size w w' → DocPost w t.data.toList (.returned (.tuple #[stv n0 n1 n2, .int .i64 0])) w') := Lib.hid fun w' hb => ⟨hb, .inl ⟨n0, n1, n2, HD.out.good g0 g1 g2, rfl⟩⟩
        have m0 := g0.1
        have m1 := g1.1
        have m2 := g2.1
        clear g0 g1 g2
        go_wp2_with fail
        exact bodyPost_ret (v := .tuple #[stv n0 n1 n2, .int .i64 0]) (by simp [results, Tryd.results7, go_sem, t0, t1, t2]) rfl (HF.out _ (by go_grown))
      · have HF : Hid (∀ w', Below w.heap.size w w' → DocPost w t.data.toList (.returned (.tuple #[stv 0 0 0, .int .i64 10])) w') := Lib.hid fun w' hb => ⟨hb, .inr ⟨fun a b c hr => by
          obtain ⟨e1, e2, e3, e4⟩ := HD.out.done hr
          obtain ⟨⟨k1, k2, k3⟩, _⟩ := hr
          refine hg ⟨e1, ?_, ?_, ?_⟩
          · cases b0
            · exact absurd e2 ((HE0.out ▸ H0.out).2 rfl a k1)
            · rfl
          · cases b1
            · exact absurd e3 ((HE1.out ▸ H1.out).2 rfl b k2)
            · rfl
          · cases b2
            · exact absurd e4 ((HE2.out ▸ H2.out).2 rfl c k3)
            · rfl, rfl⟩⟩
        rcases (show at_ = 0 ∨ at_ = 1 ∨ at_ = 2 by omega) with rfl | rfl | rfl <;> cases b0 <;> cases b1 <;> cases b2 <;> first
          | (exfalso; exact hg ⟨rfl, rfl, rfl, rfl⟩)
          | (clear hg
             go_wp2_with fail
             exact bodyPost_ret (v := .tuple #[stv 0 0 0, .int .i64 10]) (by simp [results, Tryd.results7, go_sem, t0, t1, t2]) rfl (HF.out _ (by go_grown)))
end Go.Proofs.YtiigbkpfgbhlgaaDoor
