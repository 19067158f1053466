/- The document's Number. -/
import Derived.Test.YtcfbcidakddhfaaGreatDoorPr21
import Derived.Deep.CutBlock
import Derived.Test.YtcfbcidakddhfaaGreatDoorPr20
import Derived.LoopTactic
namespace Go.Proofs.YtcfbcidakddhfaaGreatDoor
open Go.RowKit Go.BigFrame

def encI (x : Int) : List Value := [.int .i64 x]
theorem encI_len (x : Int) : (encI x).length = 1 := rfl
theorem encI_one (x : Int) : ∀ u ∈ encI x, u.oneCell' = true := by intro u hu; simp [encI] at hu; subst hu; rfl
def Iok (x : Int) : Prop := -9223372036854775808 ≤ x ∧ x ≤ 9223372036854775807
theorem i_cell {w : World} {K cap : Nat} {A : Option Addr} {l : List Int} (h : Sr encI 1 w K A cap l) {i : Nat} (hi : i < l.length) : ∃ ad : Addr, A = some ad ∧ ad.block < K ∧ w.cell? (ad.add i) = some (.int .i64 l[i]) := by
  obtain ⟨ad, e, hb, h0, _⟩ := h.get2 hi
  rw [Nat.mul_one] at h0
  exact ⟨ad, e, hb, h0 _ rfl⟩
/-- The digits' box, new since a world. -/
structure Dw (w wr : World) (f : Nat → Int) : Prop where
  d : Ds wr w.heap.size f
  lt : w.heap.size < wr.heap.size
  bel : Below w.heap.size w wr
theorem Dw.start (w : World) (T : TypeId) : Dw w (w.alloc (.cells #[.int .i64 0, .int .i64 0, .int .i64 0, .int .i64 0, .int .i64 0, .int .i64 0, .int .i64 0, .int .i64 0] T)) (fun _ => 0) := by
  refine ⟨⟨fun i hi => ?_, fun j => by simp [go_sem]⟩, by simp, by go_grown⟩
  obtain rfl | rfl | rfl | rfl | rfl | rfl | rfl | rfl : i = 0 ∨ i = 1 ∨ i = 2 ∨ i = 3 ∨ i = 4 ∨ i = 5 ∨ i = 6 ∨ i = 7 := by omega
  all_goals simp [go_sem]
theorem Dw.put {w wr : World} {f : Nat → Int} (h : Dw w wr f) (i : Nat) (x : Int) : Dw w (wr.setCell ⟨w.heap.size, i, none⟩ (.int .i64 x)) (upd f i x) :=
  ⟨h.d.put i x, by have := h.lt; simpa using this, h.bel.setCell (p := ⟨w.heap.size, i, none⟩) (Nat.le_refl _) _⟩
theorem u64_add (x : Int) (h : Iok x) : ∃ v : Nat, ((v : Int) = x + 9223372036854775808 ∧ v < 18446744073709551616) ∧ ∃ U : Nat, IntKind.u64.wrap x = (U : Int) ∧ IntKind.u64.wrap ((U : Int) + 9223372036854775808) = (v : Int) := by
  unfold Iok at h
  refine ⟨(x + 9223372036854775808).toNat, by omega, (x % 18446744073709551616).toNat, ?_, ?_⟩
  · rw [IntKind.wrap_u64]; omega
  · rw [IntKind.wrap_u64]; omega
theorem pw_pos : ∀ k, 1 ≤ pw k
  | 0 => by decide
  | 1 => by decide
  | 2 => by decide
  | 3 => by decide
  | _ + 4 => by simp [pw]
theorem In.lt {s T B v : Int} {k : Nat} {f : Nat → Int} (h : In s T B k v f) : v < 18446744073709551616 := by
  have h1 := Int.mul_le_mul_of_nonneg_left (pw_pos k) h.v0
  have := h.vb
  omega
theorem top_next (f : Nat → Int) {j : Nat} (h : j < 4) : top f j = top f (j + 1) * 65536 + f j := by
  obtain rfl | rfl | rfl | rfl : j = 0 ∨ j = 1 ∨ j = 2 ∨ j = 3 := by omega
  all_goals simp [top]
theorem top_bound (f : Nat → Int) (h : ∀ i, i < 4 → 0 ≤ f i ∧ f i ≤ 65535) (j : Nat) : 0 ≤ top f j ∧ top f j < 18446744073709551616 ∧ (1 ≤ j → top f j < 281474976710656) := by
  have h0 := h 0 (by omega)
  have h1 := h 1 (by omega)
  have h2 := h 2 (by omega)
  have h3 := h 3 (by omega)
  match j with
  | 0 => simp only [top]; omega
  | 1 => simp only [top]; omega
  | 2 => simp only [top]; omega
  | 3 => simp only [top]; omega
  | _ + 4 => simp [top]
set_option maxRecDepth 100000 in
set_option maxHeartbeats 3200000 in
theorem total_any (K : Nat) (A B : Option Addr) (n m ca cb : Nat) (l : List Int) (q : List Int) (w : World) (hln : l.length = n) (hqm : q.length = m) (hp : Sr encI 1 w K A ca l) (hq : Sr encI 1 w K B cb q) (hK : K ≤ w.heap.size) (hl : l.length ≤ 65536) (hqs : q.length ≤ 1) (hok : ∀ x ∈ l, Iok x) (hoq : ∀ x ∈ q, Iok x) :
    Calls Tryz.prog 65 #[.slice A n ca, .slice B m cb] w fun e w' => e = .returned (.tuple #[.int .i64 (rangeB (sumZ l - sumZ q)).1, .bool ((rangeB (sumZ l - sumZ q)).2 == 0)]) ∧ Below w.heap.size w w' := by
  subst hln hqm
  have hle := hp.le
  have hmax := hp.max
  have hle2 := hq.le
  have hmax2 := hq.max
  unfold maxLen at hmax hmax2
  have HP := Lib.hid hp
  have HQ := Lib.hid hq
  have HO := Lib.hid hok
  have HOQ := Lib.hid hoq
  clear hp hq hok hoq
  go_enter Tryz.func65, Tryz.ntmps65
  go_wp2
  go_loopw [7] (fun i wr => ∃ (k : Nat) (f : Nat → Int), k ≤ l.length ∧ i = .int .i64 k ∧ Hid (Ou (sumZ (l.take k) + 9223372036854775808 * k) (65535 * k) f) ∧ Hid (Dw w wr f)) (fun i _ => l.length - (intOf i).toNat)
  case atStart => exact ⟨0, fun _ => 0, Nat.zero_le _, rfl, Lib.hid ⟨by simp [dv, sumZ], fun i _ => by simp, fun i _ => rfl⟩, Lib.hid (Dw.start w _)⟩
  case round =>
    obtain ⟨k, f, hk, rfl, HU, HD⟩ := hrel
    rename World => wr
    by_cases hlt : k < l.length
    · obtain ⟨ad, rfl, _, h1⟩ := i_cell (HP.out.below (HD.out.bel.mono hK)) hlt
      have hx := HO.out _ (List.getElem_mem hlt)
      have HN := Lib.hid (sumZ_next hlt)
      generalize l[k] = x at *
      obtain ⟨v, hv, U, hU, hUv⟩ := u64_add x hx
      have i1 : (k : Int) < l.length := by omega
      have HX := Lib.hid hx
      have HV := Lib.hid hv
      clear hx hv
      obtain ⟨TT, hTT⟩ : ∃ T, T = sumZ (l.take k) + 9223372036854775808 * k + 1 * (v : Int) := ⟨_, rfl⟩
      obtain ⟨BB, hBB⟩ : ∃ B : Int, B = 65535 * (k : Int) := ⟨_, rfl⟩
      have HIN : Hid (In 1 TT BB 0 (v : Int) f) := Lib.hid (by rw [hTT, hBB]; exact HU.out.start (by omega) (by have := HV.out.2; omega))
      have HTT : Hid (TT = sumZ (l.take (k + 1)) + 9223372036854775808 * ((k + 1 : Nat) : Int)) := Lib.hid (by rw [hTT, HN.out, HV.out.1]; omega)
      have hb0 : 0 ≤ BB ∧ BB ≤ 4294967296 := by omega
      have HBB : Hid (BB + 65535 = 65535 * ((k + 1 : Nat) : Int)) := Lib.hid (by rw [hBB]; omega)
      clear hTT hBB HU
      go_wp2_with fail
      go_loopw [8, 9] (fun vv jj wi => ∃ (j v' : Nat) (g : Nat → Int), j ≤ 4 ∧ jj = .int .i64 (j : Int) ∧ vv = .int .u64 (v' : Int) ∧ Hid (In 1 TT BB j (v' : Int) g) ∧ Hid (Dw w wi g)) (fun _ jj _ => 4 - (intOf jj).toNat)
      case atStart => exact ⟨0, v, f, by omega, rfl, rfl, Lib.hid HIN.out, Lib.hid HD.out⟩
      case round =>
        obtain ⟨j, v', g, hj, rfl, rfl, HI, HG⟩ := hrel
        rename World => wi
        clear HD HIN
        by_cases hj4 : j < 4
        · have hlo := HI.out.lo j hj4
          have hc := HG.out.d.c j (by omega)
          have hf := HG.out.d.fz j
          have HIS := Lib.hid (HI.out.step (by decide) hj4)
          obtain ⟨r, hr, hr1⟩ : ∃ r : Nat, (v' : Int) % 65536 = (r : Int) ∧ r ≤ 65535 := ⟨v' % 65536, by omega, by omega⟩
          obtain ⟨d, hd⟩ : ∃ d : Nat, (v' : Int) / 65536 = (d : Int) := ⟨v' / 65536, by omega⟩
          rw [hr, hd] at HIS
          obtain ⟨y, hy⟩ : ∃ y, y = g j := ⟨_, rfl⟩
          rw [← hy] at hlo hc HIS
          have hvl := HI.out.lt
          have e3 : IntKind.u64.wrap (d : Int) = (d : Int) := by rw [IntKind.wrap_u64]; omega
          have e1 : IntKind.i64.wrap (r : Int) = (r : Int) := wrapI _ (by omega) (by omega)
          have e2 : wrap64 (y + (r : Int)) = y + (r : Int) := by unfold wrap64; omega
          have HP2 := Lib.hid (HG.out.put j (y + (r : Int)))
          have HIS2 : Hid (In 1 TT BB (j + 1) (d : Int) (upd g j (y + (r : Int)))) := Lib.hid (by have h := HIS.out; rwa [show y + 1 * (r : Int) = y + (r : Int) by omega] at h)
          have i8 : (j : Int) < 8 := by omega
          have i4 : (j : Int) < 4 := by omega
          have HY := Lib.hid hy
          clear HIS HI hy hvl
          go_wp2_with fail
          go_roundw
          case rel => exact ⟨j + 1, d, _, by omega, by go_num, rfl, Lib.hid HIS2.out, Lib.hid HP2.out⟩
          case measure => simp [intOf]; omega
        · obtain rfl : j = 4 := by omega
          have HS := Lib.hid HI.out.stop
          clear HI
          go_wp2_with fail
          go_roundw
          case rel => exact ⟨k + 1, g, by omega, by go_num, Lib.hid (by rw [← HTT.out, ← HBB.out]; exact HS.out), Lib.hid HG.out⟩
          case measure => simp [intOf]; omega
    · obtain rfl : k = l.length := by omega
      rw [List.take_length] at HU
      have HU1 := Lib.hid HU.out
      have HD1 := Lib.hid HD.out
      clear HU HD hlt hk
      go_wp2_with fail
      go_loopw [10] (fun i wr => ∃ (k : Nat) (f : Nat → Int), k ≤ q.length ∧ i = .int .i64 k ∧ Hid (Ou (sumZ l + 9223372036854775808 * l.length - sumZ (q.take k) - 9223372036854775808 * k) (65535 * (l.length + k)) f) ∧ Hid (Dw w wr f)) (fun i _ => q.length - (intOf i).toNat)
      case atStart => exact ⟨0, f, Nat.zero_le _, rfl, Lib.hid (by have h := HU1.out; simpa [sumZ] using h), Lib.hid HD1.out⟩
      case round =>
        clear HU1 HD1
        obtain ⟨k, f, hk, rfl, HU, HD⟩ := hrel
        rename World => wr
        by_cases hlt : k < q.length
        · obtain ⟨ad, rfl, _, h1⟩ := i_cell (HQ.out.below (HD.out.bel.mono hK)) hlt
          have hx := HOQ.out _ (List.getElem_mem hlt)
          have HN := Lib.hid (sumZ_next hlt)
          generalize q[k] = x at *
          obtain ⟨v, hv, U, hU, hUv⟩ := u64_add x hx
          have i1 : (k : Int) < q.length := by omega
          have HX := Lib.hid hx
          have HV := Lib.hid hv
          clear hx hv
          obtain ⟨TT, hTT⟩ : ∃ T, T = sumZ l + 9223372036854775808 * l.length - sumZ (q.take k) - 9223372036854775808 * k + (-1) * (v : Int) := ⟨_, rfl⟩
          obtain ⟨BB, hBB⟩ : ∃ B : Int, B = 65535 * (l.length + (k : Int)) := ⟨_, rfl⟩
          have HIN : Hid (In (-1) TT BB 0 (v : Int) f) := Lib.hid (by rw [hTT, hBB]; exact HU.out.start (by omega) (by have := HV.out.2; omega))
          have HTT : Hid (TT = sumZ l + 9223372036854775808 * l.length - sumZ (q.take (k + 1)) - 9223372036854775808 * ((k + 1 : Nat) : Int)) := Lib.hid (by rw [hTT, HN.out, HV.out.1]; omega)
          have hb0 : 0 ≤ BB ∧ BB ≤ 4294967296 := by omega
          have HBB : Hid (BB + 65535 = 65535 * (l.length + ((k + 1 : Nat) : Int))) := Lib.hid (by rw [hBB]; omega)
          clear hTT hBB HU
          go_wp2_with fail
          go_loopw [11, 12] (fun vv jj wi => ∃ (j v' : Nat) (g : Nat → Int), j ≤ 4 ∧ jj = .int .i64 (j : Int) ∧ vv = .int .u64 (v' : Int) ∧ Hid (In (-1) TT BB j (v' : Int) g) ∧ Hid (Dw w wi g)) (fun _ jj _ => 4 - (intOf jj).toNat)
          case atStart => exact ⟨0, v, f, by omega, rfl, rfl, Lib.hid HIN.out, Lib.hid HD.out⟩
          case round =>
            obtain ⟨j, v', g, hj, rfl, rfl, HI, HG⟩ := hrel
            rename World => wi
            clear HD HIN
            by_cases hj4 : j < 4
            · have hlo := HI.out.lo j hj4
              have hc := HG.out.d.c j (by omega)
              have hf := HG.out.d.fz j
              have HIS := Lib.hid (HI.out.step (by decide) hj4)
              obtain ⟨r, hr, hr1⟩ : ∃ r : Nat, (v' : Int) % 65536 = (r : Int) ∧ r ≤ 65535 := ⟨v' % 65536, by omega, by omega⟩
              obtain ⟨d, hd⟩ : ∃ d : Nat, (v' : Int) / 65536 = (d : Int) := ⟨v' / 65536, by omega⟩
              rw [hr, hd] at HIS
              obtain ⟨y, hy⟩ : ∃ y, y = g j := ⟨_, rfl⟩
              rw [← hy] at hlo hc HIS
              have hvl := HI.out.lt
              have e3 : IntKind.u64.wrap (d : Int) = (d : Int) := by rw [IntKind.wrap_u64]; omega
              have e1 : IntKind.i64.wrap (r : Int) = (r : Int) := wrapI _ (by omega) (by omega)
              have e2 : wrap64 (y - (r : Int)) = y - (r : Int) := by unfold wrap64; omega
              have HP2 := Lib.hid (HG.out.put j (y - (r : Int)))
              have HIS2 : Hid (In (-1) TT BB (j + 1) (d : Int) (upd g j (y - (r : Int)))) := Lib.hid (by have h := HIS.out; rwa [show y + (-1) * (r : Int) = y - (r : Int) by omega] at h)
              have i8 : (j : Int) < 8 := by omega
              have i4 : (j : Int) < 4 := by omega
              have HY := Lib.hid hy
              clear HIS HI hy hvl
              go_wp2_with fail
              go_roundw
              case rel => exact ⟨j + 1, d, _, by omega, by go_num, rfl, Lib.hid HIS2.out, Lib.hid HP2.out⟩
              case measure => simp [intOf]; omega
            · obtain rfl : j = 4 := by omega
              have HS := Lib.hid HI.out.stop
              clear HI
              go_wp2_with fail
              go_roundw
              case rel => exact ⟨k + 1, g, by omega, by go_num, Lib.hid (by rw [← HTT.out, ← HBB.out]; exact HS.out), Lib.hid HG.out⟩
              case measure => simp [intOf]; omega
        · obtain rfl : k = q.length := by omega
          rw [List.take_length] at HU
          obtain ⟨S, hS⟩ : ∃ S, S = sumZ l - sumZ q := ⟨_, rfl⟩
          obtain ⟨ov, hov⟩ : ∃ ov : Int, ov = (l.length : Int) - (q.length : Int) - 1 := ⟨_, rfl⟩
          have hCy : Cy (S + 9223372036854775808) 0 (upd f 3 (f 3 - 32768 * ov)) := by
            obtain ⟨val, lo, hi⟩ := HU.out
            have g0 := lo 0 (by omega)
            have g1 := lo 1 (by omega)
            have g2 := lo 2 (by omega)
            have g3 := lo 3 (by omega)
            refine ⟨?_, fun i hi => absurd hi (by omega), ?_, fun i h1 h2 => ?_⟩
            · simp only [dv] at val ⊢
              rw [upd_at]
              repeat rw [upd_ne _ _ (by decide)]
              omega
            · rw [upd_ne _ _ (by decide)]; omega
            · by_cases e : i = 3
              · subst e; rw [upd_at]; omega
              · rw [upd_ne _ _ e]
                by_cases h4 : 4 ≤ i
                · rw [hi i h4]; omega
                · have := lo i (by omega); omega
          have HCy := Lib.hid hCy
          have g3 := HU.out.lo 3 (by omega)
          have c3 := HD.out.d.c 3 (by omega)
          have f3 := HD.out.d.fz 3
          have HP3 := Lib.hid (HD.out.put 3 (f 3 - 32768 * ov))
          obtain ⟨y, hy⟩ : ∃ y, y = f 3 := ⟨_, rfl⟩
          rw [← hy] at g3 c3 HP3 HCy
          have e1 : wrap64 ((l.length : Int) - (q.length : Int)) = (l.length : Int) - (q.length : Int) := by unfold wrap64; omega
          have e2 : wrap64 ((l.length : Int) - (q.length : Int) - 1) = ov := by unfold wrap64; omega
          have e3 : wrap64 (32768 * ov) = 32768 * ov := by unfold wrap64; omega
          have e4 : wrap64 (y - 32768 * ov) = y - 32768 * ov := by unfold wrap64; omega
          have hov2 : (l.length : Int) - (q.length : Int) - 1 = ov := hov.symm
          have hovb : -2 ≤ ov ∧ ov ≤ 65536 := by omega
          have HS := Lib.hid hS
          clear hCy HU HD hS hov hy
          go_wp2_with fail
          go_loopw [14] (fun i wi => ∃ (k : Nat) (g : Nat → Int), k ≤ 7 ∧ i = .int .i64 (k : Int) ∧ Hid (Cy (S + 9223372036854775808) k g) ∧ Hid (Dw w wi g)) (fun i _ => 7 - (intOf i).toNat)
          case atStart => exact ⟨0, _, by omega, rfl, Lib.hid HCy.out, Lib.hid HP3.out⟩
          case round =>
            clear HCy HP3 c3 f3 g3 e1 e2 e3 e4 hov2 hovb
            obtain ⟨k, g, hk, rfl, HI, HG⟩ := hrel
            rename World => wi
            by_cases hk7 : k < 7
            · have hb1 := HI.out.at_
              have hb2 := HI.out.up (k + 1) (by omega) (by omega)
              have hc1 := HG.out.d.c k (by omega)
              have hc2 := HG.out.d.c (k + 1) (by omega)
              have hf1 := HG.out.d.fz k
              have hf2 := HG.out.d.fz (k + 1)
              have HIS := Lib.hid (HI.out.step hk7)
              have HP4 := Lib.hid ((HG.out.put k (g k - g k / 65536 * 65536)).put (k + 1) (g (k + 1) + g k / 65536))
              obtain ⟨y, hy⟩ : ∃ y, y = g k := ⟨_, rfl⟩
              obtain ⟨z, hz⟩ : ∃ z, z = g (k + 1) := ⟨_, rfl⟩
              rw [← hy] at hb1 hc1 HIS HP4
              rw [← hz] at hb2 hc2 HIS HP4
              clear hy hz
              obtain ⟨k', hk'⟩ : ∃ k', k' = k + 1 := ⟨_, rfl⟩
              rw [← hk'] at hc2 hf2 HIS HP4
              obtain ⟨qq, hqq⟩ : ∃ qq, qq = y / 65536 := ⟨_, rfl⟩
              rw [← hqq] at HIS HP4
              have i7 : (k : Int) < 7 := by omega
              have i8 : (k : Int) < 8 := by omega
              have i9 : (k' : Int) < 8 := by omega
              have ik : (k : Int) + 1 = (k' : Int) := by omega
              have iw : IntKind.i64.wrap (k' : Int) = (k' : Int) := wrapI _ (by omega) (by omega)
              have ne1 : ¬ k = k' := by omega
              have ne2 : ¬ k' = k := by omega
              have w1 : wrap64 (qq * 65536) = qq * 65536 := by unfold wrap64; omega
              have w2 : wrap64 (y - qq * 65536) = y - qq * 65536 := by unfold wrap64; omega
              have w3 : wrap64 (z + qq) = z + qq := by unfold wrap64; omega
              have hqb : -33554432 ≤ qq ∧ qq ≤ 33554432 := by omega
              have HK := Lib.hid hk'
              clear hk' HI HG
              by_cases hneg : y.tmod 65536 < 0
              · have hq1 := floor_neg hneg
                rw [← hqq] at hq1
                obtain ⟨c, hc⟩ : ∃ c, y.tdiv 65536 = c := ⟨_, rfl⟩
                rw [hc] at hq1
                have w4 : wrap64 (c - 1) = qq := by unfold wrap64; omega
                clear hqq
                go_wp2_with fail
                go_roundw
                case rel => exact ⟨k', _, by omega, by go_num, Lib.hid (by rw [HK.out]; rw [HK.out] at HIS; exact HIS.out), Lib.hid HP4.out⟩
                case measure => simp [intOf]; omega
              · have hq1 := floor_pos hneg
                rw [← hqq] at hq1
                clear hqq
                go_wp2_with fail
                go_roundw
                case rel => exact ⟨k', _, by omega, by go_num, Lib.hid (by rw [HK.out]; rw [HK.out] at HIS; exact HIS.out), Lib.hid HP4.out⟩
                case measure => simp [intOf]; omega
            · obtain rfl : k = 7 := by omega
              have hfit := HI.out.fits
              have d0 := HI.out.dn 0 (by omega)
              have d1 := HI.out.dn 1 (by omega)
              have d2 := HI.out.dn 2 (by omega)
              have d3 := HI.out.dn 3 (by omega)
              have c4 := HG.out.d.c 4 (by omega)
              have c5 := HG.out.d.c 5 (by omega)
              have c6 := HG.out.d.c 6 (by omega)
              have c7 := HG.out.d.c 7 (by omega)
              have HCell := Lib.hid (fun j (h : j < 4) => HG.out.d.c j (by omega))
              have HTop := Lib.hid (top_bound g (fun i hi => HI.out.dn i (by omega)))
              have HDn := Lib.hid (fun i (hi : i < 4) => HI.out.dn i (by omega))
              have HBel := Lib.hid HG.out.bel
              obtain ⟨V, hV⟩ : ∃ V, V = S + 9223372036854775808 := ⟨_, rfl⟩
              rw [← hV] at hfit
              clear HG HI d0 d1 d2 d3
              by_cases hz : g 4 = 0 ∧ g 5 = 0 ∧ g 6 = 0 ∧ g 7 = 0
              · obtain ⟨hV0, hV1, htop⟩ := hfit.1 hz
                have HR : Hid (rangeB S = (S, 0)) := Lib.hid (if_pos (by omega))
                obtain ⟨z4, z5, z6, z7⟩ := hz
                rw [z4] at c4
                rw [z5] at c5
                rw [z6] at c6
                rw [z7] at c7
                have HV := Lib.hid (And.intro hV (And.intro hV0 (And.intro hV1 htop)))
                clear hfit hV hV0 hV1 htop z4 z5 z6 z7
                go_wp2_with fail
                go_loopw [16, 17] (fun uv kv wx => ∃ (j U : Nat) (kk : Int), j ≤ 4 ∧ kv = .int .i64 kk ∧ kk = (j : Int) - 1 ∧ uv = .int .u64 (U : Int) ∧ Hid ((U : Int) = top g j) ∧ wx = wi) (fun _ kv _ => (intOf kv + 1).toNat)
                case atStart => exact ⟨4, 0, 3, by omega, rfl, by omega, rfl, Lib.hid rfl, rfl⟩
                case round =>
                  obtain ⟨j, U, kk, hj, rfl, hkk, rfl, HU, rfl⟩ := hrel
                  rename World => wi
                  cases j with
                  | zero =>
                    obtain rfl : kk = -1 := by omega
                    obtain ⟨X, hX⟩ : ∃ X : Nat, (X : Int) = S % 18446744073709551616 := ⟨(S % 18446744073709551616).toNat, by omega⟩
                    have hU := HU.out
                    have hVV := HV.out
                    have x1 : IntKind.u64.wrap ((U : Int) - 9223372036854775808) = (X : Int) := by rw [IntKind.wrap_u64]; omega
                    have x2 : IntKind.i64.wrap (X : Int) = S := by rw [IntKind.wrap_i64]; omega
                    have x3 : wrap64 (X : Int) = S := by unfold wrap64; omega
                    clear hU hVV hX HV HU HTop HDn HCell hkk
                    go_wp2_with fail
                    go_ret2
                    exact ⟨by rw [← HS.out, HR.out] <;> rfl, HBel.out⟩
                  | succ j =>
                    obtain rfl : kk = (j : Int) := by omega
                    have hc := HCell.out j (by omega)
                    have hd := HDn.out j (by omega)
                    have ht := HTop.out (j + 1)
                    have ht2 := HTop.out j
                    have hn := top_next g (show j < 4 by omega)
                    rw [← HU.out] at hn ht
                    obtain ⟨x, hx⟩ : ∃ x : Nat, (x : Int) = g j := ⟨(g j).toNat, by omega⟩
                    rw [← hx] at hc hd hn
                    obtain ⟨M, hM⟩ : ∃ M : Nat, (M : Int) = (U : Int) * 65536 := ⟨U * 65536, by omega⟩
                    obtain ⟨U2, hU2⟩ : ∃ U2 : Nat, (U2 : Int) = top g j := ⟨(top g j).toNat, by omega⟩
                    rw [← hU2] at hn ht2
                    have m1 : IntKind.u64.wrap ((U : Int) * 65536) = (M : Int) := by rw [IntKind.wrap_u64]; omega
                    have m2 : IntKind.u64.wrap (x : Int) = (x : Int) := by rw [IntKind.wrap_u64]; omega
                    have m3 : IntKind.u64.wrap ((M : Int) + (x : Int)) = (U2 : Int) := by rw [IntKind.wrap_u64]; omega
                    have i8 : (j : Int) < 8 := by omega
                    have iw : IntKind.i64.wrap ((j : Int) - 1) = (j : Int) - 1 := wrapI _ (by omega) (by omega)
                    have HU3 := Lib.hid hU2
                    clear hn ht ht2 hd hx hM hU2 HU hkk
                    go_wp2_with fail
                    go_roundw
                    case rel => exact ⟨j, U2, (j : Int) - 1, by omega, by go_num, rfl, rfl, Lib.hid HU3.out, trivial⟩
                    case measure => simp [intOf]
              · have HR : Hid (rangeB S = (0, 20)) := Lib.hid (if_neg (by intro h; exact hz (hfit.2 (by omega))))
                clear hfit hV HTop HDn HCell
                generalize g 4 = y4 at *
                generalize g 5 = y5 at *
                generalize g 6 = y6 at *
                generalize g 7 = y7 at *
                by_cases z4 : y4 = 0
                · by_cases z5 : y5 = 0
                  · by_cases z6 : y6 = 0
                    · have z7 : ¬ y7 = 0 := fun h => hz ⟨z4, z5, z6, h⟩
                      subst z4 z5 z6
                      have b7 : (y7 != 0) = true := bne_iff_ne.2 z7
                      clear hz z7
                      go_wp2_with fail
                      go_ret2
                      exact ⟨by rw [← HS.out, HR.out] <;> rfl, HBel.out⟩
                    · subst z4 z5
                      have b6 : (y6 != 0) = true := bne_iff_ne.2 z6
                      clear hz z6
                      go_wp2_with fail
                      go_ret2
                      exact ⟨by rw [← HS.out, HR.out] <;> rfl, HBel.out⟩
                  · subst z4
                    have b5 : (y5 != 0) = true := bne_iff_ne.2 z5
                    clear hz z5
                    go_wp2_with fail
                    go_ret2
                    exact ⟨by rw [← HS.out, HR.out] <;> rfl, HBel.out⟩
                · have b4 : (y4 != 0) = true := bne_iff_ne.2 z4
                  clear hz z4
                  go_wp2_with fail
                  go_ret2
                  exact ⟨by rw [← HS.out, HR.out] <;> rfl, HBel.out⟩
end Go.Proofs.YtcfbcidakddhfaaGreatDoor
namespace Go.Proofs.YtcfbcidakddhfaaGreatDoor
open Go.RowKit

def NumPost (w : World) (l : List UInt8) (most : Nat) (e : Ending) (w' : World) : Prop :=
  w = w' ∧ ∃ (n : Nat) (ok : Bool), e = .returned (.tuple #[.int .u64 n, .bool ok]) ∧ NumIs l most n ok
theorem byte_get (s : ByteArray) (k : Nat) (h : k < s.size) : s.data.toList[k]? = some s[k] := by
  have h' : k < s.data.size := h
  rw [Array.getElem?_toList, Array.getElem?_eq_getElem h']
  rfl

end Go.Proofs.YtcfbcidakddhfaaGreatDoor
