/- The law's back, the document's Same. -/
import Derived.Test.YtbeclajbpfglgaaChT
namespace Go.Proofs.Ytbeclajbpfglgaa
open Go.RowKit Go.BigFrame

theorem info_rv : (Try.prog.info? 26).map (fun i => (i.zero, i.size, i.bytes)) = some (some (.agg #[.int .i64 0, .int .u32 0, .int .u32 0, .int .i64 0, .int .i64 0, .string ⟨#[]⟩]), 6, 48) := by kernel_rfl
/-- A list in new memory. -/
def NewV (T : TypeId) (w : World) (l : List Ve) (e : Ending) (w' : World) : Prop := ∃ A c, e = .returned (.slice A l.length c) ∧ So encV 6 w' w.heap.size T (.slice A l.length c) l ∧ Below w.heap.size w w'
set_option maxRecDepth 100000 in
set_option maxHeartbeats 3200000 in
theorem back_any {w : World} {K : Nat} {A : Option Addr} {cap : Nat} {l : List Ve} (hp : Sr encV 6 w K A cap l) (hK : K ≤ w.heap.size) (hl : l.length ≤ 900000) :
    Calls Try.prog 18 #[.slice A l.length cap] w (NewV 26 w l) := by
  have hle := hp.le
  have hmax := hp.max
  unfold maxLen at hmax
  have HS := Lib.hid hp
  clear hp
  go_enter Try.func18, Try.ntmps18
  go_wp2
  go_loopw [3, 8] (fun v i wr => ∃ (k c : Nat) (B : Option Addr), k ≤ l.length ∧ i = .int .i64 k ∧ v = .slice B k c ∧ So encV 6 wr w.heap.size 26 (.slice B k c) (l.take k) ∧ Below w.heap.size w wr) (fun _ i _ => l.length - (intOf i).toNat)
  case atStart => exact ⟨0, 0, none, Nat.zero_le _, rfl, rfl, by simpa using So.empty _ _ _ _ _, Below.refl _ _⟩
  case round =>
    obtain ⟨k, c, B, hk, rfl, rfl, hps, hbl⟩ := hrel
    rename World => wr
    have z := hbl.size
    by_cases hlt : k < l.length
    · obtain ⟨ad, hA, hbK, g0, g1⟩ := (HS.out.below (hbl.mono hK)).get2 hlt
      subst hA
      have htk : l.take (k + 1) = l.take k ++ [l[k]] := List.take_succ_eq_append_getElem hlt
      have hln : (l.take k).length = k := by simp; omega
      generalize l[k] = x at *
      have u0 := g0 _ rfl
      have u1 := g1 1 (.int .u32 x.t) (by decide) rfl
      have u2 := g1 2 (.int .u32 x.m) (by decide) rfl
      have u3 := g1 3 (.int .i64 x.k) (by decide) rfl
      have u4 := g1 4 (.int .i64 x.n) (by decide) rfl
      have u5 := g1 5 (.string x.x) (by decide) rfl
      have HT := Lib.hid htk
      have HL := Lib.hid hln
      have HP1 := Lib.hid (hps.alloc (.cells #[.int .i64 x.w, .int .u32 x.t, .int .u32 x.m, .int .i64 x.k, .int .i64 x.n, .string x.x] 31))
      have HB1 := Lib.hid (hbl.alloc z (.cells #[.int .i64 x.w, .int .u32 x.t, .int .u32 x.m, .int .i64 x.k, .int .i64 x.n, .string x.x] 31))
      clear g0 g1 htk hln hps hbl
      go_wp2_with fail
      refine (fromv_any x _).mono ?_
      rintro e w1 ⟨rfl, b1⟩
      have HP2 := Lib.hid (HP1.out.below b1)
      have HB2 := Lib.hid (HB1.out.trans (b1.mono HB1.out.size))
      have z2 : w.heap.size ≤ w1.heap.size := HB2.out.size
      have HP3 := Lib.hid (HP2.out.alloc (.cells #[.int .i64 x.w, .int .u32 x.t, .int .u32 x.m, .int .i64 x.k, .int .i64 x.n, .string x.x] 26))
      clear b1
      go_wp2_with (at_builtin; refine wpList_pushE Try.underlying34 info_rv rfl (by decide) w1 rfl (.tmp 12) (.tmp 15) rfl w.heap.size (.slice B k c) (l.take k) rfl HP2.out x _ rfl rfl (encV_one _) _ w1.heap.size rfl rfl (k + 1) (by rw [HL.out]) (by unfold maxLen; omega) (by omega) z2 ?_; intro A2 cap2 w2 hps2 hgrow2 hat2; have B2 : Below w.heap.size w w2 := grown_belowE HB2.out hgrow2 z2 (fun _ h => (HP2.out.lt _ h).1))
      go_roundw
      case rel => exact ⟨k + 1, cap2, A2, by omega, by go_num, rfl, by rw [HT.out]; exact hps2, B2⟩
      case measure => simp [intOf]; omega
    · obtain rfl : k = l.length := by omega
      rw [List.take_length] at hps
      go_wp2
      go_ret
      exact ⟨B, c, rfl, hps, hbl⟩
set_option maxRecDepth 100000 in
set_option maxHeartbeats 3200000 in
theorem same_any {w : World} {K : Nat} {A B : Option Addr} {cap c2 : Nat} {l : List Ve} (h1 : Sr encV 6 w K A cap l) (h2 : Sr encV 6 w K B c2 l) (hK : K ≤ w.heap.size) :
    Calls Try.prog 17 #[.slice A l.length cap, .slice B l.length c2] w (Ok0 w) := by
  have hle := h1.le
  have hmax := h1.max
  have hle2 := h2.le
  have hmax2 := h2.max
  unfold maxLen at hmax hmax2
  have H1 := Lib.hid h1
  have H2 := Lib.hid h2
  clear h1 h2
  go_enter Try.func17, Try.ntmps17
  go_wp2_with fail
  go_loopw [5] (fun iv wr => ∃ i : Nat, iv = .int .i64 (i : Int) ∧ i ≤ l.length ∧ Below w.heap.size w wr) (fun iv _ => l.length - (intOf iv).toNat)
  case atStart => exact ⟨0, rfl, Nat.zero_le _, Below.refl _ _⟩
  case round =>
    obtain ⟨i, rfl, hi, hbl⟩ := hrel
    rename World => W0
    by_cases hlt : i < l.length
    · obtain ⟨ad, hA, _, g0, g1⟩ := (H1.out.below (hbl.mono hK)).get2 hlt
      obtain ⟨ae, hB, _, k0, k1⟩ := (H2.out.below (hbl.mono hK)).get2 hlt
      subst hA hB
      generalize l[i] = x at *
      have u0 := g0 _ rfl
      have u1 := g1 1 (.int .u32 x.t) (by decide) rfl
      have u2 := g1 2 (.int .u32 x.m) (by decide) rfl
      have u3 := g1 3 (.int .i64 x.k) (by decide) rfl
      have u4 := g1 4 (.int .i64 x.n) (by decide) rfl
      have u5 := g1 5 (.string x.x) (by decide) rfl
      have v0 := k0 _ rfl
      have v1 := k1 1 (.int .u32 x.t) (by decide) rfl
      have v2 := k1 2 (.int .u32 x.m) (by decide) rfl
      have v3 := k1 3 (.int .i64 x.k) (by decide) rfl
      have v4 := k1 4 (.int .i64 x.n) (by decide) rfl
      have v5 := k1 5 (.string x.x) (by decide) rfl
      have HBL := Lib.hid hbl
      clear g0 g1 k0 k1 hbl
      go_wp2_with fail
      go_big_quiet (fail)
      go_wp2
      go_roundw
      case rel => exact ⟨i + 1, by go_num, by omega, HBL.out.trans ((below_drewN _ _ _).mono HBL.out.size)⟩
      case measure => simp [intOf]; omega
    · obtain rfl : i = l.length := by omega
      go_wp2
      go_ret
      exact ⟨rfl, hbl⟩
end Go.Proofs.Ytbeclajbpfglgaa
