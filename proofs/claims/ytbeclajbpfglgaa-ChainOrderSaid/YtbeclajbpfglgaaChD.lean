/- The law's made: a chain of versions, as the program's and as the document's. -/
import Derived.Test.YtbeclajbpfglgaaChL
namespace Go.Proofs.Ytbeclajbpfglgaa
open Go.RowKit Go.BigFrame

/-- The chain in both memories. -/
structure Mk (w wr : World) (A : Option Addr) (cap : Nat) (B : Option Addr) (cap2 : Nat) (c : List Ve) : Prop where
  s1 : Sr encV 6 wr wr.heap.size A cap c
  s2 : Sr encV 6 wr wr.heap.size B cap2 c
  ok : ∀ u ∈ c, Vok u
  chn : Chn c
  rt : ∀ u ∈ c, rightV u = true
  bel : Below w.heap.size w wr
theorem Mk.below {w wr w' : World} {A B : Option Addr} {cap cap2 : Nat} {c : List Ve} (h : Mk w wr A cap B cap2 c) (hb : Below wr.heap.size wr w') : Mk w w' A cap B cap2 c :=
  ⟨(h.s1.below hb).more hb.size, (h.s2.below hb).more hb.size, h.ok, h.chn, h.rt, h.bel.trans (hb.mono h.bel.size)⟩
def MadeP (w : World) (e : Ending) (w' : World) : Prop := ∃ (A : Option Addr) (cap : Nat) (B : Option Addr) (cap2 : Nat) (c : List Ve), e = .returned (.tuple #[.slice A c.length cap, .slice B c.length cap2, .bool true]) ∧ c.length ≤ 60 ∧ Mk w w' A cap B cap2 c
set_option maxRecDepth 100000 in
set_option maxHeartbeats 6400000 in
theorem made_any (A0 : Option Addr) (cap0 : Nat) (l : List Ve) (w : World) (h0 : Sr encV 6 w w.heap.size A0 cap0 l) (ho0 : ∀ u ∈ l, Vok u) :
    Calls Try.prog 12 #[.slice A0 l.length cap0] w (MadeP w) := by
  have hcl := h0.le
  have hcm := h0.max
  unfold maxLen at hcm
  have H0 := Lib.hid h0
  have HO := Lib.hid ho0
  clear h0 ho0
  go_enter Try.func12, Try.ntmps12
  go_wp2_with fail
  go_loopw [15, 5, 6] (fun iv cv rv wr => ∃ (i : Nat) (A : Option Addr) (cap : Nat) (B : Option Addr) (cap2 : Nat) (c : List Ve), iv = .int .i64 (i : Int) ∧ cv = .slice A c.length cap ∧ rv = .slice B c.length cap2 ∧ i ≤ l.length ∧ c.length ≤ i ∧ i ≤ 60 ∧ Mk w wr A cap B cap2 c) (fun iv _ _ _ => l.length - (intOf iv).toNat)
  case atStart => exact ⟨0, none, 0, none, 0, [], rfl, rfl, rfl, Nat.zero_le _, Nat.le_refl _, by decide, ⟨Sr.none_ _ _, Sr.none_ _ _, (fun _ h => by simp at h), by simp [Chn], (fun _ h => by simp at h), Below.refl _ _⟩⟩
  case round =>
    obtain ⟨i, A, cap, B, cap2, c, rfl, rfl, rfl, hi, hci, hi60, C⟩ := hrel
    rename World => W0
    have HC := Lib.hid C
    clear C
    by_cases hlt : i < l.length
    · obtain ⟨ad, hA, hbK, g0, g1⟩ := (H0.out.below HC.out.bel).get2 hlt
      subst hA
      have hvm : Vok l[i] := HO.out _ (List.getElem_mem hlt)
      generalize l[i] = v at *
      have u0 := g0 _ rfl
      have u1 := g1 1 (.int .u32 v.t) (by decide) rfl
      have u2 := g1 2 (.int .u32 v.m) (by decide) rfl
      have u3 := g1 3 (.int .i64 v.k) (by decide) rfl
      have u4 := g1 4 (.int .i64 v.n) (by decide) rfl
      have u5 := g1 5 (.string v.x) (by decide) rfl
      have HV := Lib.hid hvm
      clear g0 g1 hvm
      have BX := (Below.refl W0.heap.size W0).alloc (Nat.le_refl _) (.cells #[.int .i64 v.w, .int .u32 v.t, .int .u32 v.m, .int .i64 v.k, .int .i64 v.n, .string v.x] 26)
      have HC1 := Lib.hid (HC.out.below BX)
      clear BX
      by_cases h60 : i < 60
      · skip
        have HT := Lib.hid (fun w => tov_any v w)
        go_wp2_with fail
        refine (HT.out _).mono ?_
        rintro e w1 ⟨rfl, b1⟩
        have y0 : w1.cell? ⟨W0.heap.size, 0, none⟩ = some (.int .i64 v.w) := kept b1 (by simp)
        have y1 : w1.cell? ⟨W0.heap.size, 1, none⟩ = some (.int .u32 v.t) := kept b1 (by simp)
        have y2 : w1.cell? ⟨W0.heap.size, 2, none⟩ = some (.int .u32 v.m) := kept b1 (by simp)
        have y3 : w1.cell? ⟨W0.heap.size, 3, none⟩ = some (.int .i64 v.k) := kept b1 (by simp)
        have y4 : w1.cell? ⟨W0.heap.size, 4, none⟩ = some (.int .i64 v.n) := kept b1 (by simp)
        have y5 : w1.cell? ⟨W0.heap.size, 5, none⟩ = some (.string v.x) := kept b1 (by simp)
        have HC2 := Lib.hid (HC1.out.below b1)
        have hz1 : W0.heap.size < w1.heap.size := Nat.lt_of_lt_of_le (by simp) b1.size
        have HP := Lib.hid (put_any HC2.out.s1 (Nat.le_refl _) HC2.out.ok HC2.out.chn (by omega) HV.out)
        have hpl := put_len c v
        have hpo := fun (h : (putV c v).1 = 0) => put_ok h
        have hpm := fun (q : Ve) => @put_mem c v q
        have hrp := fun (w : World) (K : Nat) (A : Option Addr) (cap : Nat) (h : Sr encV 6 w K A cap c) (hK : K ≤ w.heap.size) => rput_any h hK HC2.out.chn (by omega) HV.out
        generalize hpv : putV c v = pv at *
        obtain ⟨r, c'⟩ := pv
        simp only at hpl hpo hpm
        have HRP := Lib.hid hrp
        have HPO := Lib.hid hpo
        have HPM := Lib.hid hpm
        clear hpo hpm hrp b1 hpv
        go_wp2_with fail
        refine HP.out.mono ?_
        rintro e w2 ⟨A2, c2, rfl, s2, b2, _⟩
        have HC3 := Lib.hid (HC2.out.below b2)
        have k0 : w2.cell? ⟨W0.heap.size, 0, none⟩ = some (.int .i64 v.w) := kept b2 y0
        have k1 : w2.cell? ⟨W0.heap.size, 1, none⟩ = some (.int .u32 v.t) := kept b2 y1
        have k2 : w2.cell? ⟨W0.heap.size, 2, none⟩ = some (.int .u32 v.m) := kept b2 y2
        have k3 : w2.cell? ⟨W0.heap.size, 3, none⟩ = some (.int .i64 v.k) := kept b2 y3
        have k4 : w2.cell? ⟨W0.heap.size, 4, none⟩ = some (.int .i64 v.n) := kept b2 y4
        have k5 : w2.cell? ⟨W0.heap.size, 5, none⟩ = some (.string v.x) := kept b2 y5
        have hz2 : W0.heap.size < w2.heap.size := Nat.lt_of_lt_of_le hz1 b2.size
        have HS2 := Lib.hid s2
        clear b2 s2 y0 y1 y2 y3 y4 y5
        go_wp2_with fail
        refine (HRP.out _ _ _ _ HC3.out.s2 (Nat.le_refl _)).mono ?_
        rintro e w3 ⟨A3, c3, rfl, s3, b3, _⟩
        have HC4 := Lib.hid (HC3.out.below b3)
        have HS3 := Lib.hid s3
        have HS23 := Lib.hid ((HS2.out.below b3).more b3.size)
        clear b3 s3 k0 k1 k2 k3 k4 k5
        have hrr : (r != r) = false := by simp
        go_wp2_with fail
        refine (back_any HS23.out (Nat.le_refl _) (by omega)).mono ?_
        rintro e w4 ⟨A4, c4, rfl, s4, b4⟩
        have HC5 := Lib.hid (HC4.out.below b4)
        have HS4 := Lib.hid (s4.sr encV_len).1
        have HS35 := Lib.hid ((HS3.out.below b4).more b4.size)
        have HS25 := Lib.hid ((HS23.out.below b4).more b4.size)
        clear b4 s4
        go_wp2_with fail
        refine (same_any HS4.out HS35.out (Nat.le_refl _)).mono ?_
        rintro e w5 ⟨rfl, b5⟩
        have HC6 := Lib.hid (HC5.out.below b5)
        have HS36 := Lib.hid ((HS35.out.below b5).more b5.size)
        have HS26 := Lib.hid ((HS25.out.below b5).more b5.size)
        clear b5
        by_cases hr0 : r = 0
        · subst hr0
          obtain ⟨e1, e2, e3⟩ := HPO.out rfl
          have e4 : c' = insV c v := by injection e1
          have HN : Hid (Mk w w5 A2 c2 A3 c3 c') := Lib.hid ⟨HS26.out, HS36.out, fun q hq => (HPM.out q (by simpa using hq)).elim (fun e => e ▸ HV.out) (HC6.out.ok q), by rw [e4]; exact put_chn HC6.out.chn e3, fun q hq => (HPM.out q (by simpa using hq)).elim (fun e => e ▸ e2) (HC6.out.rt q), HC6.out.bel⟩
          clear e1 e2 e3 e4
          go_wp2
          go_roundw
          case rel => exact ⟨i + 1, A2, c2, A3, c3, c', by go_num, rfl, rfl, by omega, by omega, by omega, HN.out⟩
          case measure => simp [intOf]; omega
        · have hr1 : (r == 0) = false := by simpa using hr0
          go_wp2
          go_roundw
          case rel => exact ⟨i + 1, A, cap, B, cap2, c, by go_num, rfl, rfl, by omega, by omega, by omega, HC6.out⟩
          case measure => simp [intOf]; omega
      · skip
        go_wp2
        exact bodyPost_ret (v := .tuple #[.slice A c.length cap, .slice B c.length cap2, .bool true]) (by simp [results, Try.results12, go_sem]) rfl ⟨A, cap, B, cap2, c, rfl, by omega, HC1.out⟩
    · obtain rfl : i = l.length := by omega
      go_wp2
      exact bodyPost_ret (v := .tuple #[.slice A c.length cap, .slice B c.length cap2, .bool true]) (by simp [results, Try.results12, go_sem]) rfl ⟨A, cap, B, cap2, c, rfl, by omega, HC.out⟩
end Go.Proofs.Ytbeclajbpfglgaa
