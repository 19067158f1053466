/- The log's frames: with, frames. -/
import Derived.Test.YtpckbbjlihhpdaaFOp
import Derived.Test.YtpckbbjlihhpdaaWlM
import Derived.Test.YtpckbbjlihhpdaaRw
namespace Go.Proofs.Ytpckbbjlihhpdaa
open Go.RowKit Go.BigFrame

set_option maxRecDepth 100000 in
set_option maxHeartbeats 1600000 in
theorem with_any (k : UInt8) (K K' : Nat) (B : Option Addr) (nB cB : Nat) (lb : List UInt8) (hnB : lb.length = nB) (A : Option Addr) (c : Nat) (p : List UInt8) (w : World) (ho : Ob w K (.slice B nB cB) lb) (hK : K ≤ w.heap.size) (hp : Bs w K' A c p) (hK' : K' ≤ w.heap.size) (hl : p.length ≤ 1048576) (hsz : nB + (9 + p.length) ≤ 140737488355328) :
    Calls Try.prog 42 #[.slice B nB cB, bv k, .slice A p.length c] w fun e w' => ∃ A' c', e = .returned (.slice A' (nB + (9 + p.length)) c') ∧ Ob w' K (.slice A' (nB + (9 + p.length)) c') (lb ++ sealB k p) ∧ Below K w w' := by
  subst hnB
  have HS := Lib.hid (seal_ok k K' A c p w hp hK' hl)
  have hbl := ho.bs.1.le
  have hbm := ho.bs.1.max
  unfold maxLen at hbm
  have HO := Lib.hid ho
  have hsl := sealB_length k p
  clear hp ho
  go_enter Try.func42, Try.ntmps42
  go_wp2_with (first
    | (go_at_call 60; refine HS.out.mono ?_; rintro e w1 ⟨A1, c1, rfl, ho1, hb1⟩; have z1 := hb1.size)
    | (at_builtin; refine wpList_app _ rfl (.tmp 15) (.tmp 16) rfl K (.slice B lb.length cB) lb rfl (HO.out.below hb1) A1 (9 + p.length) c1 (sealB k p) rfl hsl w1.heap.size ho1.bs.1 (lb.length + (9 + p.length)) (by rw [hsl]) (by omega) (by omega) ?_; intro A2 c2 w2 ho2 gr2 at2; have B2 : Below K w w2 := grown_below (hb1.mono hK) gr2 (by omega) (fun _ h => (HO.out.lt _ h).1)))
  go_ret
  exact ⟨A2, c2, rfl, ho2, B2⟩
theorem recsB_take (rs : List (List UInt8)) {i : Nat} (h : i < rs.length) : recsB (rs.take (i + 1)) = recsB (rs.take i) ++ sealB 1 rs[i] := by
  rw [List.take_add_one, List.getElem?_eq_getElem h]
  exact recsB_snoc _ _
theorem recsB_le (rs : List (List UInt8)) (i : Nat) : (recsB (rs.take i)).length ≤ (recsB rs).length := by
  conv => rhs; rw [← List.take_append_drop i rs]
  unfold recsB
  rw [List.flatMap_append, List.length_append]
  omega
theorem framesB_len (base : List UInt8) (rs : List (List UInt8)) : (framesB base rs).length = 9 + base.length + (recsB rs).length + 9 := by simp [framesB, sealB_length]; omega
set_option maxRecDepth 100000 in
set_option maxHeartbeats 1600000 in
theorem frames_any (K : Nat) (A1 : Option Addr) (c1 : Nat) (base : List UInt8) (A2 : Option Addr) (c2 : Nat) (rs : List (List UInt8)) (w : World) (hb : Bs w K A1 c1 base) (hr : Rr w K A2 c2 rs) (hK : K ≤ w.heap.size) (hl : base.length ≤ 1048576) (hrl : ∀ x ∈ rs, x.length ≤ 1048576) (hsz : (framesB base rs).length ≤ 140737488355328) :
    Calls Try.prog 47 #[.agg #[.slice A1 base.length c1, .slice A2 rs.length c2]] w (NewBytes w (framesB base rs)) := by
  have hbl := hb.le
  have hbm := hb.max
  unfold maxLen at hbm
  have hrle := hr.le
  have hrm := hr.max
  unfold maxLen at hrm
  rw [framesB_len] at hsz
  have hw1 : Below K w (w.alloc (.cells #[.slice A1 base.length c1, .slice A2 rs.length c2] 78)) := (Below.refl _ _).alloc hK _
  have hw2 : Below (w.heap.size) w (w.alloc (.cells #[.slice A1 base.length c1, .slice A2 rs.length c2] 78)) := (Below.refl _ _).alloc (Nat.le_refl _) _
  have H1 := Lib.hid (with_any 2 (w.heap.size + 1) K none 0 0 [] rfl A1 c1 base _ (Ob.empty (w.alloc (.cells #[.slice A1 base.length c1, .slice A2 rs.length c2] 78)) _) (by simp) (hb.below hw1) (by simp; omega) hl (by simp; omega))
  have HR := Lib.hid hr
  have HW1 := Lib.hid hw1
  have HW2 := Lib.hid hw2
  clear hb hr hw1 hw2
  go_enter Try.func47, Try.ntmps47
  go_wp2_with (go_at_call 42; refine H1.out.mono ?_; rintro e w1 ⟨A3, c3, rfl, ho1, hb1⟩; have y0 := hb1.cell (p := ⟨w.heap.size, 0, none⟩) (Nat.lt_succ_self _); have y1 := hb1.cell (p := ⟨w.heap.size, 1, none⟩) (Nat.lt_succ_self _); simp [go_sem] at y0 y1; have z1 := hb1.size; simp at z1; have HO1 := Lib.hid ho1; have HB1 := Lib.hid hb1; clear ho1 hb1)
  go_loopw [12, 3] (fun iv bw wr => ∃ (i : Nat) (A' : Option Addr) (N c' : Nat), iv = .int .i64 (i : Int) ∧ bw = .slice A' N c' ∧ N = 9 + base.length + (recsB (rs.take i)).length ∧ i ≤ rs.length ∧ Hid (Ob wr (w.heap.size + 1) (.slice A' N c') (sealB 2 base ++ recsB (rs.take i))) ∧ Hid (Below (w.heap.size + 1) w1 wr)) (fun iv _ _ => rs.length - (intOf iv).toNat)
  case atStart => exact ⟨0, A3, _, c3, rfl, rfl, by simp [recsB], Nat.zero_le _, by simpa [recsB] using HO1, Lib.hid (Below.refl _ _)⟩
  case round =>
    obtain ⟨i, A4, N, c4, rfl, rfl, hN, hi, HO, HB⟩ := hrel
    rename World => wr
    have hzr := HB.out.size
    have hall : Below w.heap.size w wr := (HW2.out.trans ((HB1.out.trans HB.out).mono (by simp)))
    have HALL := Lib.hid hall
    have hle2 := recsB_le rs i
    have hlen : (sealB 2 base ++ recsB (rs.take i)).length = 9 + base.length + (recsB (rs.take i)).length := by rw [List.length_append, sealB_length]
    clear hall
    by_cases hlt : i < rs.length
    · obtain ⟨ad, e2, had, A5, c5, x5, bs5⟩ := (HR.out.below (HALL.out.mono hK)).get hlt
      subst e2
      have i1 : (i : Int) < rs.length := by omega
      have hx := hrl rs[i] (List.getElem_mem hlt)
      have htk := recsB_take rs hlt
      have hle3 := recsB_le rs (i + 1)
      rw [htk, List.length_append, sealB_length] at hle3
      have H2 := Lib.hid (with_any 1 (w.heap.size + 1) K A4 N c4 _ (by omega) A5 c5 rs[i] wr HO.out (by omega) bs5 (by omega) hx (by omega))
      have HTK := Lib.hid htk
      generalize rs[i] = q at x5 H2 HTK
      have HN2 : Hid (N + (9 + q.length) = 9 + base.length + (recsB (rs.take (i + 1))).length) := Lib.hid (by rw [HTK.out, List.length_append, sealB_length]; omega)
      clear bs5 hx htk hle3 hlen hle2 hN
      go_wp2_with (go_at_call 42; refine H2.out.mono ?_; rintro e w2 ⟨A6, c6, rfl, ho2, hb2⟩)
      go_roundw
      case rel => exact ⟨i + 1, A6, _, c6, by go_num, rfl, HN2.out, hlt, Lib.hid (by rw [HTK.out, ← List.append_assoc]; exact ho2), Lib.hid (HB.out.trans hb2)⟩
      case measure => simp [intOf]; omega
    · obtain rfl : i = rs.length := by omega
      have hst : (sealB 2 base ++ recsB (rs.take rs.length)) = sealB 2 base ++ recsB rs := by rw [List.take_length]
      rw [hst] at HO hlen
      rw [List.take_length] at hlen hN
      have H3 := Lib.hid (with_any 3 (w.heap.size + 1) 0 A4 N c4 _ (by omega) none 0 [] wr HO.out (by omega) ⟨Nat.le_refl _, Nat.zero_le _, fun _ => rfl, fun h => absurd h (by simp)⟩ (Nat.zero_le _) (by simp) (by simp only [List.length_nil]; omega))
      have HF : Hid ((framesB base rs).length = N + 9) := Lib.hid (by rw [framesB_len]; omega)
      clear hlen hle2 hN
      go_wp2_with (go_at_call 42; refine H3.out.mono ?_; rintro e w2 ⟨A6, c6, rfl, ho2, hb2⟩)
      go_ret
      refine ⟨A6, c6, by rw [HF.out]; rfl, ?_, HALL.out.trans (hb2.mono (by simp))⟩
      rw [HF.out]
      exact ho2.more (by simp)
end Go.Proofs.Ytpckbbjlihhpdaa
