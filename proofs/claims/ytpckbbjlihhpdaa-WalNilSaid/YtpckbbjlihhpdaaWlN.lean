/- The law WalNil: its walk. -/
import Derived.Test.YtpckbbjlihhpdaaWla
namespace Go.Proofs.Ytpckbbjlihhpdaa
open Go.RowKit Go.BigFrame

def zeros (n : Nat) : List UInt8 := List.replicate n 0
theorem zeros_length (n : Nat) : (zeros n).length = n := List.length_replicate
theorem made_zeros (n : Nat) : (madeCells (Value.int .u8 0).cells (n * 1)).toList = (zeros n).map bv := by
  rw [Nat.mul_one]
  show (madeCells #[Value.int .u8 0] n).toList = _
  rw [toList_madeCells_one]
  simp [zeros, bv]

theorem made_ob {w1 : World} {K n : Nat} {v : Value} (h : w1.ownsRow K 5 1 v n (madeCells (Value.int .u8 0).cells (n * 1)).toList) : Ob w1 K v (zeros n) := by
  unfold Ob
  rw [zeros_length, ← made_zeros]
  exact h
theorem cut_zeros {w : World} {K n : Nat} {ad : Addr} (h : Bs w K (some ad) (n + 1) (zeros (n + 1))) (hn : 0 < n) : Bs w K (some ⟨ad.block, ad.off + 1, none⟩) n (zeros n) := by
  have := h.cutS (i := 1) (j := n + 1) (by omega) (by omega) (by rw [zeros_length]; omega) (by omega)
  have e : ((zeros (n + 1)).drop 1).take (n + 1 - 1) = zeros n := by simp [zeros]
  rw [e] at this
  exact this
theorem long_facts {w1 : World} {K g : Nat} (h : w1.ownsRow K 5 1 (.slice (some ⟨g, 0, none⟩) 1048577 1048577) 1048577 (madeCells (Value.int .u8 0).cells (1048577 * 1)).toList) :
    ∃ p : List UInt8, p.length = 1048576 ∧ Bs w1 w1.heap.size (some ⟨g, 1, none⟩) 1048576 p :=
  ⟨zeros 1048576, zeros_length _, cut_zeros (n := 1048576) (made_ob h).bs.1 (by omega)⟩

theorem sd_rebf {R : Int} {b q : List UInt8} {l : Nat} {seg : Int} (h1 : 1 ≤ seg) (h2 : seg < 9223372036854775807) (hs : R - ((b.length : Nat) : Int) < (q.length : Nat)) : rebA (Sd R b l seg) seg q = (4, Sd R b l seg, seg) := by
  have ha : abv seg = seg + 1 := if_neg (by omega)
  have e1 : appD (Sd R b l seg) (seg + 1) q = (4, Sd R b l seg) := by
    unfold appD
    rw [if_neg (by simp), if_neg (by omega), if_pos (by simp only [sumA]; omega)]
  unfold rebA
  rw [ha, e1]
  simp
theorem Wd.rebf {w0 wr : World} {p d c K l : Nat} {R seg : Int} {b m : List UInt8} {A : Option Addr} (h : Wd w0 wr p d R b l seg) (hb : Bs wr K A c m) (hK : K ≤ wr.heap.size) (hl : m.length ≤ 1048576) (hs2 : seg < 9223372036854775807) (hs : R - ((b.length : Nat) : Int) < ((18 + m.length : Nat) : Int)) :
    Calls Try.prog 20 #[wP p, .slice A m.length c] wr fun e w' => e = .returned (.int .i64 4) ∧ Wd w0 w' p d R b l seg := by
  obtain ⟨B, D, hB, hp⟩ := h.ex
  have h1 := h.h1
  have e : (framesB m []).length = 18 + m.length := by rw [framesB_len]; simp [recsB]; omega
  refine (wreb_any h.wp hp D (by omega) h.h2 hb hK hl (sd_rebf h.h1 hs2 (by rw [e]; exact hs))).mono ?_
  rintro e' w' ⟨rfl, L⟩
  exact ⟨rfl, h.lw hB h.h1 h.h2 L⟩
set_option maxRecDepth 100000 in
set_option maxHeartbeats 6400000 in
theorem walnil_any (A : Option Addr) (n c : Nat) (w : World) : Calls Try.prog 5 #[.slice A n c] w (Ok0 w) := by
  obtain ⟨i0, hi, hz0, hz1, hz2⟩ := info_parts info_u8
  obtain ⟨F, hF⟩ : ∃ F, F = framesB [] [] := ⟨_, rfl⟩
  have HFl : Hid (F.length = 18) := Lib.hid (by rw [hF, frames0])
  have HF := Lib.hid hF
  clear hF
  go_enter Try.func5, Try.ntmps5
  go_wp2_with fail
  refine open_nild.mono ?_
  rintro e w9 ⟨rfl, h9⟩
  replace h9 := h9.symm
  subst h9
  go_wp2_with fail
  refine (new_DD 100 (by decide) (by decide) w).mono ?_
  rintro e w1 ⟨rfl, ⟨B1, D1, hB1⟩, b1⟩
  generalize hd : w.heap.size + 1 = d at *
  go_wp2_with fail
  refine (open_new D1 hB1 b1 (by decide)).mono ?_
  rintro e w2 ⟨p, A1, c1, A2, c2, rfl, W2⟩
  rw [← HF.out] at W2
  have z2 := W2.lt
  have HW2 := Lib.hid W2
  clear W2 D1 hB1 b1
  go_wp2_with (at_make; refine wpList_make_full _ rfl _ _ 30 rfl w2.heap.size 5 i0 (.int .u8 0) 1 Try.underlying30 hi hz0 hz1 _ _ _ _ 1048577 rfl rfl rfl rfl (by rw [hz2]; omega) (by unfold maxLen; omega) (Nat.le_refl _) ?_; intro w3 hown3 hgrow3; have B3 : Below w2.heap.size w2 w3 := (Below.refl _ _).grown hgrow3 (Nat.le_refl _) (by simp))
  obtain ⟨q, hq, hbs⟩ := long_facts hown3
  have z3 := B3.size
  have HQ := Lib.hid hq
  have HBS := Lib.hid hbs
  have HW3 := Lib.hid (HW2.out.below B3)
  clear hown3 hgrow3 hq hbs B3 HW2 z2
  refine (wawake_any w3).mono ?_
  rintro e w4 ⟨rfl, b4⟩
  have HW4 := Lib.hid (HW3.out.below b4)
  have HB4 := Lib.hid (HBS.out.below b4)
  have HZ := Lib.hid b4.size
  clear b4 HW3 HBS
  go_wp2_with fail
  refine (wapp_nil A n c).mono ?_
  rintro e w9 ⟨rfl, h9⟩
  replace h9 := h9.symm
  subst h9
  go_wp2_with fail
  refine wsync_nil.mono ?_
  rintro e w9 ⟨rfl, h9⟩
  replace h9 := h9.symm
  subst h9
  go_wp2_with fail
  refine (wreb_nil A n c).mono ?_
  rintro e w9 ⟨rfl, h9⟩
  replace h9 := h9.symm
  subst h9
  go_wp2_with fail
  refine (wapp_long (some ⟨w2.heap.size, 0, none⟩) 1048577 1048577 (by decide) (by decide)).mono ?_
  rintro e w9 ⟨rfl, h9⟩
  replace h9 := h9.symm
  subst h9
  go_wp2_with fail
  refine (wreb_long (some ⟨w2.heap.size, 0, none⟩) 1048577 1048577 (by decide) (by decide)).mono ?_
  rintro e w9 ⟨rfl, h9⟩
  replace h9 := h9.symm
  subst h9
  have HRF := Lib.hid (HW4.out.rebf HB4.out HZ.out (by have := HQ.out; omega) (by decide) (by have := HQ.out; have := HFl.out; omega))
  rw [HQ.out] at HRF
  go_wp2_with fail
  refine HRF.out.mono ?_
  rintro e w5 ⟨rfl, W5⟩
  have HAP := Lib.hid (W5.app (K := 0) (A := none) (c := 0) (m := []) ⟨Nat.le_refl _, Nat.zero_le _, fun _ => rfl, fun h => absurd h (by simp)⟩ (Nat.zero_le _) (by simp) (by have := HFl.out; simp; omega))
  clear W5 HRF HW4 HB4
  go_wp2_with fail
  refine HAP.out.mono ?_
  rintro e w6 ⟨rfl, W6⟩
  have HB := Lib.hid W6.bel
  clear W6 HAP
  go_wp2_with fail
  go_ret
  exact ⟨rfl, HB.out⟩
end Go.Proofs.Ytpckbbjlihhpdaa
