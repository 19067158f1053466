/- A log on a disk of its own, while no power goes; law 09's awake. -/
import Derived.Test.YtpckbbjlihhpdaaWl9
namespace Go.Proofs.Ytpckbbjlihhpdaa
open Go.RowKit Go.BigFrame

/-- A disk with one segment, and power. -/
abbrev Sd (R : Int) (b : List UInt8) (l : Nat) (seg : Int) : Ad := ⟨R, -1, false, [⟨seg, b, l, true⟩]⟩
theorem sd_app {R : Int} {b q : List UInt8} {l : Nat} {seg : Int} (h1 : 1 ≤ seg) (hs : ((b.length + q.length : Nat) : Int) ≤ R) : appD (Sd R b l seg) seg q = (0, Sd R (b ++ q) l seg) := by
  unfold appD
  rw [if_neg (by simp), if_neg (by omega), if_neg (by simp only [sumA]; omega), if_neg (by simp), if_neg (show ¬ (-1 : Int) = 0 by decide)]
  simp [fz, putA]
theorem sd_sync {R : Int} {b : List UInt8} {l : Nat} {seg : Int} : opD syncA (Sd R b l seg) seg = (0, Sd R b b.length seg) := by
  unfold opD
  rw [if_neg (by simp), if_neg (by simp [hasA]), if_neg (show ¬ (-1 : Int) = 0 by decide)]
  simp [fz, syncA]
theorem sd_keep {R : Int} {b q : List UInt8} {l m : Nat} {seg nx : Int} (hlt : seg < nx) : keepA ⟨R, -1, false, [⟨seg, b, l, true⟩, ⟨nx, q, m, false⟩]⟩ nx [seg] = (0, Sd R q q.length nx) := by
  have hne : ¬ seg = nx := by omega
  have hne2 : ¬ nx = seg := by omega
  have e1 : opD syncA ⟨R, -1, false, [⟨seg, b, l, true⟩, ⟨nx, q, m, false⟩]⟩ nx = (0, ⟨R, -1, false, [⟨seg, b, l, true⟩, ⟨nx, q, q.length, true⟩]⟩) := by
    unfold opD
    rw [if_neg (by simp), if_neg (by simp [hasA]), if_neg (show ¬ (-1 : Int) = 0 by decide)]
    simp [fz, syncA, hne]
  have e2 : opD dropA ⟨R, -1, false, [⟨seg, b, l, true⟩, ⟨nx, q, q.length, true⟩]⟩ seg = (0, Sd R q q.length nx) := by
    unfold opD
    rw [if_neg (by simp), if_neg (by simp [hasA]), if_neg (show ¬ (-1 : Int) = 0 by decide)]
    simp [fz, dropA, hne2]
  unfold keepA
  rw [e1]
  simp only [dropsA, if_true, e2]
theorem sd_reb {R : Int} {b q : List UInt8} {l : Nat} {seg : Int} (h1 : 1 ≤ seg) (h2 : seg < 9223372036854775807) (hs : ((b.length + q.length : Nat) : Int) ≤ R) : rebA (Sd R b l seg) seg q = (0, Sd R q q.length (seg + 1), seg + 1) := by
  have ha : abv seg = seg + 1 := if_neg (by omega)
  have hne : ¬ seg = seg + 1 := by omega
  have e1 : appD (Sd R b l seg) (seg + 1) q = (0, ⟨R, -1, false, [⟨seg, b, l, true⟩, ⟨seg + 1, q, 0, false⟩]⟩) := by
    unfold appD
    rw [if_neg (by simp), if_neg (by omega), if_neg (by simp only [sumA]; omega), if_neg (by simp), if_neg (show ¬ (-1 : Int) = 0 by decide)]
    have h3 : ¬ seg + 1 < seg := by omega
    simp [fz, putA, h3, hne]
  unfold rebA
  rw [ha, e1]
  simp only [if_true, sd_keep (show seg < seg + 1 by omega)]
theorem fresh_lay {R : Int} {q : List UInt8} (hs : ((q.length : Nat) : Int) ≤ R) : layA ⟨R, -1, false, []⟩ 1 q [] = (0, Sd R q q.length 1) := by
  have e1 : appD ⟨R, -1, false, []⟩ 1 q = (0, ⟨R, -1, false, [⟨1, q, 0, false⟩]⟩) := by
    unfold appD
    rw [if_neg (by simp), if_neg (by omega), if_neg (by simp only [sumA]; omega), if_neg (by simp), if_neg (show ¬ (-1 : Int) = 0 by decide)]
    simp [fz, putA]
  have e2 : opD syncA ⟨R, -1, false, [⟨1, q, 0, false⟩]⟩ 1 = (0, Sd R q q.length 1) := by
    unfold opD
    rw [if_neg (by simp), if_neg (by simp [hasA]), if_neg (show ¬ (-1 : Int) = 0 by decide)]
    simp [fz, syncA]
  unfold layA keepA
  rw [e1]
  simp only [if_true, e2, dropsA]
/-- The log at p over the disk at d, with these bytes in its segment, in memory of w0's call. -/
structure Wd (w0 wr : World) (p d : Nat) (R : Int) (b : List UInt8) (l : Nat) (seg : Int) : Prop where
  ex : ∃ B, DD wr B d (Sd R b l seg) ∧ (∀ k, B k → w0.heap.size ≤ k) ∧ ¬ B p
  wp : Wp wr p d seg
  hp : w0.heap.size ≤ p
  h1 : 1 ≤ seg
  h2 : seg ≤ 9223372036854775807
  bel : Below w0.heap.size w0 wr
section
variable {w0 wr w' : World} {p d c K l : Nat} {R seg : Int} {b m : List UInt8} {A : Option Addr}
theorem Wd.lt (h : Wd w0 wr p d R b l seg) : p < wr.heap.size := World.block_lt_of_cell? _ _ h.wp.c0
theorem Wd.dlt (h : Wd w0 wr p d R b l seg) : d < wr.heap.size := by obtain ⟨B, D, _⟩ := h.ex; exact D.lt.1
theorem Wd.below (h : Wd w0 wr p d R b l seg) (hb : Below wr.heap.size wr w') : Wd w0 w' p d R b l seg := by
  obtain ⟨B, D, hB, hp⟩ := h.ex
  exact ⟨⟨B, D.below hb, hB, hp⟩, h.wp.below hb, h.hp, h.h1, h.h2, h.bel.trans (hb.mono h.bel.size)⟩
theorem Wd.lw {b2 : List UInt8} {l2 : Nat} {seg2 : Int} {B : Nat → Prop} (h : Wd w0 wr p d R b l seg) (hB : ∀ k, B k → w0.heap.size ≤ k) (h1 : 1 ≤ seg2) (h2 : seg2 ≤ 9223372036854775807) (L : Lw wr B p d seg2 (Sd R b2 l2 seg2) w') : Wd w0 w' p d R b2 l2 seg2 := by
  obtain ⟨B', D', t, hB', W', hp'⟩ := L
  have hs := h.bel.size
  exact ⟨⟨B', D', fun k hk => (hB' k hk).elim (hB k) fun h => by omega, hp'⟩, W', h.hp, h1, h2, t.bel h.bel (fun k hk => hk.elim (hB k) fun e => by rw [e]; exact h.hp) (Nat.le_refl _)⟩
theorem Wd.app (h : Wd w0 wr p d R b l seg) (hb : Bs wr K A c m) (hK : K ≤ wr.heap.size) (hl : m.length ≤ 1048576) (hs : ((b.length + (9 + m.length) : Nat) : Int) ≤ R) :
    Calls Try.prog 16 #[wP p, .slice A m.length c] wr fun e w' => e = .returned (.int .i64 0) ∧ Wd w0 w' p d R (b ++ sealB 1 m) l seg := by
  obtain ⟨B, D, hB, hp⟩ := h.ex
  refine (wapp_any h.wp D h.h2 hb hK hl (sd_app h.h1 (by rw [sealB_length]; exact hs))).mono ?_
  rintro e w' ⟨rfl, D'⟩
  exact ⟨rfl, h.lw hB h.h1 h.h2 (D'.lw h.wp hp)⟩
theorem Wd.sync (h : Wd w0 wr p d R b l seg) : Calls Try.prog 18 #[wP p] wr fun e w' => e = .returned (.int .i64 0) ∧ Wd w0 w' p d R b b.length seg := by
  obtain ⟨B, D, hB, hp⟩ := h.ex
  have h1 := h.h1
  refine (wsync_any h.wp D (by omega) h.h2 sd_sync).mono ?_
  rintro e w' ⟨rfl, D'⟩
  exact ⟨rfl, h.lw hB h.h1 h.h2 (D'.lw h.wp hp)⟩
theorem Wd.reb (h : Wd w0 wr p d R b l seg) (hb : Bs wr K A c m) (hK : K ≤ wr.heap.size) (hl : m.length ≤ 1048576) (hs2 : seg < 9223372036854775807) (hs : ((b.length + (18 + m.length) : Nat) : Int) ≤ R) :
    Calls Try.prog 20 #[wP p, .slice A m.length c] wr fun e w' => e = .returned (.int .i64 0) ∧ Wd w0 w' p d R (framesB m []) (18 + m.length) (seg + 1) := by
  obtain ⟨B, D, hB, hp⟩ := h.ex
  have h1 := h.h1
  have e : (framesB m []).length = 18 + m.length := by rw [framesB_len]; simp [recsB]; omega
  refine (wreb_any h.wp hp D (by omega) h.h2 hb hK hl (sd_reb h.h1 hs2 (by rw [e]; exact hs))).mono ?_
  rintro e' w' ⟨rfl, L⟩
  rw [e] at L
  exact ⟨rfl, h.lw hB (by omega) (by omega) L⟩
theorem Wd.open_ {base : List UInt8} {rs : List (List UInt8)} (h : Wd w0 wr p d R b l seg) (hr : readB b = some (base, rs, b.length)) :
    Calls Try.prog 13 #[dP d] wr fun e w' => Below wr.heap.size wr w' ∧ ∃ p' A1 c1 A2 c2, e = .returned (.tuple #[wP p', .slice A1 base.length c1, .slice A2 rs.length c2, .int .i64 0]) ∧ Wd w0 w' p' d R b l seg ∧ Ob w' wr.heap.size (.slice A1 base.length c1) base ∧ Rw w' wr.heap.size 30 (.slice A2 rs.length c2) rs := by
  obtain ⟨B, D, hB, hp⟩ := h.ex
  refine (open_alone (x := ⟨seg, b, l, true⟩) (base := base) (rs := rs) (n := b.length) D (by simp [newA, hr]) (by simp [alB])).mono ?_
  rintro e w' ⟨hb, p', A1, c1, A2, c2, rfl, W', hp1, hp2, ob, rw_⟩
  have hs := h.bel.size
  refine ⟨hb, p', A1, c1, A2, c2, rfl, ⟨⟨B, D.below hb, hB, fun h => by have := D.bt _ h; omega⟩, ?_, by omega, h.h1, h.h2, h.bel.trans (hb.mono hs)⟩, ob, rw_⟩
  have e9 : grA [⟨seg, b, l, true⟩] = seg := rfl
  rwa [e9] at W'
theorem Wd.crash0 (h : Wd w0 wr p d R b l seg) : Calls Try.prog 24 #[dP d, .slice none 0 0] wr fun e w' => e = .returned (.int .i64 0) ∧ Wd w0 w' p d R (b.take (min l b.length)) (min l b.length) seg := by
  obtain ⟨B, D, hB, hp⟩ := h.ex
  have e9 : crashD (Sd R b l seg) [] = Sd R (b.take (min l b.length)) (min l b.length) seg := by simp [crashD, crashA, tornA, kq]
  refine (crash_DD (ks := []) D (Sr.none_ _ _) (Nat.zero_le _) rfl (fun h => absurd h (by simp))).mono ?_
  rintro e w' ⟨rfl, B', D', t, hB'⟩
  rw [e9] at D'
  exact ⟨rfl, h.lw hB h.h1 h.h2 (Dw.lw ⟨B', D', t, hB'⟩ h.wp hp)⟩
end
theorem Rw.addr {w : World} {K n c : Nat} {T : TypeId} {A : Option Addr} {ps : List (List UInt8)} (h : Rw w K T (.slice A n c) ps) (hl : 0 < ps.length) : ∃ g, A = some ⟨g, 0, none⟩ := by
  obtain ⟨xs, ho, _⟩ := h
  rcases ho.2 with ⟨_, h0⟩ | ⟨g, cap', cur, he, _⟩
  · omega
  · injection he with h1 _ _
    exact ⟨g, h1⟩
theorem Rw.slot {w : World} {K n c g i : Nat} {T : TypeId} {ps : List (List UInt8)} {q : List UInt8} (h : Rw w K T (.slice (some ⟨g, 0, none⟩) n c) ps) (hi : ps[i]? = some q) : ∃ A c', w.cell? ⟨g, i, none⟩ = some (.slice A q.length c') ∧ Bs w w.heap.size A c' q := by
  obtain ⟨xs, ho, hx⟩ := h
  obtain ⟨A, c', h2, h3, _⟩ := hx i q hi
  have h1 := ho.cells (g := g) rfl _ _ h2
  have e : (⟨g, 0, none⟩ : Addr).add i = ⟨g, i, none⟩ := by unfold Addr.add; split <;> simp_all
  rw [e] at h1
  exact ⟨A, c', h1, h3⟩
theorem frames0 : (framesB [] []).length = 18 := by rw [framesB_len]; rfl
/-- A new disk's log. -/
theorem open_new {w0 w1 : World} {B : Nat → Prop} {d : Nat} {R : Int} (D : DD w1 B d ⟨R, -1, false, []⟩) (hB : ∀ k, B k → w0.heap.size ≤ k) (hb : Below w0.heap.size w0 w1) (hR : 18 ≤ R) :
    Calls Try.prog 13 #[dP d] w1 fun e w' => ∃ p A1 c1 A2 c2, e = .returned (.tuple #[wP p, .slice A1 0 c1, .slice A2 0 c2, .int .i64 0]) ∧ Wd w0 w' p d R (framesB [] []) 18 1 := by
  have hl := fresh_lay (R := R) (q := framesB [] []) (by rw [frames0]; exact hR)
  rw [frames0] at hl
  refine (open_lay (r := 0) D rfl rfl hl).mono ?_
  rintro e w' (⟨_, p, B', ⟨A1, c1, A2, c2, rfl, W', hp1, hp2, ob, rw_⟩, D', t, hB', hp'⟩ | ⟨h, _⟩)
  · have hs := hb.size
    exact ⟨p, A1, c1, A2, c2, rfl, ⟨B', D', fun k hk => (hB' k hk).elim (hB k) fun h => by omega, hp'⟩, W', by omega, by decide, by decide, t.bel hb hB (Nat.le_refl _)⟩
  · exact absurd rfl h
set_option maxRecDepth 100000 in
set_option maxHeartbeats 6400000 in
theorem wawake_any (w : World) : Calls Try.prog 12 #[] w (Ok0 w) := by
  have kc := fun (w : World) (C : Array Value) (n c : Nat) => Lib.run_convert_bytes_const (P := Try.prog) w 30 5 C n c Try.underlying30 Try.underlying5
  obtain ⟨F, hF⟩ : ∃ F, F = framesB [] [] := ⟨_, rfl⟩
  have hFl : F.length = 18 := by rw [hF, frames0]
  obtain ⟨S1, hS1⟩ : ∃ S1, S1 = sealB 1 [97] := ⟨_, rfl⟩
  have hS1l : S1.length = 10 := by rw [hS1, sealB_length]; rfl
  obtain ⟨S2, hS2⟩ : ∃ S2, S2 = sealB 1 [98] := ⟨_, rfl⟩
  have hS2l : S2.length = 10 := by rw [hS2, sealB_length]; rfl
  have hrd : readB (F ++ S1) = some ([], [[97]], (F ++ S1).length) := by
    have h := readB_frames [] [] [[97]] (by simp) (fun x hx => (by cases hx)) (fun x hx => (by simp at hx; subst hx; decide))
    have e : recsB [[97]] = S1 := by rw [hS1]; simp [recsB]
    rw [e, ← hF] at h
    exact h
  have htk : (F ++ S1 ++ S2).take (min (F ++ S1).length (F ++ S1 ++ S2).length) = F ++ S1 := by
    rw [show min (F ++ S1).length (F ++ S1 ++ S2).length = (F ++ S1).length by simp only [List.length_append]; omega, List.take_left]
  have hmn : min (F ++ S1).length (F ++ S1 ++ S2).length = (F ++ S1).length := by simp only [List.length_append]; omega
  have HF := Lib.hid hF
  have HS1 := Lib.hid hS1
  have HS2 := Lib.hid hS2
  have HFl := Lib.hid hFl
  have HS1l := Lib.hid hS1l
  have HS2l := Lib.hid hS2l
  have HRD := Lib.hid hrd
  have HTK := Lib.hid htk
  have HMN := Lib.hid hmn
  clear hF hFl hS1 hS1l hS2 hS2l hrd htk hmn
  go_enter Try.func12, Try.ntmps12
  go_wp2_with fail
  refine (new_DD 1000 (by decide) (by decide) w).mono ?_
  rintro e w1 ⟨rfl, ⟨B1, D1, hB1⟩, b1⟩
  generalize w1.heap.size + 1 = d0 at *
  generalize hd : w.heap.size + 1 = d at *
  go_wp2_with fail
  refine (open_new D1 hB1 b1 (by decide)).mono ?_
  rintro e w2 ⟨p, A1, c1, A2, c2, rfl, W2⟩
  rw [← HF.out] at W2
  have z2 := W2.lt
  have HW2 := Lib.hid W2
  clear W2 D1 hB1 b1
  go_wp2_with fail
  refine ((HW2.out.below ((Below.refl _ _).alloc (Nat.le_refl _) _)).app (K := w2.heap.size + 1) (m := [97]) (lit_bsF w2 _ _ _ rfl #[.int .u8 97] 1 [97] rfl rfl (by decide)) (by simp) (by decide) (by have := HFl.out; simp; omega)).mono ?_
  rintro e w3 ⟨rfl, W3⟩
  rw [← HS1.out] at W3
  have z3 := W3.lt
  have HW3 := Lib.hid W3
  clear W3 HW2 z2
  go_wp2_with fail
  refine HW3.out.sync.mono ?_
  rintro e w4 ⟨rfl, W4⟩
  have z4 := W4.lt
  have HW4 := Lib.hid W4
  clear W4 HW3 z3
  go_wp2_with fail
  refine ((HW4.out.below ((Below.refl _ _).alloc (Nat.le_refl _) _)).app (K := w4.heap.size + 1) (m := [98]) (lit_bsF w4 _ _ _ rfl #[.int .u8 98] 1 [98] rfl rfl (by decide)) (by simp) (by decide) (by have := HFl.out; have := HS1l.out; simp; omega)).mono ?_
  rintro e w5 ⟨rfl, W5⟩
  rw [← HS2.out] at W5
  have z5 := W5.lt
  have HW5 := Lib.hid W5
  clear W5 HW4 z4
  go_wp2_with fail
  refine HW5.out.crash0.mono ?_
  rintro e w6 ⟨rfl, W6⟩
  rw [HTK.out, HMN.out] at W6
  have z6 := W6.lt
  have HW6 := Lib.hid W6
  clear W6 HW5 z5
  go_wp2_with fail
  refine (HW6.out.open_ HRD.out).mono ?_
  rintro e w7 ⟨b7, p7, A5, c5, A6, c6, rfl, W7, ob7, rw7⟩
  obtain ⟨g, rfl⟩ := rw7.addr (by simp)
  obtain ⟨A8, c8, x8, bs8⟩ := rw7.slot (i := 0) (q := [97]) rfl
  have hc6 := rw7.pr.1.le
  have hs : (convert 30 9 (.slice A8 1 c8)).run Try.prog w7 = .ok (.string (strB [97])) w7 := bs_str bs8 rfl
  have hq : ((strB [97]).toList == [97]) = true := by decide +kernel
  have HB := Lib.hid W7.bel
  simp only [List.length_cons, List.length_nil, Nat.zero_add] at hc6 x8 ⊢
  clear W7 ob7 rw7 bs8 b7 HW6 z6
  go_wp2_with fail
  go_ret
  exact ⟨rfl, HB.out⟩
end Go.Proofs.Ytpckbbjlihhpdaa
