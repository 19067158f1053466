/- Steps of a log, among a law's arguments. -/
import Derived.Test.YtkkaehaoahpibaaPk22
import Derived.Test.YtkkaehaoahpibaaPk20
import Derived.Test.YtkkaehaoahpibaaPk10
namespace Go.Proofs.Ytkkaehaoahpibaa
open Go.RowKit Go.BigFrame

section
variable {w W W1 w2 w3 wx wy : World} {B C B' C' : Nat → Prop} {d m : Nat} {a b : Ad}
theorem JJ.comp (t : Tn (fun k => B k ∨ C k) W w2) (h1 : ∀ k, B' k → B k ∨ W.heap.size ≤ k) (h2 : ∀ k, C' k → C k ∨ W.heap.size ≤ k) (hb : Below w2.heap.size w2 w3) (J : JJ w3 B' C' d m a b wy) : JJ W B C d m a b wy := by
  obtain ⟨B2, C2, D, R, g1, g2, g3⟩ := J.ex
  have z1 := t.size
  have z2 := hb.size
  exact ⟨⟨B2, C2, D, R, fun k hk => (g1 k hk).elim (h1 k) fun h => .inr (by omega), fun k hk => (g2 k hk).elim (h2 k) fun h => .inr (by omega), g3⟩, (t.then (Tn.ofNew hb)).thenQ J.tn fun k hk h => h.elim (fun h => (h1 k h).elim .inl fun h => absurd hk (by omega)) fun h => (h2 k h).elim .inr fun h => absurd hk (by omega)⟩
set_option maxRecDepth 100000 in
set_option maxHeartbeats 6400000 in
theorem does_4j {n : Int} {p : List UInt8} {ks : List Int} {A1 A2 : Option Addr} {c1 c2 : Nat} (sr : Sr encI 1 w w.heap.size A2 c2 ks) (hks : ks.length * 8 ≤ 140737488355328) (D : DD W B d a) (R : RD W C m a) (hB : ∀ k, B k → w.heap.size ≤ k) (hC : ∀ k, C k → w.heap.size ≤ k) (hBC : ∀ k, B k → ¬ C k) (hbl : Below w.heap.size w W) :
    Calls Try.prog 7 #[dP d, rP m, .agg #[.int .i64 4, .int .i64 n, .slice A1 p.length c1, .slice A2 ks.length c2]] W fun e w' => e = .returned (.bool true) ∧ ∃ a', JJ W B C d m a' a' w' := by
  have HL := Lib.hid D.lim
  have HJ : Hid (JJ (W.alloc (.cells #[.int .i64 4, .int .i64 n, .slice A1 p.length c1, .slice A2 ks.length c2] 35)) B C d m a a _) := Lib.hid (JJ.start (D.alloc _) (R.below ((Below.refl _ _).alloc (Nat.le_refl _) _)) hBC)
  have HX : Hid (∀ wx b c, JJ (W.alloc (.cells #[.int .i64 4, .int .i64 n, .slice A1 p.length c1, .slice A2 ks.length c2] 35)) B C d m b c wx → wx.cell? ⟨W.heap.size, 3, none⟩ = some (.slice A2 ks.length c2)) := Lib.hid fun wx b c J => by
    have hn : ¬ (B W.heap.size ∨ C W.heap.size) := fun h => h.elim (fun h => Nat.lt_irrefl _ (D.bt _ h)) fun h => Nat.lt_irrefl _ (R.bt _ h)
    exact J.tn.cell (by simp [go_sem]) hn
  have HB1 : Hid (Below w.heap.size w (W.alloc (.cells #[.int .i64 4, .int .i64 n, .slice A1 p.length c1, .slice A2 ks.length c2] 35))) := Lib.hid (hbl.alloc hbl.size _)
  have HB := Lib.hid hB
  have HC := Lib.hid hC
  have HSR := Lib.hid sr
  have hkl := sr.le
  have hkm := sr.max
  have hkx := hkm
  unfold maxLen at hkm
  clear D R hB hC hBC hbl sr
  go_enter Try.func7, Try.ntmps7
  go_wp2_with fail
  go_at_call 25
  refine (HJ.out.doc (r := 0) (b' := crashD a ks) (Q := fun e => e = .returned (.tuple #[])) fun C' R' _ => rcrash_RD R' HL.out (HSR.out.below HB1.out) HB1.out.size).mono ?_
  rintro e w2 ⟨rfl, J2⟩
  have x3 := HX.out _ _ _ J2
  have hzs : W.heap.size < w2.heap.size := World.block_lt_of_cell? w2 ⟨W.heap.size, 3, none⟩ x3
  have HB2 : Hid (Below w.heap.size w w2) := Lib.hid (J2.tn.bel HB1.out (fun k hk => hk.elim (HB.out k) (HC.out k)) (Nat.le_refl _))
  have HJ2 := Lib.hid J2
  have hz := HB2.out.size
  clear J2
  go_wp2_with (at_builtin; refine wpList_appE Try.underlying33 info_int rfl (by decide) encI_len encI_one _ rfl (.tmp 94) (.tmp 96) rfl w2.heap.size (.slice (some ⟨w2.heap.size, 0, none⟩) 0 0) [] rfl (lit_so w2 w2.heap.size _ w2.heap.size rfl (Nat.le_refl _) _ 0 [] encI_len rfl rfl (by decide)) A2 ks.length c2 ks rfl rfl w.heap.size ((HSR.out.below HB2.out).alloc hz _) ks.length (by simp) (by unfold maxLen; omega) hks (by simp) ?_; intro A3 c3 w3 ho3 gr3 at3; have b3 : Below w2.heap.size w2 w3 := grown_below ((Below.refl _ _).alloc (Nat.le_refl _) _) gr3 (by simp) (by simp [Value.ownBlock]))
  obtain ⟨B', C', D2, R2, h1, h2, h3⟩ := HJ2.out.ex
  have J3 : JJ w3 B' C' d m a (crashD a ks) w3 := JJ.start (D2.below b3) (R2.below b3) h3
  have HS3 := (ho3.sr encI_len).1
  have z1 := HB1.out.size
  have HR : Hid (∀ wy, JJ w3 B' C' d m (crashD a ks) (crashD a ks) wy → ∃ a', JJ W B C d m a' a' wy) := Lib.hid fun wy J => ⟨_, (JJ.comp HJ2.out.tn h1 h2 b3 J).back ((Below.refl _ _).alloc (Nat.le_refl _) _)⟩
  go_at_call 18
  refine (J3.prog (r := 0) (a' := crashD a ks) fun B2 E2 hE => crash_DD E2 HS3 (Nat.le_refl _) (by simp) fun hl ad e hb => ?_).mono ?_
  · have h5 : w2.heap.size ≤ ad.block ∧ ad.block < w3.heap.size := ho3.lt ad.block (by rw [e]; rfl)
    rcases hE _ hb with h | h
    · have := D2.bt _ h
      omega
    · omega
  rintro e w9 ⟨rfl, J9⟩
  have HF := Lib.hid (HR.out _ J9)
  clear J9 J3 h1 h2 h3 HS3 ho3 gr3 at3 b3 D2 R2
  go_wp2_with fail
  go_ret
  exact ⟨rfl, HF.out⟩
end
section
variable {w W W1 wx : World} {d m : Nat} {wv rv : Value}
/-- A fuse or a crash, called behind some new memory: both logs stay, and so does that memory. -/
theorem Lz.does34 {k n : Int} {p : List UInt8} {ks : List Int} {A1 A2 : Option Addr} {c1 c2 : Nat} (hk : k = 3 ∨ k = 4) (n2 : n ≤ 9223372036854775807) (sr : Sr encI 1 w w.heap.size A2 c2 ks) (hks : ks.length * 8 ≤ 140737488355328) (Z : Lz w d m wv rv W) (hW : Below W.heap.size W W1) :
    Calls Try.prog 7 #[dP d, rP m, .agg #[.int .i64 k, .int .i64 n, .slice A1 p.length c1, .slice A2 ks.length c2]] W1 fun e w' => e = .returned (.bool true) ∧ Lz w d m wv rv w' ∧ Tn (fun k => k < W.heap.size) W1 w' := by
  obtain ⟨a, B, C, D, R, h1, h2, h3, b, h⟩ := Z
  have D1 := D.below hW
  have R1 := R.below hW
  have b1 : Below w.heap.size w W1 := b.trans (hW.mono b.size)
  have hz := hW.size
  have hbs := b.size
  have H : Calls Try.prog 7 #[dP d, rP m, .agg #[.int .i64 k, .int .i64 n, .slice A1 p.length c1, .slice A2 ks.length c2]] W1 fun e w' => e = .returned (.bool true) ∧ ∃ a', JJ W1 B C d m a' a' w' := by
    rcases hk with rfl | rfl
    · exact does_3j n2 D1 R1 h3
    · exact does_4j sr hks D1 R1 h1 h2 h3 b1
  refine H.mono ?_
  rintro e w' ⟨rfl, a', J⟩
  obtain ⟨B', C', D', R', g1, g2, g3⟩ := J.ex
  refine ⟨rfl, ⟨a', B', C', D', R', fun k hk => (g1 k hk).elim (h1 k) fun h => by omega, fun k hk => (g2 k hk).elim (h2 k) fun h => by omega, g3, J.tn.bel b1 (fun k hk => hk.elim (h1 k) (h2 k)) (Nat.le_refl _), ?_⟩, J.tn.mono fun k _ h => h.elim (D.bt k) (R.bt k)⟩
  rcases h with h | ⟨p, q, s, A1, n1, c1, A2, n2, c2, e1, e2, hp, hq, h5, h6, h7, ⟨k1, k2, k3, k4⟩, h9⟩
  · exact .inl h
  · have hpl : p < W.heap.size := World.block_lt_of_cell? _ _ hp.c0
    have hql := hq.lt
    exact .inr ⟨p, q, s, A1, n1, c1, A2, n2, c2, e1, e2, (hp.below hW).tn J.tn fun h => h.elim k1 k3, (hq.below hW).tn J.tn fun h => h.elim k2 k4, h5, h6, h7, ⟨fun h => (g1 p h).elim k1 fun h => by omega, fun h => (g1 q h).elim k2 fun h => by omega, fun h => (g2 p h).elim k3 fun h => by omega, fun h => (g2 q h).elim k4 fun h => by omega⟩, h9⟩
theorem Lz.ways (Z : Lz w d m wv rv W) : (wv = .pointer Option.none ∧ rv = .pointer Option.none) ∨ ∃ p q, wv = wP p ∧ rv = rP q := by
  obtain ⟨a, B, C, D, R, h1, h2, h3, hb, h⟩ := Z
  rcases h with h | ⟨p, q, s, A1, n1, c1, A2, n2, c2, e1, e2, _⟩
  · exact .inl h
  · exact .inr ⟨p, q, e1, e2⟩
/-- The state, opened for a step of both logs behind new memory. -/
theorem Lz.jv {p q : Nat} (Z : Lz w d m (wP p) (rP q) W) (hW : Below W.heap.size W W1) : ∃ a B C s A1 n1 c1 A2 n2 c2, JV W1 B C d m p q a s a s A1 n1 c1 A2 n2 c2 (B, C) W1 ∧ (∀ k, B k → k < W.heap.size) ∧ (∀ k, C k → k < W.heap.size) ∧ p < W.heap.size ∧ q < W.heap.size ∧ Lim a ∧ (0 ≤ s ∧ s ≤ 9223372036854775807) ∧ (∀ a1 s1 a2 s2 S wx, JV W1 B C d m p q a1 s1 a2 s2 A1 n1 c1 A2 n2 c2 S wx → Below w.heap.size w wx) ∧ ∀ (a' : Ad) (s' : Int) S wx, (0 ≤ s' ∧ s' ≤ 9223372036854775807) → JV W1 B C d m p q a' s' a' s' A1 n1 c1 A2 n2 c2 S wx → Lz w d m (wP p) (rP q) wx := by
  obtain ⟨a, B, C, D, R, h1, h2, h3, hb, h⟩ := Z
  rcases h with ⟨h, _⟩ | ⟨p', q', s, A1, n1, c1, A2, n2, c2, e1, e2, hp, hq, h5, h6, h7, h8, h9⟩
  · cases h
  · cases e1
    cases e2
    have hpl : p < W.heap.size := World.block_lt_of_cell? _ _ hp.c0
    exact ⟨a, B, C, s, A1, n1, c1, A2, n2, c2, JV.start (D.below hW) (R.below hW) h3 (hp.below hW) (hq.below hW) h5 h8, D.bt, R.bt, hpl, hq.lt, D.lim, h9, (fun _ _ _ _ S wx J => J.tn.bel (hb.trans (hW.mono hb.size)) (fun k hk => hk.elim (h1 k) fun hk => hk.elim (h2 k) fun hk => hk.elim (fun h => h ▸ h6) fun h => h ▸ h7) (Nat.le_refl _)), fun a' s' S wx hs J => J.jw.fin (hb.trans (hW.mono hb.size)) h1 h2 h6 h7 hs⟩
end
end Go.Proofs.Ytkkaehaoahpibaa
namespace Go.Proofs.Ytkkaehaoahpibaa
open Go.RowKit Go.BigFrame

/-- A disk with one segment, and power. -/
abbrev Sd (R : Int) (b : List UInt8) (l : Nat) (seg : Int) : Ad := ⟨R, -1, false, [⟨seg, b, l, true⟩]⟩
theorem sd_app {R : Int} {b q : List UInt8} {l : Nat} {seg : Int} (h1 : 1 ≤ seg) (hs : ((b.length + q.length : Nat) : Int) ≤ R) : appD (Sd R b l seg) seg q = (0, Sd R (b ++ q) l seg) := by
  unfold appD
  rw [if_neg (by simp), if_neg (by omega), if_neg (by simp only [sumA]; omega), if_neg (by simp), if_neg (show ¬ (-1 : Int) = 0 by decide)]
  simp [fz, putA]
theorem sd_sync {R : Int} {b : List UInt8} {l : Nat} {seg : Int} : opD syncA (Sd R b l seg) seg = (0, Sd R b b.length seg) := by
  unfold opD
  rw [if_neg (by simp), if_neg (by simp [hasA]), if_neg (show ¬ (-1 : Int) = 0 by decide)]
  simp [fz, syncA]
theorem sd_keep {R : Int} {b q : List UInt8} {l m : Nat} {seg nx : Int} (hlt : seg < nx) : keepA ⟨R, -1, false, [⟨seg, b, l, true⟩, ⟨nx, q, m, false⟩]⟩ nx [seg] = (0, Sd R q q.length nx) := by
  have hne : ¬ seg = nx := by omega
  have hne2 : ¬ nx = seg := by omega
  have e1 : opD syncA ⟨R, -1, false, [⟨seg, b, l, true⟩, ⟨nx, q, m, false⟩]⟩ nx = (0, ⟨R, -1, false, [⟨seg, b, l, true⟩, ⟨nx, q, q.length, true⟩]⟩) := by
    unfold opD
    rw [if_neg (by simp), if_neg (by simp [hasA]), if_neg (show ¬ (-1 : Int) = 0 by decide)]
    simp [fz, syncA, hne]
  have e2 : opD dropA ⟨R, -1, false, [⟨seg, b, l, true⟩, ⟨nx, q, q.length, true⟩]⟩ seg = (0, Sd R q q.length nx) := by
    unfold opD
    rw [if_neg (by simp), if_neg (by simp [hasA]), if_neg (show ¬ (-1 : Int) = 0 by decide)]
    simp [fz, dropA, hne2]
  unfold keepA
  rw [e1]
  simp only [dropsA, if_true, e2]
theorem sd_reb {R : Int} {b q : List UInt8} {l : Nat} {seg : Int} (h1 : 1 ≤ seg) (h2 : seg < 9223372036854775807) (hs : ((b.length + q.length : Nat) : Int) ≤ R) : rebA (Sd R b l seg) seg q = (0, Sd R q q.length (seg + 1), seg + 1) := by
  have ha : abv seg = seg + 1 := if_neg (by omega)
  have hne : ¬ seg = seg + 1 := by omega
  have e1 : appD (Sd R b l seg) (seg + 1) q = (0, ⟨R, -1, false, [⟨seg, b, l, true⟩, ⟨seg + 1, q, 0, false⟩]⟩) := by
    unfold appD
    rw [if_neg (by simp), if_neg (by omega), if_neg (by simp only [sumA]; omega), if_neg (by simp), if_neg (show ¬ (-1 : Int) = 0 by decide)]
    have h3 : ¬ seg + 1 < seg := by omega
    simp [fz, putA, h3, hne]
  unfold rebA
  rw [ha, e1]
  simp only [if_true, sd_keep (show seg < seg + 1 by omega)]
theorem fresh_lay {R : Int} {q : List UInt8} (hs : ((q.length : Nat) : Int) ≤ R) : layA ⟨R, -1, false, []⟩ 1 q [] = (0, Sd R q q.length 1) := by
  have e1 : appD ⟨R, -1, false, []⟩ 1 q = (0, ⟨R, -1, false, [⟨1, q, 0, false⟩]⟩) := by
    unfold appD
    rw [if_neg (by simp), if_neg (by omega), if_neg (by simp only [sumA]; omega), if_neg (by simp), if_neg (show ¬ (-1 : Int) = 0 by decide)]
    simp [fz, putA]
  have e2 : opD syncA ⟨R, -1, false, [⟨1, q, 0, false⟩]⟩ 1 = (0, Sd R q q.length 1) := by
    unfold opD
    rw [if_neg (by simp), if_neg (by simp [hasA]), if_neg (show ¬ (-1 : Int) = 0 by decide)]
    simp [fz, syncA]
  unfold layA keepA
  rw [e1]
  simp only [if_true, e2, dropsA]
/-- The log at p over the disk at d, with these bytes in its segment, in memory of w0's call. -/
structure Wd (w0 wr : World) (p d : Nat) (R : Int) (b : List UInt8) (l : Nat) (seg : Int) : Prop where
  ex : ∃ B, DD wr B d (Sd R b l seg) ∧ (∀ k, B k → w0.heap.size ≤ k) ∧ ¬ B p
  wp : Wp wr p d seg
  hp : w0.heap.size ≤ p
  h1 : 1 ≤ seg
  h2 : seg ≤ 9223372036854775807
  bel : Below w0.heap.size w0 wr
section
variable {w0 wr w' : World} {p d c K l : Nat} {R seg : Int} {b m : List UInt8} {A : Option Addr}
theorem Wd.lt (h : Wd w0 wr p d R b l seg) : p < wr.heap.size := World.block_lt_of_cell? _ _ h.wp.c0
theorem Wd.dlt (h : Wd w0 wr p d R b l seg) : d < wr.heap.size := by obtain ⟨B, D, _⟩ := h.ex; exact D.lt.1
theorem Wd.below (h : Wd w0 wr p d R b l seg) (hb : Below wr.heap.size wr w') : Wd w0 w' p d R b l seg := by
  obtain ⟨B, D, hB, hp⟩ := h.ex
  exact ⟨⟨B, D.below hb, hB, hp⟩, h.wp.below hb, h.hp, h.h1, h.h2, h.bel.trans (hb.mono h.bel.size)⟩
theorem Wd.lw {b2 : List UInt8} {l2 : Nat} {seg2 : Int} {B : Nat → Prop} (h : Wd w0 wr p d R b l seg) (hB : ∀ k, B k → w0.heap.size ≤ k) (h1 : 1 ≤ seg2) (h2 : seg2 ≤ 9223372036854775807) (L : Lw wr B p d seg2 (Sd R b2 l2 seg2) w') : Wd w0 w' p d R b2 l2 seg2 := by
  obtain ⟨B', D', t, hB', W', hp'⟩ := L
  have hs := h.bel.size
  exact ⟨⟨B', D', fun k hk => (hB' k hk).elim (hB k) fun h => by omega, hp'⟩, W', h.hp, h1, h2, t.bel h.bel (fun k hk => hk.elim (hB k) fun e => by rw [e]; exact h.hp) (Nat.le_refl _)⟩
theorem Wd.app (h : Wd w0 wr p d R b l seg) (hb : Bs wr K A c m) (hK : K ≤ wr.heap.size) (hl : m.length ≤ 1048576) (hs : ((b.length + (9 + m.length) : Nat) : Int) ≤ R) :
    Calls Try.prog 12 #[wP p, .slice A m.length c] wr fun e w' => e = .returned (.int .i64 0) ∧ Wd w0 w' p d R (b ++ sealB 1 m) l seg := by
  obtain ⟨B, D, hB, hp⟩ := h.ex
  refine (wapp_any h.wp D h.h2 hb hK hl (sd_app h.h1 (by rw [sealB_length]; exact hs))).mono ?_
  rintro e w' ⟨rfl, D'⟩
  exact ⟨rfl, h.lw hB h.h1 h.h2 (D'.lw h.wp hp)⟩
theorem Wd.sync (h : Wd w0 wr p d R b l seg) : Calls Try.prog 14 #[wP p] wr fun e w' => e = .returned (.int .i64 0) ∧ Wd w0 w' p d R b b.length seg := by
  obtain ⟨B, D, hB, hp⟩ := h.ex
  have h1 := h.h1
  refine (wsync_any h.wp D (by omega) h.h2 sd_sync).mono ?_
  rintro e w' ⟨rfl, D'⟩
  exact ⟨rfl, h.lw hB h.h1 h.h2 (D'.lw h.wp hp)⟩
theorem Wd.reb (h : Wd w0 wr p d R b l seg) (hb : Bs wr K A c m) (hK : K ≤ wr.heap.size) (hl : m.length ≤ 1048576) (hs2 : seg < 9223372036854775807) (hs : ((b.length + (18 + m.length) : Nat) : Int) ≤ R) :
    Calls Try.prog 16 #[wP p, .slice A m.length c] wr fun e w' => e = .returned (.int .i64 0) ∧ Wd w0 w' p d R (framesB m []) (18 + m.length) (seg + 1) := by
  obtain ⟨B, D, hB, hp⟩ := h.ex
  have h1 := h.h1
  have e : (framesB m []).length = 18 + m.length := by rw [framesB_len]; simp [recsB]; omega
  refine (wreb_any h.wp hp D (by omega) h.h2 hb hK hl (sd_reb h.h1 hs2 (by rw [e]; exact hs))).mono ?_
  rintro e' w' ⟨rfl, L⟩
  rw [e] at L
  exact ⟨rfl, h.lw hB (by omega) (by omega) L⟩
theorem Wd.open_ {base : List UInt8} {rs : List (List UInt8)} (h : Wd w0 wr p d R b l seg) (hr : readB b = some (base, rs, b.length)) :
    Calls Try.prog 8 #[dP d] wr fun e w' => Below wr.heap.size wr w' ∧ ∃ p' A1 c1 A2 c2, e = .returned (.tuple #[wP p', .slice A1 base.length c1, .slice A2 rs.length c2, .int .i64 0]) ∧ Wd w0 w' p' d R b l seg ∧ Ob w' wr.heap.size (.slice A1 base.length c1) base ∧ Rw w' wr.heap.size 32 (.slice A2 rs.length c2) rs := by
  obtain ⟨B, D, hB, hp⟩ := h.ex
  refine (open_alone (x := ⟨seg, b, l, true⟩) (base := base) (rs := rs) (n := b.length) D (by simp [newA, hr]) (by simp [alB])).mono ?_
  rintro e w' ⟨hb, p', A1, c1, A2, c2, rfl, W', hp1, hp2, ob, rw_⟩
  have hs := h.bel.size
  refine ⟨hb, p', A1, c1, A2, c2, rfl, ⟨⟨B, D.below hb, hB, fun h => by have := D.bt _ h; omega⟩, ?_, by omega, h.h1, h.h2, h.bel.trans (hb.mono hs)⟩, ob, rw_⟩
  have e9 : grA [⟨seg, b, l, true⟩] = seg := rfl
  rwa [e9] at W'
theorem Wd.crash0 (h : Wd w0 wr p d R b l seg) : Calls Try.prog 18 #[dP d, .slice none 0 0] wr fun e w' => e = .returned (.int .i64 0) ∧ Wd w0 w' p d R (b.take (min l b.length)) (min l b.length) seg := by
  obtain ⟨B, D, hB, hp⟩ := h.ex
  have e9 : crashD (Sd R b l seg) [] = Sd R (b.take (min l b.length)) (min l b.length) seg := by simp [crashD, crashA, tornA, kq]
  refine (crash_DD (ks := []) D (Sr.none_ _ _) (Nat.zero_le _) rfl (fun h => absurd h (by simp))).mono ?_
  rintro e w' ⟨rfl, B', D', t, hB'⟩
  rw [e9] at D'
  exact ⟨rfl, h.lw hB h.h1 h.h2 (Dw.lw ⟨B', D', t, hB'⟩ h.wp hp)⟩
end
theorem Rw.addr {w : World} {K n c : Nat} {T : TypeId} {A : Option Addr} {ps : List (List UInt8)} (h : Rw w K T (.slice A n c) ps) (hl : 0 < ps.length) : ∃ g, A = some ⟨g, 0, none⟩ := by
  obtain ⟨xs, ho, _⟩ := h
  rcases ho.2 with ⟨_, h0⟩ | ⟨g, cap', cur, he, _⟩
  · omega
  · injection he with h1 _ _
    exact ⟨g, h1⟩
theorem Rw.slot {w : World} {K n c g i : Nat} {T : TypeId} {ps : List (List UInt8)} {q : List UInt8} (h : Rw w K T (.slice (some ⟨g, 0, none⟩) n c) ps) (hi : ps[i]? = some q) : ∃ A c', w.cell? ⟨g, i, none⟩ = some (.slice A q.length c') ∧ Bs w w.heap.size A c' q := by
  obtain ⟨xs, ho, hx⟩ := h
  obtain ⟨A, c', h2, h3, _⟩ := hx i q hi
  have h1 := ho.cells (g := g) rfl _ _ h2
  have e : (⟨g, 0, none⟩ : Addr).add i = ⟨g, i, none⟩ := by unfold Addr.add; split <;> simp_all
  rw [e] at h1
  exact ⟨A, c', h1, h3⟩
theorem frames0 : (framesB [] []).length = 18 := by rw [framesB_len]; rfl
/-- A new disk's log. -/
theorem open_new {w0 w1 : World} {B : Nat → Prop} {d : Nat} {R : Int} (D : DD w1 B d ⟨R, -1, false, []⟩) (hB : ∀ k, B k → w0.heap.size ≤ k) (hb : Below w0.heap.size w0 w1) (hR : 18 ≤ R) :
    Calls Try.prog 8 #[dP d] w1 fun e w' => ∃ p A1 c1 A2 c2, e = .returned (.tuple #[wP p, .slice A1 0 c1, .slice A2 0 c2, .int .i64 0]) ∧ Wd w0 w' p d R (framesB [] []) 18 1 := by
  have hl := fresh_lay (R := R) (q := framesB [] []) (by rw [frames0]; exact hR)
  rw [frames0] at hl
  refine (open_lay (r := 0) D rfl rfl hl).mono ?_
  rintro e w' (⟨_, p, B', ⟨A1, c1, A2, c2, rfl, W', hp1, hp2, ob, rw_⟩, D', t, hB', hp'⟩ | ⟨h, _⟩)
  · have hs := hb.size
    exact ⟨p, A1, c1, A2, c2, rfl, ⟨B', D', fun k hk => (hB' k hk).elim (hB k) fun h => by omega, hp'⟩, W', by omega, by decide, by decide, t.bel hb hB (Nat.le_refl _)⟩
  · exact absurd rfl h
set_option maxRecDepth 100000 in
set_option maxHeartbeats 6400000 in
theorem wawake_any (w : World) : Calls Try.prog 4 #[] w (Ok0 w) := by
  have kc := fun (w : World) (C : Array Value) (n c : Nat) => Lib.run_convert_bytes_const (P := Try.prog) w 32 5 C n c Try.underlying32 Try.underlying5
  obtain ⟨F, hF⟩ : ∃ F, F = framesB [] [] := ⟨_, rfl⟩
  have hFl : F.length = 18 := by rw [hF, frames0]
  obtain ⟨S1, hS1⟩ : ∃ S1, S1 = sealB 1 [97] := ⟨_, rfl⟩
  have hS1l : S1.length = 10 := by rw [hS1, sealB_length]; rfl
  obtain ⟨S2, hS2⟩ : ∃ S2, S2 = sealB 1 [98] := ⟨_, rfl⟩
  have hS2l : S2.length = 10 := by rw [hS2, sealB_length]; rfl
  have hrd : readB (F ++ S1) = some ([], [[97]], (F ++ S1).length) := by
    have h := readB_frames [] [] [[97]] (by simp) (fun x hx => (by cases hx)) (fun x hx => (by simp at hx; subst hx; decide))
    have e : recsB [[97]] = S1 := by rw [hS1]; simp [recsB]
    rw [e, ← hF] at h
    exact h
  have htk : (F ++ S1 ++ S2).take (min (F ++ S1).length (F ++ S1 ++ S2).length) = F ++ S1 := by
    rw [show min (F ++ S1).length (F ++ S1 ++ S2).length = (F ++ S1).length by simp only [List.length_append]; omega, List.take_left]
  have hmn : min (F ++ S1).length (F ++ S1 ++ S2).length = (F ++ S1).length := by simp only [List.length_append]; omega
  have HF := Lib.hid hF
  have HS1 := Lib.hid hS1
  have HS2 := Lib.hid hS2
  have HFl := Lib.hid hFl
  have HS1l := Lib.hid hS1l
  have HS2l := Lib.hid hS2l
  have HRD := Lib.hid hrd
  have HTK := Lib.hid htk
  have HMN := Lib.hid hmn
  clear hF hFl hS1 hS1l hS2 hS2l hrd htk hmn
  go_enter Try.func4, Try.ntmps4
  go_wp2_with fail
  refine (new_DD 1000 (by decide) (by decide) w).mono ?_
  rintro e w1 ⟨rfl, ⟨B1, D1, hB1⟩, b1⟩
  generalize w1.heap.size + 1 = d0 at *
  generalize hd : w.heap.size + 1 = d at *
  go_wp2_with fail
  refine (open_new D1 hB1 b1 (by decide)).mono ?_
  rintro e w2 ⟨p, A1, c1, A2, c2, rfl, W2⟩
  rw [← HF.out] at W2
  have z2 := W2.lt
  have HW2 := Lib.hid W2
  clear W2 D1 hB1 b1
  go_wp2_with fail
  refine ((HW2.out.below ((Below.refl _ _).alloc (Nat.le_refl _) _)).app (K := w2.heap.size + 1) (m := [97]) (lit_bsF w2 _ _ _ rfl #[.int .u8 97] 1 [97] rfl rfl (by decide)) (by simp) (by decide) (by have := HFl.out; simp; omega)).mono ?_
  rintro e w3 ⟨rfl, W3⟩
  rw [← HS1.out] at W3
  have z3 := W3.lt
  have HW3 := Lib.hid W3
  clear W3 HW2 z2
  go_wp2_with fail
  refine HW3.out.sync.mono ?_
  rintro e w4 ⟨rfl, W4⟩
  have z4 := W4.lt
  have HW4 := Lib.hid W4
  clear W4 HW3 z3
  go_wp2_with fail
  refine ((HW4.out.below ((Below.refl _ _).alloc (Nat.le_refl _) _)).app (K := w4.heap.size + 1) (m := [98]) (lit_bsF w4 _ _ _ rfl #[.int .u8 98] 1 [98] rfl rfl (by decide)) (by simp) (by decide) (by have := HFl.out; have := HS1l.out; simp; omega)).mono ?_
  rintro e w5 ⟨rfl, W5⟩
  rw [← HS2.out] at W5
  have z5 := W5.lt
  have HW5 := Lib.hid W5
  clear W5 HW4 z4
  go_wp2_with fail
  refine HW5.out.crash0.mono ?_
  rintro e w6 ⟨rfl, W6⟩
  rw [HTK.out, HMN.out] at W6
  have z6 := W6.lt
  have HW6 := Lib.hid W6
  clear W6 HW5 z5
  go_wp2_with fail
  refine (HW6.out.open_ HRD.out).mono ?_
  rintro e w7 ⟨b7, p7, A5, c5, A6, c6, rfl, W7, ob7, rw7⟩
  obtain ⟨g, rfl⟩ := rw7.addr (by simp)
  obtain ⟨A8, c8, x8, bs8⟩ := rw7.slot (i := 0) (q := [97]) rfl
  have hc6 := rw7.pr.1.le
  have hs : (convert 32 9 (.slice A8 1 c8)).run Try.prog w7 = .ok (.string (strB [97])) w7 := bs_str bs8 rfl
  have hq : ((strB [97]).toList == [97]) = true := by decide +kernel
  have HB := Lib.hid W7.bel
  simp only [List.length_cons, List.length_nil, Nat.zero_add] at hc6 x8 ⊢
  clear W7 ob7 rw7 bs8 b7 HW6 z6
  go_wp2_with fail
  go_ret
  exact ⟨rfl, HB.out⟩
end Go.Proofs.Ytkkaehaoahpibaa
namespace Go.Proofs.Ytkkaehaoahpibaa
open Go.ChangeShapes Go.WideShapes Go.ChangeAt Go.RowKit Go.Deep Go.Joins

/-- Each slice of a datum takes at most what memory holds. -/
def Sz {H : Type} (t : TypeId) (d : DataW H) : Prop := (DataW.weights Try.prog t d).all (· ≤ reachBytes) = true
theorem bytes_int : Try.prog.bytesOf 3 = 8 := by kernel_rfl
theorem sz_all {H : Type} {P : Program} {e : TypeId} {p : Nat → Bool} : ∀ {l : List (DataW H)}, (DataW.weightsAll P e l).all p = true → ∀ x ∈ l, (DataW.weights P e x).all p = true
  | [], _, _, hx => by cases hx
  | y :: r, h, x, hx => by
    rw [DataW.weightsAll, List.all_append, Bool.and_eq_true] at h
    rcases List.mem_cons.1 hx with rfl | hx
    · exact h.1
    · exact sz_all h.2 x hx
theorem sz_ints {H : Type} {zs : List Int} {n : Nat} (h : Sz (H := H) 33 (.slice (lits .i64 (zs.take n)) (lits .i64 (zs.drop n)))) : zs.length * 8 ≤ 140737488351232 := by
  unfold Sz at h
  simp only [DataW.weights, Try.underlying33, bytes_int, List.all_cons, Bool.and_eq_true, decide_eq_true_eq] at h
  have h1 := h.1
  unfold reachBytes at h1
  simp only [lits, List.length_map, List.length_take, List.length_drop] at h1
  omega
theorem sz_op {H : Type} {d0 d1 d2 d3 : DataW H} (h : Sz 35 (.agg [d0, d1, d2, d3])) : Sz 33 d3 := by
  unfold Sz at h ⊢
  simp only [DataW.weights, Try.underlying35, List.map_cons, List.map_nil, DataW.weightsEach, List.all_append, Bool.and_eq_true] at h
  exact h.2.2.2.1
theorem sz_mem {H : Type} {es sp : List (DataW H)} (h : Sz 22 (.slice es sp)) : ∀ x ∈ es, Sz 35 x := by
  unfold Sz at h
  simp only [DataW.weights, Try.underlying22, List.all_cons, List.all_append, Bool.and_eq_true] at h
  exact sz_all h.2.1
theorem open_isr0z {H : Type} {enc : TypeId × Value → H} {W : World} {base fuel : Nat} {sp : Nat → Bool} {held : Bool} {cs : List Value} {x : DataW H × List MemPlace} (hf : DataW.trod enc Try.prog W base sp held fuel 33 cs = some x) :
    ∃ A cap l, cs = [.slice A l.length cap] ∧ Sr encI 1 W W.heap.size A cap l ∧ (Sz 33 x.1 → l.length * 8 ≤ 140737488351232) := by
  rcases open_ints Try.underlying33 Try.underlying3 cells_int hf with ⟨hcs, hx⟩ | ⟨a, len, cap, zs, hcs, _, hl, hm, hz, hx, hcell, hwz⟩
  · subst hcs
    exact ⟨none, 0, [], rfl, Sr.none_ _ _, fun _ => by simp⟩
  · subst hcs
    have hzl : len ≤ zs.length := by rw [hz]; split <;> omega
    have hll : (zs.take len).length = len := by simp; omega
    refine ⟨some a, cap, zs.take len, by rw [hll], ⟨by rw [hll]; exact hl, hm, (fun h => by cases h), fun hn => ⟨a, rfl, ?_, fun i x hk j u hu => ?_⟩⟩, fun hs => ?_⟩
    · rw [hll] at hn
      have := World.block_lt_of_cell? W _ (hcell 0 (by omega))
      rwa [el_block_of_add] at this
    · rw [List.getElem?_take] at hk
      split at hk
      · have hkz := (List.getElem?_eq_some_iff.1 hk).1
        obtain rfl : j = 0 := by
          have := (List.getElem?_eq_some_iff.1 hu).1
          rw [encI_len] at this; omega
        have : zs.getD i 0 = x := by simp [List.getD, hk]
        rw [Nat.mul_one, Nat.add_zero, hcell i hkz, this]
        exact hu
      · cases hk
    · rw [hx] at hs
      have h1 := sz_ints hs
      omega
/-- One step's cells, opened. -/
theorem open_op7z {H : Type} {enc : TypeId × Value → H} {W : World} {base fuel : Nat} {sp : Nat → Bool} {held : Bool} {u0 u1 u2 u3 : Value} {x : DataW H × List MemPlace} (ht : DataW.trod enc Try.prog W base sp held fuel 35 [u0, u1, u2, u3] = some x) :
    ∃ (o : Op7) (A1 : Option Addr) (c1 : Nat) (A2 : Option Addr) (c2 : Nat), u0 = .int .i64 o.k ∧ u1 = .int .i64 o.n ∧ (-9223372036854775808 ≤ o.n ∧ o.n ≤ 9223372036854775807) ∧ u2 = .slice A1 o.p.length c1 ∧ Bs W W.heap.size A1 c1 o.p ∧ u3 = .slice A2 o.ks.length c2 ∧ Sr encI 1 W W.heap.size A2 c2 o.ks ∧ (Sz 35 x.1 → o.ks.length * 8 ≤ 140737488351232) := by
  obtain ⟨y0, y1, y2, y3, n, hx, _, g0, g1, g2, g3⟩ := trod_struct4 Try.underlying35 ht
  simp only [cells_int, cells_isl, cells_bsl, List.drop_zero, List.take_succ_cons, List.take_zero, List.drop_succ_cons] at g0 g1 g2 g3
  obtain ⟨a, e0, _, _⟩ := DataW.trod_int Try.underlying3 g0
  obtain ⟨c, e1, _, iw⟩ := DataW.trod_int Try.underlying3 g1
  obtain ⟨A1, c1, l1, e2, hb, _⟩ := open_bs0 g2
  obtain ⟨A2, c2, l2, e3, hs, hz⟩ := open_isr0z g3
  simp at e0 e1 e2 e3
  subst e0 e1 e2 e3
  have ir : -9223372036854775808 ≤ c ∧ c ≤ 9223372036854775807 := by simpa [Lit.wf, IntKind.min, IntKind.max, IntKind.signed, IntKind.bits] using iw
  exact ⟨⟨a, c, l1, l2⟩, A1, c1, A2, c2, rfl, rfl, ir, rfl, hb, rfl, hs, fun h => hz (sz_op (by rw [hx] at h; exact h))⟩
set_option maxRecDepth 100000 in
theorem open_ops7z {H : Type} {enc : TypeId × Value → H} {W : World} {base : Nat} {v : Value} {d : DataW H} {p : List MemPlace}
    (hv : Value.okWide Try.prog W .any base 22 v) (h : DataW.Trod enc Try.prog W 0 (fun _ => true) true 22 v d p) :
    ∃ A cap os, v = .slice A os.length cap ∧ Os7 W W.heap.size A cap os ∧ (Sz 22 d → ∀ o ∈ os, o.ks.length * 8 ≤ 140737488351232) := by
  obtain ⟨a1, len, cap, rfl⟩ := okWide_slice Try.underlying22 hv
  obtain ⟨fuel, hf⟩ := h
  rcases open_slice Try.underlying22 hf with ⟨hcs, hx⟩ | ⟨a, len', cap', m, n, D, Pl, hcs, _, hl, hmx, hmm, hx, hi⟩
  · simp [Value.cells] at hcs
    obtain ⟨rfl, rfl, rfl⟩ := hcs
    exact ⟨none, 0, [], rfl, ⟨Nat.le_refl _, Nat.zero_le _, fun _ => rfl, fun h => absurd h (by simp)⟩, fun _ o ho => by cases ho⟩
  · simp [Value.cells] at hcs
    obtain ⟨rfl, rfl, rfl⟩ := hcs
    have hlm : len ≤ m := by rw [hmm]; split <;> omega
    have each : ∀ i, i < len → ∃ x : Op7, (W.cell? (a.add (i * 4)) = some (.int .i64 x.k) ∧ W.cell? (a.add (i * 4 + 1)) = some (.int .i64 x.n) ∧ (-9223372036854775808 ≤ x.n ∧ x.n ≤ 9223372036854775807) ∧
        (∃ A' c', W.cell? (a.add (i * 4 + 2)) = some (.slice A' x.p.length c') ∧ Bs W W.heap.size A' c' x.p) ∧ ∃ A' c', W.cell? (a.add (i * 4 + 3)) = some (.slice A' x.ks.length c') ∧ Sr encI 1 W W.heap.size A' c' x.ks) ∧ (Sz 35 (D i) → x.ks.length * 8 ≤ 140737488351232) := fun i hil => by
      obtain ⟨cs', hc, ht⟩ := hi i (by omega)
      rw [cells_op7] at hc
      obtain ⟨_, hcl, hat⟩ := World.cells?_some hc
      match cs', hcl with
      | [u0, u1, u2, u3], _ =>
        obtain ⟨x, A1, c1, A2, c2, rfl, rfl, hn, rfl, hb, rfl, hs, hz⟩ := open_op7z ht
        have h0 := hat 0 (by omega)
        have h1 := hat 1 (by omega)
        have h2 := hat 2 (by omega)
        have h3 := hat 3 (by omega)
        rw [Go.Deep.add_add] at h0 h1 h2 h3
        rw [Nat.add_zero] at h0
        exact ⟨x, ⟨h0, h1, hn, ⟨A1, c1, h2, hb⟩, A2, c2, h3, hs⟩, hz⟩
    obtain ⟨f, hf'⟩ := choose_lt each
    have hll : ((List.range len).map f).length = len := by simp
    refine ⟨some a, cap, (List.range len).map f, by rw [hll], ⟨by rw [hll]; exact hl, hmx, (fun h => by cases h), fun hn => ⟨a, rfl, ?_, fun i m hk => ?_⟩⟩, fun hs o ho => ?_⟩
    · rw [hll] at hn
      have := World.block_lt_of_cell? W _ (hf' 0 hn).1.1
      rwa [block_of_add] at this
    · simp only [List.getElem?_map, Option.map_eq_some_iff] at hk
      obtain ⟨j, hj, he⟩ := hk
      obtain ⟨hj1, hj2⟩ := List.getElem?_eq_some_iff.1 hj
      simp at hj1 hj2
      subst hj2
      have := (hf' i hj1).1
      rw [he] at this
      exact this
    · obtain ⟨i, hi1, rfl⟩ := List.mem_map.1 ho
      rw [List.mem_range] at hi1
      refine (hf' i hi1).2 (sz_mem (by have hd := congrArg Prod.fst hx; simp only at hd; rw [hd] at hs; exact hs) (D i) (List.mem_map.2 ⟨i, List.mem_range.2 hi1, rfl⟩))
end Go.Proofs.Ytkkaehaoahpibaa
namespace Go.Proofs.Ytkkaehaoahpibaa
open Go.ChangeShapes Go.WideShapes Go.ChangeAt Go.RowKit Go.Deep Go.Joins

structure Op9 where
  k : Int
  n : Int
  p : List UInt8
  ks : List Int
instance : Inhabited Op9 := ⟨⟨0, 0, [], []⟩⟩
/-- The slice at A with capacity cap reads as the steps os, in memory below block K. -/
structure Os9 (w : World) (K : Nat) (A : Option Addr) (cap : Nat) (os : List Op9) : Prop where
  le : os.length ≤ cap
  max : cap ≤ maxLen
  nil : A = none → cap = 0
  at_ : 0 < os.length → ∃ ad : Addr, A = some ad ∧ ad.block < K ∧ ∀ (i : Nat) (o : Op9), os[i]? = some o → w.cell? (ad.add (i * 4)) = some (.int .i64 o.k) ∧ w.cell? (ad.add (i * 4 + 2)) = some (.int .i64 o.n) ∧ (-9223372036854775808 ≤ o.n ∧ o.n ≤ 9223372036854775807) ∧
    (∃ A' c', w.cell? (ad.add (i * 4 + 1)) = some (.slice A' o.p.length c') ∧ Bs w K A' c' o.p) ∧ ∃ A' c', w.cell? (ad.add (i * 4 + 3)) = some (.slice A' o.ks.length c') ∧ Sr encI 1 w K A' c' o.ks

section
variable {w w' : World} {K K' cap : Nat} {A : Option Addr} {os : List Op9}
theorem Os9.keep (h : Os9 w K A cap os) (hk : ∀ p : Addr, p.block < K → w'.cell? p = w.cell? p) : Os9 w' K A cap os :=
  ⟨h.le, h.max, h.nil, fun hn => by
    obtain ⟨ad, e, hb, hc⟩ := h.at_ hn
    refine ⟨ad, e, hb, fun i o hi => ?_⟩
    obtain ⟨h1, h2, h3, ⟨A', c', h4, h5⟩, A2, c2, h6, h7⟩ := hc i o hi
    have hk' := fun j => hk (ad.add j) (by rw [block_of_add]; exact hb)
    exact ⟨(hk' _).trans h1, (hk' _).trans h2, h3, ⟨A', c', (hk' _).trans h4, h5.keep hk⟩, A2, c2, (hk' _).trans h6, h7.keep hk⟩⟩
theorem Os9.below (h : Os9 w K A cap os) (hb : Below K w w') : Os9 w' K A cap os := h.keep fun _ hp => hb.cell hp
/-- The step's cells as the walk spells them. -/
structure At9 (w : World) (K : Nat) (ad : Addr) (o : Op9) (A1 : Option Addr) (c1 : Nat) (A2 : Option Addr) (c2 : Nat) : Prop where
  lt : ad.block < K
  x0 : w.cell? ad = some (.int .i64 o.k)
  x1 : w.cell? ⟨ad.block, ad.off + 2, none⟩ = some (.int .i64 o.n)
  x2 : w.cell? ⟨ad.block, ad.off + 1, none⟩ = some (.slice A1 o.p.length c1)
  x3 : w.cell? ⟨ad.block, ad.off + 3, none⟩ = some (.slice A2 o.ks.length c2)
  n1 : -9223372036854775808 ≤ o.n
  n2 : o.n ≤ 9223372036854775807
  bs : Bs w K A1 c1 o.p
  sr : Sr encI 1 w K A2 c2 o.ks
theorem Os9.get (h : Os9 w K A cap os) {i : Nat} {o : Op9} (hi : os[i]? = some o) : ∃ ad A1 c1 A2 c2, A = some ad ∧ At9 w K (ad.add (i * 4)) o A1 c1 A2 c2 := by
  have hil := (List.getElem?_eq_some_iff.1 hi).1
  obtain ⟨ad, e, hb, hc⟩ := h.at_ (by omega)
  obtain ⟨h1, h2, h3, ⟨A1, c1, h4, h5⟩, A2, c2, h6, h7⟩ := hc i o hi
  refine ⟨ad, A1, c1, A2, c2, e, ⟨by rw [block_of_add]; exact hb, h1, ?_, ?_, ?_, h3.1, h3.2, h5, h7⟩⟩
  · rw [← el_add_pos _ _ (by decide), el_add_of_add]; exact h2
  · rw [← el_add_pos _ _ (by decide), el_add_of_add]; exact h4
  · rw [← el_add_pos _ _ (by decide), el_add_of_add]; exact h6
end

theorem cells_op9 : Try.prog.cellsOf 49 = 4 := by kernel_rfl
theorem sz_op9 {H : Type} {d0 d1 d2 d3 : DataW H} (h : Sz 49 (.agg [d0, d1, d2, d3])) : Sz 33 d3 := by
  unfold Sz at h ⊢
  simp only [DataW.weights, Try.underlying49, List.map_cons, List.map_nil, DataW.weightsEach, List.all_append, Bool.and_eq_true] at h
  exact h.2.2.2.1
theorem sz_mem9 {H : Type} {es sp : List (DataW H)} (h : Sz 23 (.slice es sp)) : ∀ x ∈ es, Sz 49 x := by
  unfold Sz at h
  simp only [DataW.weights, Try.underlying23, List.all_cons, List.all_append, Bool.and_eq_true] at h
  exact sz_all h.2.1
/-- One step's cells, opened. -/
theorem open_op9z {H : Type} {enc : TypeId × Value → H} {W : World} {base fuel : Nat} {sp : Nat → Bool} {held : Bool} {u0 u1 u2 u3 : Value} {x : DataW H × List MemPlace} (ht : DataW.trod enc Try.prog W base sp held fuel 49 [u0, u1, u2, u3] = some x) :
    ∃ (o : Op9) (A1 : Option Addr) (c1 : Nat) (A2 : Option Addr) (c2 : Nat), u0 = .int .i64 o.k ∧ u2 = .int .i64 o.n ∧ (-9223372036854775808 ≤ o.n ∧ o.n ≤ 9223372036854775807) ∧ u1 = .slice A1 o.p.length c1 ∧ Bs W W.heap.size A1 c1 o.p ∧ u3 = .slice A2 o.ks.length c2 ∧ Sr encI 1 W W.heap.size A2 c2 o.ks ∧ (Sz 49 x.1 → o.ks.length * 8 ≤ 140737488351232) := by
  obtain ⟨y0, y1, y2, y3, n, hx, _, g0, g1, g2, g3⟩ := trod_struct4 Try.underlying49 ht
  simp only [cells_int, cells_isl, cells_bsl, List.drop_zero, List.take_succ_cons, List.take_zero, List.drop_succ_cons] at g0 g1 g2 g3
  obtain ⟨a, e0, _, _⟩ := DataW.trod_int Try.underlying3 g0
  obtain ⟨c, e1, _, iw⟩ := DataW.trod_int Try.underlying3 g2
  obtain ⟨A1, c1, l1, e2, hb, _⟩ := open_bs0 g1
  obtain ⟨A2, c2, l2, e3, hs, hz⟩ := open_isr0z g3
  simp at e0 e1 e2 e3
  subst e0 e1 e2 e3
  have ir : -9223372036854775808 ≤ c ∧ c ≤ 9223372036854775807 := by simpa [Lit.wf, IntKind.min, IntKind.max, IntKind.signed, IntKind.bits] using iw
  exact ⟨⟨a, c, l1, l2⟩, A1, c1, A2, c2, rfl, rfl, ir, rfl, hb, rfl, hs, fun h => hz (sz_op9 (by rw [hx] at h; exact h))⟩
set_option maxRecDepth 100000 in
theorem open_ops9z {H : Type} {enc : TypeId × Value → H} {W : World} {base : Nat} {v : Value} {d : DataW H} {p : List MemPlace}
    (hv : Value.okWide Try.prog W .any base 23 v) (h : DataW.Trod enc Try.prog W 0 (fun _ => true) true 23 v d p) :
    ∃ A cap os, v = .slice A os.length cap ∧ Os9 W W.heap.size A cap os ∧ (Sz 23 d → ∀ o ∈ os, o.ks.length * 8 ≤ 140737488351232) := by
  obtain ⟨a1, len, cap, rfl⟩ := okWide_slice Try.underlying23 hv
  obtain ⟨fuel, hf⟩ := h
  rcases open_slice Try.underlying23 hf with ⟨hcs, hx⟩ | ⟨a, len', cap', m, n, D, Pl, hcs, _, hl, hmx, hmm, hx, hi⟩
  · simp [Value.cells] at hcs
    obtain ⟨rfl, rfl, rfl⟩ := hcs
    exact ⟨none, 0, [], rfl, ⟨Nat.le_refl _, Nat.zero_le _, fun _ => rfl, fun h => absurd h (by simp)⟩, fun _ o ho => by cases ho⟩
  · simp [Value.cells] at hcs
    obtain ⟨rfl, rfl, rfl⟩ := hcs
    have hlm : len ≤ m := by rw [hmm]; split <;> omega
    have each : ∀ i, i < len → ∃ x : Op9, (W.cell? (a.add (i * 4)) = some (.int .i64 x.k) ∧ W.cell? (a.add (i * 4 + 2)) = some (.int .i64 x.n) ∧ (-9223372036854775808 ≤ x.n ∧ x.n ≤ 9223372036854775807) ∧
        (∃ A' c', W.cell? (a.add (i * 4 + 1)) = some (.slice A' x.p.length c') ∧ Bs W W.heap.size A' c' x.p) ∧ ∃ A' c', W.cell? (a.add (i * 4 + 3)) = some (.slice A' x.ks.length c') ∧ Sr encI 1 W W.heap.size A' c' x.ks) ∧ (Sz 49 (D i) → x.ks.length * 8 ≤ 140737488351232) := fun i hil => by
      obtain ⟨cs', hc, ht⟩ := hi i (by omega)
      rw [cells_op9] at hc
      obtain ⟨_, hcl, hat⟩ := World.cells?_some hc
      match cs', hcl with
      | [u0, u1, u2, u3], _ =>
        obtain ⟨x, A1, c1, A2, c2, rfl, rfl, hn, rfl, hb, rfl, hs, hz⟩ := open_op9z ht
        have h0 := hat 0 (by omega)
        have h1 := hat 1 (by omega)
        have h2 := hat 2 (by omega)
        have h3 := hat 3 (by omega)
        rw [Go.Deep.add_add] at h0 h1 h2 h3
        rw [Nat.add_zero] at h0
        exact ⟨x, ⟨h0, h2, hn, ⟨A1, c1, h1, hb⟩, A2, c2, h3, hs⟩, hz⟩
    obtain ⟨f, hf'⟩ := choose_lt each
    have hll : ((List.range len).map f).length = len := by simp
    refine ⟨some a, cap, (List.range len).map f, by rw [hll], ⟨by rw [hll]; exact hl, hmx, (fun h => by cases h), fun hn => ⟨a, rfl, ?_, fun i m hk => ?_⟩⟩, fun hs o ho => ?_⟩
    · rw [hll] at hn
      have := World.block_lt_of_cell? W _ (hf' 0 hn).1.1
      rwa [block_of_add] at this
    · simp only [List.getElem?_map, Option.map_eq_some_iff] at hk
      obtain ⟨j, hj, he⟩ := hk
      obtain ⟨hj1, hj2⟩ := List.getElem?_eq_some_iff.1 hj
      simp at hj1 hj2
      subst hj2
      have := (hf' i hj1).1
      rw [he] at this
      exact this
    · obtain ⟨i, hi1, rfl⟩ := List.mem_map.1 ho
      rw [List.mem_range] at hi1
      refine (hf' i hi1).2 (sz_mem9 (by have hd := congrArg Prod.fst hx; simp only at hd; rw [hd] at hs; exact hs) (D i) (List.mem_map.2 ⟨i, List.mem_range.2 hi1, rfl⟩))
end Go.Proofs.Ytkkaehaoahpibaa
