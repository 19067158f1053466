/- The law PostNil: its walk. -/
import Derived.Test.YtaenkifoemkdpaaPAwk
namespace Go.Proofs.Ytaenkifoemkdpaa
open Go.RowKit Go.Conc

def zeros (n : Nat) : List UInt8 := List.replicate n 0
theorem zeros_length (n : Nat) : (zeros n).length = n := List.length_replicate
theorem made_zeros (n : Nat) : (madeCells (Value.int .u8 0).cells (n * 1)).toList = (zeros n).map bv := by
  rw [Nat.mul_one]
  show (madeCells #[Value.int .u8 0] n).toList = _
  rw [toList_madeCells_one]
  simp [zeros, bv]
theorem made_ob {w1 : World} {K n : Nat} {v : Value} (h : w1.ownsRow K 5 1 v n (madeCells (Value.int .u8 0).cells (n * 1)).toList) : Ob w1 K v (zeros n) := by
  unfold Ob
  rw [zeros_length, ← made_zeros]
  exact h
theorem cut_zeros {w : World} {K n : Nat} {ad : Addr} (h : Bs w K (some ad) (n + 1) (zeros (n + 1))) (hn : 0 < n) : Bs w K (some ⟨ad.block, ad.off + 1, none⟩) n (zeros n) := by
  have := h.cutS (i := 1) (j := n + 1) (by omega) (by omega) (by rw [zeros_length]; omega) (by omega)
  have e : ((zeros (n + 1)).drop 1).take (n + 1 - 1) = zeros n := by simp [zeros]
  rw [e] at this
  exact this
theorem long_facts {w1 : World} {K g : Nat} (h : w1.ownsRow K 5 1 (.slice (some ⟨g, 0, none⟩) 1048577 1048577) 1048577 (madeCells (Value.int .u8 0).cells (1048577 * 1)).toList) :
    ∃ p : List UInt8, p.length = 1048576 ∧ Bs w1 w1.heap.size (some ⟨g, 1, none⟩) 1048576 p :=
  ⟨zeros 1048576, zeros_length _, cut_zeros (n := 1048576) (made_ob h).bs.1 (by omega)⟩
theorem send_okN (K p ch room : Nat) (v : Value) (l : List Mg) (B : List (List UInt8)) (f t : Int) (A : Option Addr) (n c : Nat) (b : List UInt8) (w : World) (h : Po w K p ch room v l B) (hn : b.length = n) (hb : Bdy w (TP p ch v) ⟨f, t, A, n, c⟩ b) (hsz : n ≤ 1048576) (hroom : l.length < room) (hmax : room ≤ 4096) :
    Calls Try.prog 29 #[.pointer (some ⟨p, 0, none⟩), .agg #[.int .i64 f, .int .i64 t, .slice A n c]] w (Sent w K p ch room v l B f t b) := by
  subst hn
  exact send_ok K p ch room v l B f t A c b w h hb hsz hroom hmax

set_option maxRecDepth 100000 in
set_option maxHeartbeats 3200000 in
theorem pnil_any (i : Int) (w : World) : Calls Try.prog 10 #[.int .i64 i] w fun e w' => e = .returned (.bool true) ∧ Below w.heap.size w w' := by
  obtain ⟨i0, hi, hz0, hz1, hz2⟩ := info_parts info_u8
  have HI := Lib.hid hi
  have HZ0 := Lib.hid hz0
  have HZ1 := Lib.hid hz1
  have HZ2 := Lib.hid hz2
  clear hi hz0 hz1 hz2
  go_enter Try.func10, Try.ntmps10
  go_wp2_with (first
    | (go_at_call 30; refine (lookm_nil i w).mono ?_; rintro e w1 ⟨rfl, b1⟩)
    | (go_at_call 31; refine (take_nil i _).mono ?_; rintro e w2 ⟨rfl, b2⟩)
    | (go_at_call 26; refine (new_ok 2 (by decide) _).mono ?_; rintro e w3 ⟨rfl, P3, b3⟩)
    | (at_make; go_loud (refine wpList_make_full _ rfl _ _ 30 rfl w3.heap.size 5 i0 (.int .u8 0) 1 Try.underlying30 HI.out HZ0.out HZ1.out _ _ _ _ 1048577 rfl rfl rfl rfl (by rw [HZ2.out]; omega) (by unfold maxLen; omega) (Nat.le_refl _) ?_; intro w4 hown4 hgrow4))
    | fail)
  obtain ⟨q, hq, hbs⟩ := long_facts hown4
  have B4 : Below w3.heap.size w3 w4 := (Below.refl _ _).grown hgrow4 (Nat.le_refl _) (by simp)
  have B01 : Below w.heap.size w w2 := b1.trans (((Below.refl _ _).alloc (Nat.le_refl _) _).trans (b2.mono (by simp)) |>.mono b1.size)
  have B03 : Below w.heap.size w w3 := B01.trans (((Below.refl _ _).alloc (Nat.le_refl _) _).trans (b3.mono (by simp)) |>.mono B01.size)
  have P4 := P3.below B4
  simp only [World.size_alloc] at P4
  have hlt := P3.lt
  have hltc := P3.ltc
  simp only [World.size_alloc] at hlt hltc
  have z4 := B4.size
  have HQ := Lib.hid hq
  have HBS := Lib.hid hbs
  have zw := B03.size
  have zw2 := B01.size
  clear hown4 hgrow4 hq hbs b1 b2 b3 P3
  go_wp2_with fail
  refine (pawake_any _).mono ?_
  rintro e w5 ⟨rfl, b5⟩
  have P5 := P4.below b5
  have hb5 := HBS.out.below b5
  have z5 := b5.size
  go_wp2_with fail
  refine (send_nil 0 0 none 0 0 _).mono ?_
  rintro e w6 ⟨rfl, b6⟩
  have P6 := P5.below b6
  have hb6 := (hb5.more z5).below b6
  have z6 := b6.size
  go_wp2_with fail
  refine (copy_nil i _).mono ?_
  rintro e w' ⟨rfl, rfl⟩
  go_wp2_with fail
  refine (len_nil _).mono ?_
  rintro e w' ⟨rfl, rfl⟩
  go_wp2_with fail
  refine (all_nil _).mono ?_
  rintro e w' ⟨rfl, rfl⟩
  go_wp2_with fail
  refine (send_limit _ 0 0 _ 1048577 1048577 (by omega) _).mono ?_
  rintro e w7 ⟨rfl, b7⟩
  have P7 := P6.below b7
  have hb7 := (hb6.more z6).below b7
  have z7 := b7.size
  go_wp2_with fail
  refine (send_okN (w2.heap.size + 1) (w2.heap.size + 1 + 1) (w2.heap.size + 1) 2 (.slice none 0 0) [] [] 0 0 (some ⟨w3.heap.size, 1, none⟩) 1048576 1048576 q w7 P7 HQ.out ⟨HQ.out.symm, hb7.more z7, fun _ ad e hbad => ?_⟩ (by omega) (by simp) (by decide)).mono ?_
  · cases e
    rcases hbad with h | h | h
    · simp at h; omega
    · simp at h; omega
    · simp [Value.ownBlock] at h
  rintro e w8 ⟨rfl, v8, A8, c8, P8, T8, -, -⟩
  have B8 := P7.bel T8
  go_wp2_with fail
  refine (len_any _ _ _ _ _ _ _ _ P8).mono ?_
  rintro e w' ⟨rfl, rfl⟩
  go_wp2_with fail
  go_ret
  have B07 : Below w.heap.size w w7 := (((B03.trans (B4.mono zw)).trans (b5.mono (by omega))).trans (b6.mono (by omega))).trans (b7.mono (by omega))
  exact ⟨rfl, B07.trans (B8.mono (by omega))⟩
end Go.Proofs.Ytaenkifoemkdpaa
