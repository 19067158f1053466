/- The law DiskFuses: its walk. -/
import Derived.Test.YtclejjofoagmfaaDkW
import Derived.Test.YtclejjofoagmfaaDkOp
namespace Go.Proofs.Ytclejjofoagmfaa
open Go.RowKit Go.Maps Go.BigFrame

theorem not_in {w : World} {K c : Nat} {A : Option Addr} {p : List UInt8} {B : Nat → Prop} (h : Bs w K A c p) (hB : ∀ k, B k → K ≤ k) : 0 < p.length → ∀ ad : Addr, A = some ad → ¬ B ad.block := fun hl ad e hb => by
  obtain ⟨ad', e', hk, _⟩ := h.at_ hl
  rw [e] at e'
  cases e'
  have := hB _ hb
  omega
/-- A fuse with so many steps left. -/
structure Fz (a : Ad) (left : Int) : Prop where
  h0 : 0 ≤ left
  h1 : left ≤ 20
  fu : a.fuse = left
  dn : a.down = true → left = 0
def Stp (a : Ad) (left : Int) (r : Int) (a' : Ad) : Prop :=
  a'.room = a.room ∧ a'.L.length ≤ a.L.length + 1 ∧ ((r = 0 ∧ Fz a' (left - 1) ∧ a'.down = false) ∨ (r = 5 ∧ left = 0 ∧ a'.down = true ∧ Fz a' left) ∨ (r ≠ 0 ∧ r ≠ 5 ∧ Fz a' left))
theorem fz_step {a : Ad} {left : Int} (h : Fz a left) (L : List As) (h0 : ¬ a.fuse = 0) : Fz ⟨a.room, fz a.fuse, false, L⟩ (left - 1) := by
  have h1 := h.h0
  have h2 := h.h1
  have h3 := h.fu
  have hp : 0 < a.fuse := by omega
  have e : fz a.fuse = a.fuse - 1 := if_pos hp
  exact ⟨by omega, by omega, by simp only; rw [e, h3], fun h => by cases h⟩
theorem app_stp {a : Ad} {left : Int} (h : Fz a left) (n : Int) (p : List UInt8) : ∃ r a', appD a n p = (r, a') ∧ Stp a left r a' := by
  unfold appD
  by_cases hd : a.down = true
  · exact ⟨5, a, by rw [if_pos hd], rfl, by omega, .inr (.inl ⟨rfl, h.dn hd, hd, h⟩)⟩
  rw [if_neg hd]
  by_cases c1 : n < 1
  · exact ⟨1, a, by rw [if_pos c1], rfl, by omega, .inr (.inr ⟨by decide, by decide, h⟩)⟩
  rw [if_neg c1]
  by_cases c2 : a.room - (sumA a.L : Nat) < (p.length : Nat)
  · exact ⟨4, a, by rw [if_pos c2], rfl, by omega, .inr (.inr ⟨by decide, by decide, h⟩)⟩
  rw [if_neg c2]
  by_cases c3 : hasA a.L n = false ∧ 1024 ≤ a.L.length
  · exact ⟨4, a, by rw [if_pos c3], rfl, by omega, .inr (.inr ⟨by decide, by decide, h⟩)⟩
  rw [if_neg c3]
  by_cases c4 : a.fuse = 0
  · exact ⟨5, ⟨a.room, 0, true, a.L⟩, by rw [if_pos c4], rfl, by simp only; omega, .inr (.inl ⟨rfl, by rw [← h.fu, c4], rfl, ⟨h.h0, h.h1, by simp only; rw [← h.fu, c4], fun _ => by rw [← h.fu, c4]⟩⟩)⟩
  · exact ⟨0, ⟨a.room, fz a.fuse, false, putA n p a.L⟩, by rw [if_neg c4], rfl, len_put n p a.L, .inl ⟨rfl, fz_step h _ c4, rfl⟩⟩
theorem op_stp {a : Ad} {left : Int} (h : Fz a left) (f : Int → List As → List As) (n : Int) (hf : (f n a.L).length ≤ a.L.length) : ∃ r a', opD f a n = (r, a') ∧ Stp a left r a' := by
  unfold opD
  by_cases hd : a.down = true
  · exact ⟨5, a, by rw [if_pos hd], rfl, by omega, .inr (.inl ⟨rfl, h.dn hd, hd, h⟩)⟩
  rw [if_neg hd]
  by_cases c3 : hasA a.L n = false
  · exact ⟨6, a, by rw [if_pos c3], rfl, by omega, .inr (.inr ⟨by decide, by decide, h⟩)⟩
  rw [if_neg c3]
  by_cases c4 : a.fuse = 0
  · exact ⟨5, ⟨a.room, 0, true, a.L⟩, by rw [if_pos c4], rfl, by simp only; omega, .inr (.inl ⟨rfl, by rw [← h.fu, c4], rfl, ⟨h.h0, h.h1, by simp only; rw [← h.fu, c4], fun _ => by rw [← h.fu, c4]⟩⟩)⟩
  · exact ⟨0, ⟨a.room, fz a.fuse, false, f n a.L⟩, by rw [if_neg c4], rfl, by simp only; omega, .inl ⟨rfl, fz_step h _ c4, rfl⟩⟩
theorem len_sync (n : Int) (L : List As) : (syncA n L).length ≤ L.length := by simp [syncA]
/-- Behind i rounds. -/
structure Fu (w wr : World) (d i : Nat) (left : Int) (a : Ad) : Prop where
  out : ∃ B, DD wr B d a ∧ ∀ k, B k → w.heap.size ≤ k
  fz : Fz a left
  room : a.room = 1048576
  len : a.L.length ≤ i
  i60 : i ≤ 60
  dw : d < wr.heap.size
  below : Below w.heap.size w wr
theorem Fu.next {w wr w2 : World} {d i : Nat} {left left' : Int} {a a' : Ad} {B : Nat → Prop} (C : Fu w wr d i left a) (hi : i < 60) (hB : ∀ k, B k → w.heap.size ≤ k) {Wx : World} (hx : Below w.heap.size w Wx) (B' : Nat → Prop) (D' : DD w2 B' d a') (T : Tn B Wx w2) (hB' : ∀ k, B' k → B k ∨ Wx.heap.size ≤ k) (hf : Fz a' left') (hr : a'.room = a.room) (hl : a'.L.length ≤ a.L.length + 1) : Fu w w2 d (i + 1) left' a' := by
  have := C.len
  exact ⟨⟨B', D', up hB' hB hx.size⟩, hf, hr.trans C.room, by omega, by omega, D'.lt.1, T.bel hx hB (Nat.le_refl _)⟩
theorem append_end {w : World} {B : Nat → Prop} {d : Nat} {a : Ad} (h : DD w B d (crashD a [])) (hl : a.L.length ≤ 60) : (appD (crashD a []) 1 []).1 = 0 := by
  have h1 : ((sumA (crashA a.L []) : Nat) : Int) ≤ a.room := h.le
  have h2 := len_crash a.L []
  have e : appD (crashD a []) 1 [] = if false = true then (5, crashD a []) else if (1 : Int) < 1 then (1, crashD a []) else if a.room - (sumA (crashA a.L []) : Nat) < (([] : List UInt8).length : Nat) then (4, crashD a []) else if hasA (crashA a.L []) 1 = false ∧ 1024 ≤ (crashA a.L []).length then (4, crashD a []) else if (-1 : Int) = 0 then (5, ⟨a.room, 0, true, crashA a.L []⟩) else (0, ⟨a.room, Go.Proofs.Ytclejjofoagmfaa.fz (-1), false, putA 1 [] (crashA a.L [])⟩) := rfl
  rw [e, if_neg (by decide), if_neg (by decide), if_neg (by simp; omega), if_neg (by omega), if_neg (by decide)]
theorem pair_eq {p : Int × Ad} {r : Int} (h : p.1 = r) : p = (r, p.2) := by cases p; cases h; rfl
theorem bs_nil (w : World) (K : Nat) : Bs w K none 0 [] := ⟨Nat.le_refl _, Nat.zero_le _, fun _ => rfl, fun h => absurd h (by simp)⟩

set_option maxRecDepth 100000 in
set_option maxHeartbeats 6400000 in
theorem dfuses_any (n : Int) (hn0 : 0 ≤ n) (hn1 : n ≤ 255) (A : Option Addr) (cap : Nat) (os : List Op7) (w : World) (ho : Os7 w w.heap.size A cap os) : Calls Try.prog 7 #[.int .u8 n, .slice A os.length cap] w (Ok0 w) := by
  have HO := Lib.hid ho
  have hcl := ho.le
  have hcm := ho.max
  unfold maxLen at hcm
  have hm0 : 0 ≤ n % 20 := by omega
  have hm1 : n % 20 ≤ 20 := by omega
  clear ho
  go_enter Try.func7, Try.ntmps7
  go_wp2_with fail
  refine (new_DD 1048576 (by decide) (by decide) w).mono ?_
  rintro e w1 ⟨rfl, ⟨B1, D1, hB1⟩, b1⟩
  have z1 := D1.lt.1
  have zz := b1.size
  go_wp2_with fail
  refine (dawake_any w1).mono ?_
  rintro e w2 ⟨rfl, b2⟩
  have D2 := D1.below b2
  have b2' := b1.trans (b2.mono zz)
  clear D1 b1 b2 z1 zz
  go_wp2_with fail
  refine (fuse_DD D2 (n := n % 20) (by omega) (r := 0) (a' := ⟨1048576, max (n % 20) (-1), false, []⟩) rfl).mono ?_
  rintro e w3 ⟨rfl, B3, D3, T3, hB3⟩
  have C0 : Fu w w3 (w.heap.size + 1) 0 (n % 20) ⟨1048576, max (n % 20) (-1), false, []⟩ := ⟨⟨B3, D3, up hB3 hB1 b2'.size⟩, ⟨hm0, hm1, by simp only; omega, fun h => by cases h⟩, rfl, Nat.le_refl _, by omega, D3.lt.1, T3.bel b2' hB1 (Nat.le_refl _)⟩
  clear D2 D3 T3 hB3 hB1 b2'
  have z3 := C0.dw
  go_wp2_with fail
  go_loopw [34, 7] (fun iv lv wr => ∃ (i : Nat) (left : Int) (a : Ad), iv = .int .i64 (i : Int) ∧ lv = .int .i64 left ∧ i ≤ os.length ∧ Fu w wr (w.heap.size + 1) i left a) (fun iv _ _ => os.length - (intOf iv).toNat)
  case atStart => exact ⟨0, _, _, rfl, rfl, Nat.zero_le _, C0⟩
  case round =>
    obtain ⟨i, left, a, rfl, rfl, hi, C⟩ := hrel
    rename World => W0
    have hz := C.dw
    have hi60 := C.i60
    have hl0 := C.fz.h0
    have hl1 := C.fz.h1
    obtain ⟨B, D, hB⟩ := C.out
    have HC := Lib.hid C
    have HB := Lib.hid hB
    have HD := Lib.hid D
    have HBB := Lib.hid C.below
    clear C hB D
    by_cases hlt : i < os.length
    · obtain ⟨ad, A1, c1, A2, c2, hA, X⟩ := (HO.out.below HBB.out).get (List.getElem?_eq_getElem hlt)
      subst hA
      generalize os[i] = o at X
      have x0 := X.x0
      have x1 := X.x1
      have x2 := X.x2
      have x3 := X.x3
      have hpl := X.bs.le
      have hpm := X.bs.max
      unfold maxLen at hpm
      have hi0 : 0 ≤ (i : Int) := by omega
      have HX := Lib.hid X
      clear X
      by_cases hgo : i < 60 ∧ o.p.length ≤ 3000
      · obtain ⟨h60, hp⟩ := hgo
        have HNI := Lib.hid (not_in HX.out.bs HB.out)
        have HWX := Lib.hid ((Below.refl _ _).alloc (Nat.le_refl _) (.cells #[.int .i64 o.k, .int .i64 o.n, .slice A1 o.p.length c1, .slice A2 o.ks.length c2] 33) : Below W0.heap.size W0 _)
        by_cases k0 : o.k = 0
        · have e0 : (o.k == (0 : Int)) = true := by simpa using k0
          clear k0
          obtain ⟨r, a', hr, hs⟩ := app_stp HC.out.fz o.n o.p
          have HR := Lib.hid (app_DD (HD.out.below HWX.out) HX.out.n2 (HX.out.bs.below (HWX.out.mono HBB.out.size)) rfl HNI.out hr)
          have HS := Lib.hid hs
          clear hr hs
          go_wp2_with fail
          refine HR.out.mono ?_
          rintro e W2 ⟨rfl, B', D', T', hB'⟩
          have hz2 := D'.lt.1
          have HDN := Lib.hid (down_DD D')
          have HN := Lib.hid (fun l hf => HC.out.next (left' := l) h60 HB.out (HBB.out.trans (HWX.out.mono HBB.out.size)) B' D' T' hB' hf HS.out.1 HS.out.2.1)
          clear D' T' hB'
          rcases HS.out.2.2 with ⟨rfl, f1, hd⟩ | ⟨rfl, rfl, hd, f1⟩ | ⟨hr0, hr5, f1⟩
          · have HC2 := Lib.hid (HN.out _ f1)
            have HDN2 := Lib.hid (hd ▸ HDN.out)
            have hl2 := f1.h0
            clear f1 hd
            go_wp2_with (go_at_call 24; refine HDN2.out.mono ?_; rintro e w' ⟨rfl, rfl⟩)
            go_roundw
            case rel => exact ⟨i + 1, _, _, by go_num, rfl, hlt, HC2.out⟩
            case measure => simp [intOf]; omega
          · have HC2 := Lib.hid (HN.out _ f1)
            have HDN2 := Lib.hid (hd ▸ HDN.out)
            clear f1 hd
            go_wp2_with (go_at_call 24; refine HDN2.out.mono ?_; rintro e w' ⟨rfl, rfl⟩)
            go_roundw
            case rel => exact ⟨i + 1, _, _, by go_num, rfl, hlt, HC2.out⟩
            case measure => simp [intOf]; omega
          · have HC2 := Lib.hid (HN.out _ f1)
            have q0 : (r == (0 : Int)) = false := by simpa using hr0
            have q5 : (r == (5 : Int)) = false := by simpa using hr5
            clear f1 hr0 hr5
            go_wp2
            go_roundw
            case rel => exact ⟨i + 1, _, _, by go_num, rfl, hlt, HC2.out⟩
            case measure => simp [intOf]; omega
        · by_cases k1 : o.k = 1
          · have e0 : (o.k == (0 : Int)) = false := by simpa using k0
            have e1 : (o.k == (1 : Int)) = true := by simpa using k1
            clear k0 k1
            obtain ⟨r, a', hr, hs⟩ := op_stp HC.out.fz syncA o.n (len_sync _ _)
            have HR := Lib.hid (sync_DD (HD.out.below HWX.out) HX.out.n1 HX.out.n2 hr)
            have HS := Lib.hid hs
            clear hr hs
            go_wp2_with fail
            refine HR.out.mono ?_
            rintro e W2 ⟨rfl, B', D', T', hB'⟩
            have hz2 := D'.lt.1
            have HDN := Lib.hid (down_DD D')
            have HN := Lib.hid (fun l hf => HC.out.next (left' := l) h60 HB.out (HBB.out.trans (HWX.out.mono HBB.out.size)) B' D' T' hB' hf HS.out.1 HS.out.2.1)
            clear D' T' hB'
            rcases HS.out.2.2 with ⟨rfl, f1, hd⟩ | ⟨rfl, rfl, hd, f1⟩ | ⟨hr0, hr5, f1⟩
            · have HC2 := Lib.hid (HN.out _ f1)
              have HDN2 := Lib.hid (hd ▸ HDN.out)
              have hl2 := f1.h0
              clear f1 hd
              go_wp2_with (go_at_call 24; refine HDN2.out.mono ?_; rintro e w' ⟨rfl, rfl⟩)
              go_roundw
              case rel => exact ⟨i + 1, _, _, by go_num, rfl, hlt, HC2.out⟩
              case measure => simp [intOf]; omega
            · have HC2 := Lib.hid (HN.out _ f1)
              have HDN2 := Lib.hid (hd ▸ HDN.out)
              clear f1 hd
              go_wp2_with (go_at_call 24; refine HDN2.out.mono ?_; rintro e w' ⟨rfl, rfl⟩)
              go_roundw
              case rel => exact ⟨i + 1, _, _, by go_num, rfl, hlt, HC2.out⟩
              case measure => simp [intOf]; omega
            · have HC2 := Lib.hid (HN.out _ f1)
              have q0 : (r == (0 : Int)) = false := by simpa using hr0
              have q5 : (r == (5 : Int)) = false := by simpa using hr5
              clear f1 hr0 hr5
              go_wp2
              go_roundw
              case rel => exact ⟨i + 1, _, _, by go_num, rfl, hlt, HC2.out⟩
              case measure => simp [intOf]; omega
          · by_cases k2 : o.k = 2
            · have e0 : (o.k == (0 : Int)) = false := by simpa using k0
              have e1 : (o.k == (1 : Int)) = false := by simpa using k1
              have e2 : (o.k == (2 : Int)) = true := by simpa using k2
              clear k0 k1 k2
              obtain ⟨r, a', hr, hs⟩ := op_stp HC.out.fz dropA o.n (len_drop _ _)
              have HR := Lib.hid (drop_DD (HD.out.below HWX.out) HX.out.n1 HX.out.n2 hr)
              have HS := Lib.hid hs
              clear hr hs
              go_wp2_with fail
              refine HR.out.mono ?_
              rintro e W2 ⟨rfl, B', D', T', hB'⟩
              have hz2 := D'.lt.1
              have HDN := Lib.hid (down_DD D')
              have HN := Lib.hid (fun l hf => HC.out.next (left' := l) h60 HB.out (HBB.out.trans (HWX.out.mono HBB.out.size)) B' D' T' hB' hf HS.out.1 HS.out.2.1)
              clear D' T' hB'
              rcases HS.out.2.2 with ⟨rfl, f1, hd⟩ | ⟨rfl, rfl, hd, f1⟩ | ⟨hr0, hr5, f1⟩
              · have HC2 := Lib.hid (HN.out _ f1)
                have HDN2 := Lib.hid (hd ▸ HDN.out)
                have hl2 := f1.h0
                clear f1 hd
                go_wp2_with (go_at_call 24; refine HDN2.out.mono ?_; rintro e w' ⟨rfl, rfl⟩)
                go_roundw
                case rel => exact ⟨i + 1, _, _, by go_num, rfl, hlt, HC2.out⟩
                case measure => simp [intOf]; omega
              · have HC2 := Lib.hid (HN.out _ f1)
                have HDN2 := Lib.hid (hd ▸ HDN.out)
                clear f1 hd
                go_wp2_with (go_at_call 24; refine HDN2.out.mono ?_; rintro e w' ⟨rfl, rfl⟩)
                go_roundw
                case rel => exact ⟨i + 1, _, _, by go_num, rfl, hlt, HC2.out⟩
                case measure => simp [intOf]; omega
              · have HC2 := Lib.hid (HN.out _ f1)
                have q0 : (r == (0 : Int)) = false := by simpa using hr0
                have q5 : (r == (5 : Int)) = false := by simpa using hr5
                clear f1 hr0 hr5
                go_wp2
                go_roundw
                case rel => exact ⟨i + 1, _, _, by go_num, rfl, hlt, HC2.out⟩
                case measure => simp [intOf]; omega
            · have e0 : (o.k == (0 : Int)) = false := by simpa using k0
              have e1 : (o.k == (1 : Int)) = false := by simpa using k1
              have e2 : (o.k == (2 : Int)) = false := by simpa using k2
              clear k0 k1 k2
              have HC2 := Lib.hid (HC.out.next h60 HB.out (HBB.out.trans (HWX.out.mono HBB.out.size)) B (HD.out.below HWX.out) (Tn.refl _ _) (fun _ h => .inl h) HC.out.fz rfl (by omega))
              go_wp2
              go_roundw
              case rel => exact ⟨i + 1, _, _, by go_num, rfl, hlt, HC2.out⟩
              case measure => simp [intOf]; omega
      · have HWX := Lib.hid ((Below.refl _ _).alloc (Nat.le_refl _) (.cells #[.int .i64 o.k, .int .i64 o.n, .slice A1 o.p.length c1, .slice A2 o.ks.length c2] 33) : Below W0.heap.size W0 _)
        have HDE := Lib.hid (HD.out.below HWX.out)
        have HBE := Lib.hid (HBB.out.trans (HWX.out.mono HBB.out.size))
        by_cases h60 : i < 60
        · have hp : 3000 < o.p.length := by omega
          clear hgo
          have hlen : a.L.length ≤ 60 := Nat.le_trans HC.out.len hi60
          have HLN := Lib.hid hlen
          clear hlen
          go_wp2_with fail
          refine (crash_DD (ks := []) HDE.out (Sr.none_ _ 0) (Nat.zero_le _) rfl (fun h => absurd h (by simp))).mono ?_
          rintro e w5 ⟨rfl, B5, D5, T5, hB5⟩
          have b5 := T5.bel HBE.out HB.out (Nat.le_refl _)
          have hB5' := up hB5 HB.out HBE.out.size
          have z5 := D5.lt.1
          have HDN := Lib.hid (down_DD D5)
          have HDN2 : Hid (Calls Try.prog 24 #[dP (w.heap.size + 1)] w5 fun e w' => e = .returned (.bool false) ∧ w' = w5) := Lib.hid HDN.out
          have HR := Lib.hid (app_DD D5 (by decide) (bs_nil w5 0) rfl (fun h => absurd h (by simp)) (pair_eq (append_end D5 HLN.out)))
          clear D5 T5 hB5 HDN
          go_wp2_with (first
            | (go_at_call 24; refine HDN2.out.mono ?_; rintro e w' ⟨rfl, rfl⟩)
            | (go_at_call 16; refine HR.out.mono ?_; rintro e w6 ⟨rfl, B6, -, T6, -⟩))
          go_ret
          exact ⟨rfl, T6.bel b5 hB5' (Nat.le_refl _)⟩
        · clear hgo
          have hlen : a.L.length ≤ 60 := Nat.le_trans HC.out.len hi60
          have HLN := Lib.hid hlen
          clear hlen
          go_wp2_with fail
          refine (crash_DD (ks := []) HDE.out (Sr.none_ _ 0) (Nat.zero_le _) rfl (fun h => absurd h (by simp))).mono ?_
          rintro e w5 ⟨rfl, B5, D5, T5, hB5⟩
          have b5 := T5.bel HBE.out HB.out (Nat.le_refl _)
          have hB5' := up hB5 HB.out HBE.out.size
          have z5 := D5.lt.1
          have HDN := Lib.hid (down_DD D5)
          have HDN2 : Hid (Calls Try.prog 24 #[dP (w.heap.size + 1)] w5 fun e w' => e = .returned (.bool false) ∧ w' = w5) := Lib.hid HDN.out
          have HR := Lib.hid (app_DD D5 (by decide) (bs_nil w5 0) rfl (fun h => absurd h (by simp)) (pair_eq (append_end D5 HLN.out)))
          clear D5 T5 hB5 HDN
          go_wp2_with (first
            | (go_at_call 24; refine HDN2.out.mono ?_; rintro e w' ⟨rfl, rfl⟩)
            | (go_at_call 16; refine HR.out.mono ?_; rintro e w6 ⟨rfl, B6, -, T6, -⟩))
          go_ret
          exact ⟨rfl, T6.bel b5 hB5' (Nat.le_refl _)⟩
    · obtain rfl : i = os.length := by omega
      have HDE := Lib.hid HD.out
      have HBE := Lib.hid HBB.out
      have hlen : a.L.length ≤ 60 := Nat.le_trans HC.out.len hi60
      have HLN := Lib.hid hlen
      clear hlen
      go_wp2_with fail
      refine (crash_DD (ks := []) HDE.out (Sr.none_ _ 0) (Nat.zero_le _) rfl (fun h => absurd h (by simp))).mono ?_
      rintro e w5 ⟨rfl, B5, D5, T5, hB5⟩
      have b5 := T5.bel HBE.out HB.out (Nat.le_refl _)
      have hB5' := up hB5 HB.out HBE.out.size
      have z5 := D5.lt.1
      have HDN := Lib.hid (down_DD D5)
      have HDN2 : Hid (Calls Try.prog 24 #[dP (w.heap.size + 1)] w5 fun e w' => e = .returned (.bool false) ∧ w' = w5) := Lib.hid HDN.out
      have HR := Lib.hid (app_DD D5 (by decide) (bs_nil w5 0) rfl (fun h => absurd h (by simp)) (pair_eq (append_end D5 HLN.out)))
      clear D5 T5 hB5 HDN
      go_wp2_with (first
        | (go_at_call 24; refine HDN2.out.mono ?_; rintro e w' ⟨rfl, rfl⟩)
        | (go_at_call 16; refine HR.out.mono ?_; rintro e w6 ⟨rfl, B6, -, T6, -⟩))
      go_ret
      exact ⟨rfl, T6.bel b5 hB5' (Nat.le_refl _)⟩
end Go.Proofs.Ytclejjofoagmfaa
