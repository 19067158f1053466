/- The law WireStops: its walk. -/
import Derived.Test.YtojkbndaleiaaaaDoorTakes
import Derived.Test.YtojkbndaleiaaaaDoorWAwake
namespace Go.Proofs.YtojkbndaleiaaaaDoor
open Go.RowKit

theorem cnR_err {most : Int} {l : List UInt8} {e : Int} (he : e ≠ 0) : cnR most l e = (0, l, e) := by
  unfold cnR
  rw [nuR_err he]
  exact if_pos he
theorem num_e {b : Nat} {l : List UInt8} {e : Int} (he : e ≠ 0) (w : World) (h : Rd w b b l e) : Calls Tryd.prog 14 #[.pointer (some ⟨b, 0, none⟩)] w fun en w' => en = .returned (.int .u64 0) ∧ Rst w b b l e w' := by
  have c := rnum_any b b l e w h
  rw [nuR_err he] at c
  exact c
theorem int_e {b : Nat} {l : List UInt8} {e : Int} (he : e ≠ 0) (w : World) (h : Rd w b b l e) : Calls Tryd.prog 15 #[.pointer (some ⟨b, 0, none⟩)] w fun en w' => en = .returned (.int .i64 0) ∧ Rst w b b l e w' := by
  have c := rint_any b b l e w h
  have e0 : unzz 0 = 0 := by decide
  rw [nuR_err he] at c
  dsimp only at c
  rw [e0] at c
  exact c
theorem flag_e {b : Nat} {l : List UInt8} {e : Int} (he : e ≠ 0) (w : World) (h : Rd w b b l e) : Calls Tryd.prog 16 #[.pointer (some ⟨b, 0, none⟩)] w fun en w' => en = .returned (.bool false) ∧ Rst w b b l e w' := by
  have c := rflag_any b b l e w h
  rw [nuR_err he] at c
  exact c
theorem count_e {b : Nat} {l : List UInt8} {e : Int} (he : e ≠ 0) (mo : Int) (hm0 : -9223372036854775808 ≤ mo) (hm1 : mo ≤ 9223372036854775807) (w : World) (h : Rd w b b l e) : Calls Tryd.prog 24 #[.pointer (some ⟨b, 0, none⟩), .int .i64 mo] w fun en w' => en = .returned (.int .i64 0) ∧ Rst w b b l e w' := by
  have c := rcount_any mo hm0 hm1 b b l e w h
  rw [cnR_err he] at c
  exact c
theorem text_e {b : Nat} {l : List UInt8} {e : Int} (he : e ≠ 0) (mo : Int) (hm0 : -9223372036854775808 ≤ mo) (hm1 : mo ≤ 9223372036854775807) (w : World) (h : Rd w b b l e) : Calls Tryd.prog 17 #[.pointer (some ⟨b, 0, none⟩), .int .i64 mo] w fun en w' => en = .returned (.string ⟨#[]⟩) ∧ Rst w b b l e w' := by
  have c := rtext_any mo hm0 hm1 b b l e w h
  unfold txB txL txE at c
  rw [cnR_err he] at c
  have e1 : tkB 0 l e = [] := if_pos he
  have e2 : tkL 0 l e = l := if_pos he
  have e3 : tkE 0 l e = e := if_pos he
  rw [e1, e2, e3] at c
  exact c
theorem stamp_e {b : Nat} {l : List UInt8} {e : Int} (he : e ≠ 0) (hgb : 0 < b) (w : World) (h : Rd w b b l e) (hw : Wid w) : Calls Tryd.prog 20 #[.pointer (some ⟨b, 0, none⟩)] w fun en w' => en = .returned (stv 0 0 0) ∧ Rst w b b l e w' := by
  have c := rstamp_any b b l e w h hw hgb
  have e1 : sgR l e = (0, 0, 0, e) := if_pos he
  have e2 : tkL 16 l e = l := if_pos he
  rw [e1, e2] at c
  exact c

set_option maxRecDepth 100000 in
set_option maxHeartbeats 6400000 in
theorem wstops_any (lb : List UInt8) (la lm : List Itm) (Ab A1 A2 : Option Addr) (cb c1 c2 : Nat) (w : World) (hb : Bs w w.heap.size Ab cb lb) (hsz : lb.length ≤ 140737488355328) (h1 : Sr encIt 9 w w.heap.size A1 c1 la) (h2 : Sr encIt 9 w w.heap.size A2 c2 lm) (hm1 : ∀ i ∈ la, -9223372036854775808 ≤ i.mo ∧ i.mo ≤ 9223372036854775807) (hm2 : ∀ i ∈ lm, -9223372036854775808 ≤ i.mo ∧ i.mo ≤ 9223372036854775807) (hw : Wid w) :
    Calls Tryd.prog 6 #[.slice Ab lb.length cb, .slice A1 la.length c1, .slice A2 lm.length c2] w fun e w' => e = .returned (.bool true) ∧ Below w.heap.size w w' := by
  have HR := Lib.hid (read_any Ab cb lb w hb hsz)
  have H1 := Lib.hid h1
  have H2 := Lib.hid h2
  have HM1 := Lib.hid hm1
  have HM2 := Lib.hid hm2
  have HW := Lib.hid hw
  have hwl := World.block_lt_of_cell? w _ hw.c0
  simp only at hwl
  have HWL := Lib.hid hwl
  have HAW := Lib.hid (fun w => wawake_any w)
  have hl1 : la.length ≤ 9223372036854775807 := by
    have := h1.le
    have := h1.max
    unfold maxLen at this
    omega
  have hl2 : lm.length ≤ 9223372036854775807 := by
    have := h2.le
    have := h2.max
    unfold maxLen at this
    omega
  clear h1 h2 hm1 hm2 hw hwl hb hsz
  go_enter Tryd.func6, Tryd.ntmps6
  go_wp2_with (first
    | (go_at_call 13; go_loud (refine HR.out.mono ?_; rintro e w1 ⟨b, rfl, r1, b1, hbz⟩; have zb := r1.lt; have z1 := b1.size; have HR1 := Lib.hid r1; have HB1 := Lib.hid b1; clear r1 b1))
    | fail)
  have T0 : Tw (w1.alloc (.cells #[.slice none 0 0, .int .i64 0, .int .i64 0] 52)) b w1.heap.size :=
    ⟨⟨_, _, HR1.out.alloc _⟩, ⟨0, by simp, by simp, by simp, by simp⟩, by omega, (HW.out.below HB1.out).below ((Below.refl _ _).alloc (Nat.le_refl _) _), by have := HWL.out; omega, by have := HWL.out; omega, zb⟩
  have B0 := HB1.out.alloc z1 (.cells #[.slice none 0 0, .int .i64 0, .int .i64 0] 52)
  generalize hd : w1.heap.size = d at *
  have HT0 := Lib.hid T0
  have HB0 := Lib.hid B0
  clear T0 B0 hd
  have hgb : 0 < b := by have := HWL.out; omega
  go_loopw [20] (fun s wr => ∃ q : Nat, q ≤ la.length ∧ s = .int .i64 (q : Int) ∧ Tw wr b d ∧ Below w.heap.size w wr) (fun s _ => la.length - (intOf s).toNat)
  case atStart => exact ⟨0, by omega, rfl, HT0.out, HB0.out⟩
  case round =>
    obtain ⟨q, hq, rfl, T, B⟩ := hrel
    have zr := B.size
    have HT := Lib.hid T
    have HB := Lib.hid B
    by_cases hlt : q < la.length
    · obtain ⟨ad, hA, hadb, h0, hj⟩ := (H1.out.below B).get2 hlt
      have hx := HM1.out la[q] (List.getElem_mem hlt)
      generalize la[q] = x at *
      have hc := fun w h => takes_any x hx.1 hx.2 b d w h
      have HC := Lib.hid hc
      have h0 := h0 _ rfl
      have h1 := hj 1 _ (by decide) rfl
      have h2 := hj 2 _ (by decide) rfl
      have h3 := hj 3 _ (by decide) rfl
      have h4 := hj 4 _ (by decide) rfl
      have h5 := hj 5 _ (by decide) rfl
      have h6 := hj 6 _ (by decide) rfl
      have h7 := hj 7 _ (by decide) rfl
      have h8 := hj 8 _ (by decide) rfl
      subst hA
      have HTA := Lib.hid (T.below ((Below.refl _ _).alloc (Nat.le_refl _) (.cells #[.int .i64 x.kd, .int .u64 (x.nu : Int), .int .i64 x.iv, .bool x.fl, .string x.tx, .int .i64 x.x, .int .u32 x.y, .int .u32 x.z, .int .i64 x.mo] 39)))
      clear hj hx hc T B
      go_wp2_with (first
        | (go_at_call 23; go_loud (refine (HC.out _ HTA.out).mono ?_; rintro en w3 ⟨⟨ok, rfl⟩, T3, t3⟩; have HT3 := Lib.hid T3; have Ht3 := Lib.hid t3; clear T3 t3)))
      go_roundw
      case rel => exact ⟨q + 1, by omega, rfl, HT3.out, HB.out.trans (((Tn.alloc _ _).then Ht3.out).below zr (fun k _ e => by rcases e with e | e <;> omega))⟩
      case measure => simp [intOf]; omega
    · clear B
      obtain ⟨l, e, hr⟩ := T.rd
      have HRR := Lib.hid hr
      have HWW := Lib.hid T.wid
      clear T hr
      by_cases he : e = 0
      · subst he
        go_wp2_with (first
          | (go_at_call 21; go_loud (refine (rerr_any b b l 0 _ HRR.out).mono ?_; rintro en w' ⟨rfl, rfl⟩))
          | (go_at_call 12; go_loud (refine (HAW.out _).mono ?_; rintro e w5 ⟨rfl, hb5⟩)))
        go_ret
        exact ⟨rfl, HB.out.trans (hb5.mono zr)⟩
      · have heb : (e == 0) = false := by simpa using he
        have HHE := Lib.hid he
        go_wp2_with (first
          | (go_at_call 21; go_loud (refine (rerr_any b b l e _ HRR.out).mono ?_; rintro en w' ⟨rfl, rfl⟩)))
        rename World => W0
        go_loopw [36] (fun s wr => ∃ (q : Nat) (l' : List UInt8), q ≤ lm.length ∧ s = .int .i64 (q : Int) ∧ Rd wr b b l' e ∧ Wid wr ∧ Below w.heap.size w wr) (fun s _ => lm.length - (intOf s).toNat)
        case atStart => exact ⟨0, l, by omega, rfl, HRR.out, HWW.out, HB.out⟩
        case round =>
          obtain ⟨p, l', hp, rfl, R2, WI, B2⟩ := hrel
          have zr2 := B2.size
          have HR2 := Lib.hid R2
          have HWI := Lib.hid WI
          have HB2 := Lib.hid B2
          have hbr := R2.lt
          have hgne : ¬ (0 = b) := by omega
          have hbne : ¬ (wr.heap.size = b) := by omega
          have hee : (e == e) = true := by simp
          have hne2 : (e != e) = false := by simp
          by_cases hlt2 : p < lm.length
          · obtain ⟨ad, hA, hadb, h0, hj⟩ := (H2.out.below B2).get2 hlt2
            have hx := HM2.out lm[p] (List.getElem_mem hlt2)
            generalize lm[p] = x at *
            have h0 := h0 _ rfl
            have h1 := hj 1 _ (by decide) rfl
            have h2 := hj 2 _ (by decide) rfl
            have h3 := hj 3 _ (by decide) rfl
            have h4 := hj 4 _ (by decide) rfl
            have h5 := hj 5 _ (by decide) rfl
            have h6 := hj 6 _ (by decide) rfl
            have h7 := hj 7 _ (by decide) rfl
            have h8 := hj 8 _ (by decide) rfl
            obtain ⟨kd, nu, iv, fl, tx, x, y, z, mo⟩ := x
            simp only at h0 h1 h2 h3 h4 h5 h6 h7 h8 hx
            obtain ⟨hm0, hm1⟩ := hx
            subst hA
            clear hj R2 WI B2
            by_cases k0 : kd = 0
            · subst k0
              go_wp2_with (first
                | (go_at_call 14; go_loud (refine (num_e HHE.out _ (HR2.out.alloc _)).mono ?_; rintro en w3 ⟨rfl, hs⟩))
                | (go_at_call 21; go_loud (refine (rerr_any b b l' e w3 hs.rd).mono ?_; rintro en w' ⟨rfl, rfl⟩)))
              go_roundw
              case rel => exact ⟨p + 1, l', by omega, rfl, hs.rd, (HWI.out.below ((Below.refl _ _).alloc (Nat.le_refl _) _)).tn hs.tn hgne, HB2.out.trans (((Tn.alloc _ _).then hs.tn).below zr2 (fun k _ e => by have e' : k = b := e; omega))⟩
              case measure => simp [intOf]; omega
            by_cases k1 : kd = 1
            · subst k1
              go_wp2_with (first
                | (go_at_call 15; go_loud (refine (int_e HHE.out _ (HR2.out.alloc _)).mono ?_; rintro en w3 ⟨rfl, hs⟩))
                | (go_at_call 21; go_loud (refine (rerr_any b b l' e w3 hs.rd).mono ?_; rintro en w' ⟨rfl, rfl⟩)))
              go_roundw
              case rel => exact ⟨p + 1, l', by omega, rfl, hs.rd, (HWI.out.below ((Below.refl _ _).alloc (Nat.le_refl _) _)).tn hs.tn hgne, HB2.out.trans (((Tn.alloc _ _).then hs.tn).below zr2 (fun k _ e => by have e' : k = b := e; omega))⟩
              case measure => simp [intOf]; omega
            by_cases k3 : kd = 3
            · subst k3
              go_wp2_with (first
                | (go_at_call 17; go_loud (refine (text_e HHE.out mo hm0 hm1 _ (HR2.out.alloc _)).mono ?_; rintro en w3 ⟨rfl, hs⟩))
                | (go_at_call 21; go_loud (refine (rerr_any b b l' e w3 hs.rd).mono ?_; rintro en w' ⟨rfl, rfl⟩)))
              go_roundw
              case rel => exact ⟨p + 1, l', by omega, rfl, hs.rd, (HWI.out.below ((Below.refl _ _).alloc (Nat.le_refl _) _)).tn hs.tn hgne, HB2.out.trans (((Tn.alloc _ _).then hs.tn).below zr2 (fun k _ e => by have e' : k = b := e; omega))⟩
              case measure => simp [intOf]; omega
            by_cases k4 : kd = 4
            · subst k4
              go_wp2_with (first
                | (go_at_call 20; go_loud (refine (stamp_e HHE.out (by omega) _ (HR2.out.alloc _) (HWI.out.below ((Below.refl _ _).alloc (Nat.le_refl _) _))).mono ?_; rintro en w3 ⟨rfl, hs⟩))
                | (go_at_call 21; go_loud (refine (rerr_any b b l' e w3 hs.rd).mono ?_; rintro en w' ⟨rfl, rfl⟩)))
              go_roundw
              case rel => exact ⟨p + 1, l', by omega, rfl, hs.rd, (HWI.out.below ((Below.refl _ _).alloc (Nat.le_refl _) _)).tn hs.tn hgne, HB2.out.trans (((Tn.alloc _ _).then hs.tn).below zr2 (fun k _ e => by have e' : k = b := e; omega))⟩
              case measure => simp [intOf]; omega
            go_wp2_with (first
              | (go_at_call 16; go_loud (refine (flag_e HHE.out _ (HR2.out.alloc _)).mono ?_; rintro en w3 ⟨rfl, hs⟩; have y8 : w3.cell? ⟨wr.heap.size, 8, none⟩ = some (.int .i64 mo) := hs.tn.cell (by simp) hbne))
              | (go_at_call 24; go_loud (refine (count_e HHE.out mo hm0 hm1 _ hs.rd).mono ?_; rintro en w4 ⟨rfl, hs4⟩))
              | (go_at_call 21; go_loud (refine (rerr_any b b l' e w4 hs4.rd).mono ?_; rintro en w' ⟨rfl, rfl⟩)))
            go_roundw
            case rel => exact ⟨p + 1, l', by omega, rfl, hs4.rd, ((HWI.out.below ((Below.refl _ _).alloc (Nat.le_refl _) _)).tn hs.tn hgne).tn hs4.tn hgne, HB2.out.trans ((((Tn.alloc _ _).then hs.tn).then hs4.tn).below zr2 (fun k _ e => by have e' : k = b := e; omega))⟩
            case measure => simp [intOf]; omega
          · have hpl : p = lm.length := by omega
            subst hpl
            clear R2 WI B2
            go_wp2_with (first
              | (go_at_call 12; go_loud (refine (HAW.out _).mono ?_; rintro en w5 ⟨rfl, hb5⟩))
              | (go_at_call 22; go_loud (refine (rend_any b b l' e w5 (HR2.out.below hb5)).mono ?_; rw [if_neg (fun h => HHE.out h.1)]; rintro en w6 ⟨rfl, hr6⟩)))
            go_ret
            have b5 := HB2.out.trans (hb5.mono zr2)
            exact ⟨rfl, b5.trans (hr6.tn.below b5.size (fun k _ e => by have e' : k = b := e; omega))⟩
end Go.Proofs.YtojkbndaleiaaaaDoor
