/- The law WireBack: its walk. -/
import Derived.Test.YtojkbndaleiaaaaDoorLaid
import Derived.Test.YtojkbndaleiaaaaDoorWBackM
import Derived.Deep.RegionLaw
namespace Go.Proofs.YtojkbndaleiaaaaDoor
open Go.RowKit

set_option maxHeartbeats 400000 in
theorem rright_any (a b c : Int) (w : World) :
    Calls Tryd.prog 18 #[.agg #[.int .i64 a, .int .u32 b, .int .u32 c]] w fun e w' => e = .returned (.bool (rightB a)) ∧ Below w.heap.size w w' := by
  by_cases h0 : 0 ≤ a
  · by_cases h1 : a ≤ 4611686018427387904
    · go_enter Tryd.func18, Tryd.ntmps18
      go_wp2
      go_ret
      exact ⟨by simp [rightB, h0, h1], by go_grown⟩
    · go_enter Tryd.func18, Tryd.ntmps18
      go_wp2
      go_ret
      exact ⟨by simp [rightB, h0, h1], by go_grown⟩
  · go_enter Tryd.func18, Tryd.ntmps18
    go_wp2
    go_ret
    exact ⟨by simp [rightB]; omega, by go_grown⟩

set_option maxRecDepth 100000 in
set_option maxHeartbeats 6400000 in
theorem wback_any (l : List Itm) (A : Option Addr) (c : Nat) (w : World) (h : Sr encIt 9 w w.heap.size A c l) (hok : ∀ i ∈ l, i.ok) (htx : ∀ i ∈ l, i.tx.size ≤ 9223372036854775807) (hw : Wid w) (hsz : (encs l).length + 32 ≤ 140737488355328) :
    Calls Tryd.prog 4 #[.slice A l.length c] w fun e w' => e = .returned (.bool true) ∧ Below w.heap.size w w' := by
  have HA := Lib.hid (laid_any l A c w h hok hw hsz)
  have HM := Lib.hid h
  have HK := Lib.hid hok
  have HT := Lib.hid htx
  have HW := Lib.hid hw
  have hwl := World.block_lt_of_cell? w _ hw.c0
  simp only at hwl
  have HWL := Lib.hid hwl
  have hll : l.length ≤ 9223372036854775807 := by
    have := h.le
    have := h.max
    unfold maxLen at this
    omega
  have HSZ := Lib.hid hsz
  clear h hok htx hw hsz hwl
  go_enter Tryd.func4, Tryd.ntmps4
  go_wp2_with (first
    | (go_at_call 8; go_loud (refine HA.out.mono ?_; rintro e w1 ⟨A1, c1, A2, c2, rfl, o1, o2, b1⟩; have z1 := b1.size))
    | (go_at_call 13; go_loud (refine (read_any A1 c1 (encs l) w1 o1.bs.1 (by have := HSZ.out; omega)).mono ?_; rintro e w2 ⟨b, rfl, r2, b2, hb⟩; have hB2 := b1.trans (b2.mono z1); have z2 := b2.size))
    | fail)
  have HR2 := Lib.hid r2
  have HB2 := Lib.hid hB2
  clear r2 hB2 o1 o2 b1 b2
  have hwb : w.heap.size ≤ b := by omega
  go_loopw [18] (fun s wr => ∃ q : Nat, q ≤ l.length ∧ s = .int .i64 (q : Int) ∧ Rd wr b b (encs (l.drop q)) 0 ∧ Below w.heap.size w wr) (fun s _ => l.length - (intOf s).toNat)
  case atStart => exact ⟨0, by omega, rfl, HR2.out, HB2.out⟩
  case round =>
    obtain ⟨q, hq, rfl, hR, hB⟩ := hrel
    have zr := hB.size
    have HR := Lib.hid hR
    have HB := Lib.hid hB
    have hbr := hR.lt
    have HAW := Lib.hid (fun w => wawake_any w)
    by_cases hlt : q < l.length
    · obtain ⟨ad, hA, hadb, h0, hj⟩ := (HM.out.below hB).get2 hlt
      have hx := HK.out l[q] (List.getElem_mem hlt)
      have ht := HT.out l[q] (List.getElem_mem hlt)
      have hdr := encs_drop l q hlt
      generalize l[q] = x at *
      have h0 := h0 _ rfl
      have h1 := hj 1 _ (by decide) rfl
      have h2 := hj 2 _ (by decide) rfl
      have h3 := hj 3 _ (by decide) rfl
      have h4 := hj 4 _ (by decide) rfl
      have h5 := hj 5 _ (by decide) rfl
      have h6 := hj 6 _ (by decide) rfl
      have h7 := hj 7 _ (by decide) rfl
      have h8 := hj 8 _ (by decide) rfl
      obtain ⟨kd, nu, iv, fl, tx, x, y, z, mo⟩ := x
      simp only at h0 h1 h2 h3 h4 h5 h6 h7 h8
      subst hA
      have HX := Lib.hid hx
      have HTX := Lib.hid ht
      have HD := Lib.hid hdr
      clear hj hx ht hdr hR hB
      generalize hrest : encs (l.drop (q + 1)) = rest at *
      have HRS := Lib.hid hrest
      clear hrest
      by_cases k0 : kd = 0
      · subst k0
        have hby : encs (l.drop q) = numB nu ++ rest := HD.out.trans (by simp [Itm.by])
        have hR := HR.out
        rw [hby] at hR
        have HP := Lib.hid (fun W (hL : Rd W b b (numB nu ++ rest) 0) => (by have e := nuR_num HX.out.nu rest; have c := rnum_any b b (numB nu ++ rest) 0 W hL; rw [e] at c; exact c : Calls Tryd.prog 14 #[.pointer (some ⟨b, 0, none⟩)] W fun en w' => en = .returned (.int .u64 (nu : Int)) ∧ Rst W b b rest 0 w'))
        have HRR := Lib.hid hR
        clear hR hby
        have hne : ¬ (wr.heap.size = b) := by omega
        generalize numB nu = mm at *
        go_wp2_with fail
        go_region_law
          (first
            | (go_simp; go_at_call 14; go_loud (refine (HP.out _ (HRR.out.alloc _).drew).mono ?_; rintro e w3 ⟨rfl, hr⟩; have y1 : w3.cell? ⟨wr.heap.size, 1, none⟩ = some (.int .u64 (nu : Int)) := hr.tn.cell (by simp) hne)))
        all_goals
          have b3 : Below w.heap.size w w3 := HB.out.trans ((((Tn.alloc wr _).then (Tn.drew _)).then hr.tn).below zr (fun k _ e => by have e' : k = b := e; omega))
          go_wp2_with (go_at_call 21; go_loud (refine (rerr_any b b rest 0 w3 hr.rd).mono ?_; rintro en w' ⟨rfl, rfl⟩))
          go_roundw
        all_goals first
          | exact ⟨q + 1, by omega, rfl, by rw [HRS.out]; exact hr.rd, b3⟩
          | (simp [intOf]; omega)
      by_cases k1 : kd = 1
      · subst k1
        have hby : encs (l.drop q) = numB (zz iv) ++ rest := HD.out.trans (by simp [Itm.by])
        have hR := HR.out
        rw [hby] at hR
        have HP := Lib.hid (fun W (hL : Rd W b b (numB (zz iv) ++ rest) 0) => (by have e := nuR_num (zz_le HX.out.iv0 HX.out.iv1) rest; have c := rint_any b b (numB (zz iv) ++ rest) 0 W hL; rw [e, unzz_zz iv HX.out.iv0 HX.out.iv1] at c; exact c : Calls Tryd.prog 15 #[.pointer (some ⟨b, 0, none⟩)] W fun en w' => en = .returned (.int .i64 iv) ∧ Rst W b b rest 0 w'))
        have HRR := Lib.hid hR
        clear hR hby
        have hne : ¬ (wr.heap.size = b) := by omega
        generalize numB (zz iv) = mm at *
        go_wp2_with fail
        go_region_law
          (first
            | (go_simp; go_at_call 15; go_loud (refine (HP.out _ (HRR.out.alloc _).drew).mono ?_; rintro e w3 ⟨rfl, hr⟩; have y2 : w3.cell? ⟨wr.heap.size, 2, none⟩ = some (.int .i64 iv) := hr.tn.cell (by simp) hne)))
        all_goals
          have b3 : Below w.heap.size w w3 := HB.out.trans ((((Tn.alloc wr _).then (Tn.drew _)).then hr.tn).below zr (fun k _ e => by have e' : k = b := e; omega))
          go_wp2_with (go_at_call 21; go_loud (refine (rerr_any b b rest 0 w3 hr.rd).mono ?_; rintro en w' ⟨rfl, rfl⟩))
          go_roundw
        all_goals first
          | exact ⟨q + 1, by omega, rfl, by rw [HRS.out]; exact hr.rd, b3⟩
          | (simp [intOf]; omega)
      by_cases k2 : kd = 2
      · subst k2
        have hby : encs (l.drop q) = numB (if fl then 1 else 0) ++ rest := HD.out.trans (by simp [Itm.by, one_num])
        have hR := HR.out
        rw [hby] at hR
        have HP := Lib.hid (fun W (hL : Rd W b b (numB (if fl then 1 else 0) ++ rest) 0) => (by have e := nuR_num (n := if fl then 1 else 0) (by split <;> decide) rest; have c := rflag_any b b (numB (if fl then 1 else 0) ++ rest) 0 W hL; rw [e] at c; cases fl <;> exact c : Calls Tryd.prog 16 #[.pointer (some ⟨b, 0, none⟩)] W fun en w' => en = .returned (.bool fl) ∧ Rst W b b rest 0 w'))
        have HRR := Lib.hid hR
        clear hR hby
        have hne : ¬ (wr.heap.size = b) := by omega
        generalize numB (if fl then 1 else 0) = mm at *
        go_wp2_with fail
        go_region_law
          (first
            | (go_simp; go_at_call 16; go_loud (refine (HP.out _ (HRR.out.alloc _).drew).mono ?_; rintro e w3 ⟨rfl, hr⟩; have y3 : w3.cell? ⟨wr.heap.size, 3, none⟩ = some (.bool fl) := hr.tn.cell (by simp) hne)))
        all_goals
          have b3 : Below w.heap.size w w3 := HB.out.trans ((((Tn.alloc wr _).then (Tn.drew _)).then hr.tn).below zr (fun k _ e => by have e' : k = b := e; omega))
          go_wp2_with (go_at_call 21; go_loud (refine (rerr_any b b rest 0 w3 hr.rd).mono ?_; rintro en w' ⟨rfl, rfl⟩))
          go_roundw
        all_goals first
          | exact ⟨q + 1, by omega, rfl, by rw [HRS.out]; exact hr.rd, b3⟩
          | (simp [intOf]; omega)
      by_cases k3 : kd = 3
      · subst k3
        have hby : encs (l.drop q) = (numB tx.size ++ tx.data.toList) ++ rest := HD.out.trans (by simp [Itm.by])
        have hR := HR.out
        rw [hby] at hR
        have HP := Lib.hid (fun W (hL : Rd W b b ((numB tx.size ++ tx.data.toList) ++ rest) 0) => (by have e := tx_back tx HTX.out rest; have c := rtext_any (tx.size : Int) (by omega) (by have := HTX.out; simp only at this; omega) b b (numB tx.size ++ tx.data.toList ++ rest) 0 W hL; rw [e.1, e.2.1, e.2.2, strB_back] at c; exact c : Calls Tryd.prog 17 #[.pointer (some ⟨b, 0, none⟩), .int .i64 (tx.size : Int)] W fun en w' => en = .returned (.string tx) ∧ Rst W b b rest 0 w'))
        have HRR := Lib.hid hR
        clear hR hby
        have hne : ¬ (wr.heap.size = b) := by omega
        generalize (numB tx.size ++ tx.data.toList) = mm at *
        go_wp2_with fail
        go_region_law
          (first
            | (go_simp; go_at_call 17; go_loud (refine (HP.out _ (HRR.out.alloc _).drew).mono ?_; rintro e w3 ⟨rfl, hr⟩; have y4 : w3.cell? ⟨wr.heap.size, 4, none⟩ = some (.string tx) := hr.tn.cell (by simp) hne)))
        all_goals
          have b3 : Below w.heap.size w w3 := HB.out.trans ((((Tn.alloc wr _).then (Tn.drew _)).then hr.tn).below zr (fun k _ e => by have e' : k = b := e; omega))
          go_wp2_with (go_at_call 21; go_loud (refine (rerr_any b b rest 0 w3 hr.rd).mono ?_; rintro en w' ⟨rfl, rfl⟩))
          go_roundw
        all_goals first
          | exact ⟨q + 1, by omega, rfl, by rw [HRS.out]; exact hr.rd, b3⟩
          | (simp [intOf]; omega)
      by_cases k4 : kd = 4
      · subst k4
        have hby : encs (l.drop q) = putB x y z ++ rest := HD.out.trans (by simp [Itm.by])
        have hR := HR.out
        rw [hby] at hR
        have HRR := Lib.hid hR
        clear hR hby
        have hne : ¬ (wr.heap.size = b) := by omega
        by_cases hx : 0 ≤ x ∧ x ≤ 4611686018427387904
        · have hri : rightB x = true := by unfold rightB; simpa using hx
          have hsg := sg_back hx HX.out.y HX.out.z rest
          have HP := Lib.hid (fun W (hL : Rd W b b (putB x y z ++ rest) 0) (hW : Wid W) => (by have c := rstamp_any b b (putB x y z ++ rest) 0 W hL hW (by have := HWL.out; omega); rw [hsg.1, hsg.2] at c; exact c : Calls Tryd.prog 20 #[.pointer (some ⟨b, 0, none⟩)] W fun en w' => en = .returned (stv x y z) ∧ Rst W b b rest 0 w'))
          clear hsg
          generalize putB x y z = mm at *
          go_wp2_with (go_at_call 18; go_loud (refine (rright_any x y z _).mono ?_; rintro e wq ⟨rfl, hbq⟩; rw [hri]; have HBQ := Lib.hid hbq; have zq := hbq.size; simp at zq; have HRQ := Lib.hid ((HRR.out.alloc _).below hbq); have HWQ := Lib.hid (HW.out.below (HB.out.trans ((below_over hbq).mono zr))); have y5 : wq.cell? ⟨wr.heap.size, 5, none⟩ = some (.int .i64 x) := kept hbq (by simp); have y6 : wq.cell? ⟨wr.heap.size, 6, none⟩ = some (.int .u32 y) := kept hbq (by simp); have y7 : wq.cell? ⟨wr.heap.size, 7, none⟩ = some (.int .u32 z) := kept hbq (by simp); clear hbq))
          go_region_law
            (first
              | (go_simp; go_at_call 20; go_loud (refine (HP.out _ HRQ.out.drew ⟨HWQ.out.c0, HWQ.out.c1, HWQ.out.c2⟩).mono ?_; rintro e w3 ⟨rfl, hr⟩; have z5 : w3.cell? ⟨wr.heap.size, 5, none⟩ = some (.int .i64 x) := hr.tn.cell y5 hne; have z6 : w3.cell? ⟨wr.heap.size, 6, none⟩ = some (.int .u32 y) := hr.tn.cell y6 hne; have z7 : w3.cell? ⟨wr.heap.size, 7, none⟩ = some (.int .u32 z) := hr.tn.cell y7 hne))
              | (go_simp; go_at_call 19; go_loud (refine (from_any x y z w3).mono ?_; rintro e w4 ⟨rfl, hb4⟩; have x5 := kept hb4 z5; have x6 := kept hb4 z6; have x7 := kept hb4 z7)))
          all_goals
            have b3 : Below w.heap.size w w3 := (HB.out.trans ((below_over HBQ.out).mono zr)).trans (((Tn.drew wq).then hr.tn).below (by omega) (fun k _ e => by have e' : k = b := e; omega))
            have b4 : Below w.heap.size w w4 := b3.trans (hb4.mono b3.size)
            go_wp2_with (go_at_call 21; go_loud (refine (rerr_any b b rest 0 w4 (hr.rd.below hb4)).mono ?_; rintro en w' ⟨rfl, rfl⟩))
            go_roundw
          all_goals first
            | exact ⟨q + 1, by omega, rfl, by rw [HRS.out]; exact hr.rd.below hb4, b4⟩
            | (simp [intOf]; omega)
        · have hri : rightB x = false := by unfold rightB; simpa using hx
          go_wp2_with (first
            | (go_at_call 18; go_loud (refine (rright_any x y z _).mono ?_; rintro e wq ⟨rfl, hbq⟩; rw [hri]))
            | (go_at_call 12; go_loud (refine (HAW.out _).mono ?_; rintro e w5 ⟨rfl, hb5⟩)))
          go_ret
          have bq := HB.out.trans ((below_over hbq).mono zr)
          exact ⟨rfl, bq.trans (hb5.mono bq.size)⟩
      have hby : encs (l.drop q) = rest := HD.out.trans (by simp [Itm.by, k0, k1, k2, k3, k4])
      have hR := HR.out
      rw [hby] at hR
      have HRR := Lib.hid hR
      clear hR hby
      go_wp2_with (go_at_call 21; go_loud (refine (rerr_any b b rest 0 _ (HRR.out.alloc _)).mono ?_; rintro en w' ⟨rfl, rfl⟩))
      go_roundw
      case rel => exact ⟨q + 1, by omega, rfl, by rw [HRS.out]; exact HRR.out.alloc _, HB.out.alloc zr _⟩
      case measure => simp [intOf]; omega
    · have hqj : q = l.length := by omega
      subst hqj
      rw [List.drop_length] at hR
      have HRR := Lib.hid hR
      clear hR hB
      go_wp2_with (first
        | (go_at_call 12; go_loud (refine (HAW.out _).mono ?_; rintro e w5 ⟨rfl, hb5⟩))
        | (go_at_call 22; go_loud (refine (rend_any b b [] 0 w5 (HRR.out.below hb5)).mono ?_; rintro e w6 ⟨rfl, hr6⟩)))
      go_ret
      have b5 := HB.out.trans (hb5.mono zr)
      exact ⟨rfl, b5.trans (hr6.tn.below b5.size (fun k _ e => by have e' : k = b := e; omega))⟩
end Go.Proofs.YtojkbndaleiaaaaDoor
