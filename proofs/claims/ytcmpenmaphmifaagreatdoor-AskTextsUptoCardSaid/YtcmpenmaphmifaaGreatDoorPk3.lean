/- The document's Total: its digits. -/
import Derived.Test.YtcmpenmaphmifaaGreatDoorPk2
import Derived.Deep.CutBlock
import Derived.BigQuiet
namespace Go.Proofs.YtcmpenmaphmifaaGreatDoor
open Go.RowKit Go.BigFrame

theorem info_tc : (Tryz.prog.info? 173).map (fun i => (i.zero, i.size, i.bytes)) = some (some (.agg #[.int .i64 0, .int .i64 0]), 2, 16) := by kernel_rfl
/-- What is told window by window, from a time on. -/
def winGo (op to_ step : Int) : Nat → Int → List Smp → List Smp → Int × List Smp
  | 0, _, _, acc => (0, acc)
  | fuel + 1, b, l, acc =>
    if b < to_ then
      if l = [] then (0, acc)
      else if ah l (b + min step (to_ - b)) = 0 then winGo op to_ step fuel (b + min step (to_ - b)) l acc
      else if (foldB op (l.take (ah l (b + min step (to_ - b))))).2.2 = 0 then
        winGo op to_ step fuel (b + min step (to_ - b)) (l.drop (ah l (b + min step (to_ - b)))) (acc ++ [(b, (foldB op (l.take (ah l (b + min step (to_ - b))))).1)])
      else ((foldB op (l.take (ah l (b + min step (to_ - b))))).2.2, [])
    else (0, acc)
def windowsB (op : Int) (l : List Smp) (from_ to_ step : Int) : Int × List Smp :=
  if (!okB op l.length || !spanB from_ to_ || decide (step < 1)) = true then (1, [])
  else if longB from_ to_ step = true then (8, [])
  else winGo op to_ step (to_ - from_).toNat from_ (l.drop (ah l from_)) []
def WinP (w : World) (p : Int × List Smp) (e : Ending) (w' : World) : Prop :=
  ∃ A c, e = .returned (.tuple #[.slice A p.2.length c, .int .i64 p.1]) ∧ So encSm 2 w' w.heap.size 173 (.slice A p.2.length c) p.2 ∧ Below w.heap.size w w'
theorem win_none (w : World) {w' : World} (x : Int) (h : Below w.heap.size w w') : WinP w (x, []) (.returned (.tuple #[.slice none 0 0, .int .i64 x])) w' := ⟨none, 0, rfl, So.empty _ _ _ _ _, h⟩
set_option maxRecDepth 100000 in
set_option maxHeartbeats 1600000 in
theorem windows_any (op : Int) (K : Nat) (A : Option Addr) (n cap : Nat) (l : List Smp) (a b st : Int) (w : World) (hln : l.length = n) (hp : Sr encSm 2 w K A cap l) (hK : K ≤ w.heap.size) (hok : ∀ x ∈ l, Sok x) (hs2 : st ≤ 9223372036854775807) :
    Calls Tryz.prog 71 #[.int .i64 op, .slice A n cap, .int .i64 a, .int .i64 b, .int .i64 st] w (WinP w (windowsB op l a b st)) := by
  subst hln
  have HR := Lib.hid (fun W => isRight_any op A l.length cap W)
  have HSp := Lib.hid (fun W => isSpan_any a b W)
  cases hb1 : okB op l.length with
  | false =>
    have e : windowsB op l a b st = (1, []) := if_pos (by rw [hb1]; rfl)
    rw [e]
    rw [hb1] at HR
    clear e hb1 hp hok
    go_enter Tryz.func71, Tryz.ntmps71
    go_wp2_with fail
    go_step3
    go_wp2_with (go_at_call 100; refine (HR.out _).mono ?_; rintro e w1 ⟨rfl, rfl⟩)
    (try rw [Exit.noGoto_ret])
    go_ret2
    exact win_none _ _ (Below.refl _ _)
  | true =>
    cases hb2 : spanB a b with
    | false =>
      have e : windowsB op l a b st = (1, []) := if_pos (by rw [hb1, hb2]; rfl)
      rw [e]
      rw [hb1] at HR
      rw [hb2] at HSp
      clear e hb1 hb2 hp hok
      go_enter Tryz.func71, Tryz.ntmps71
      go_wp2_with fail
      go_step3
      go_wp2_with (first
        | (go_at_call 100; refine (HR.out _).mono ?_; rintro e w1 ⟨rfl, rfl⟩)
        | (go_at_call 101; refine (HSp.out _).mono ?_; rintro e w1 ⟨rfl, rfl⟩))
      (try rw [Exit.noGoto_ret])
      go_ret2
      exact win_none _ _ (Below.refl _ _)
    | true =>
      by_cases hst : st < 1
      · have e : windowsB op l a b st = (1, []) := if_pos (by rw [hb1, hb2, decide_eq_true hst]; rfl)
        rw [e]
        rw [hb1] at HR
        rw [hb2] at HSp
        clear e hb1 hb2 hp hok
        go_enter Tryz.func71, Tryz.ntmps71
        go_wp2_with fail
        go_step3
        go_wp2_with (first
          | (go_at_call 100; refine (HR.out _).mono ?_; rintro e w1 ⟨rfl, rfl⟩)
          | (go_at_call 101; refine (HSp.out _).mono ?_; rintro e w1 ⟨rfl, rfl⟩))
        (try rw [Exit.noGoto_ret])
        go_ret2
        exact win_none _ _ (Below.refl _ _)
      have HL := Lib.hid (fun W => isLong_any a b st hb2 (by omega) hs2 W)
      cases hb3 : longB a b st with
      | true =>
        have e : windowsB op l a b st = (8, []) := by
          unfold windowsB
          rw [if_neg (by rw [hb1, hb2, decide_eq_false hst]; decide), if_pos hb3]
        rw [e]
        rw [hb1] at HR
        rw [hb2] at HSp
        rw [hb3] at HL
        clear e hb1 hb2 hb3 hp hok
        go_enter Tryz.func71, Tryz.ntmps71
        go_wp2_with fail
        go_step3
        go_wp2_with (first
          | (go_at_call 100; refine (HR.out _).mono ?_; rintro e w1 ⟨rfl, rfl⟩)
          | (go_at_call 101; refine (HSp.out _).mono ?_; rintro e w1 ⟨rfl, rfl⟩)
          | (go_at_call 102; refine (HL.out _).mono ?_; rintro e w1 ⟨rfl, rfl⟩))
        (try rw [Exit.noGoto_ret])
        go_ret2
        exact win_none _ _ (Below.refl _ _)
      | false =>
        have e : windowsB op l a b st = winGo op b st (b - a).toNat a (l.drop (ah l a)) [] := by
          unfold windowsB
          rw [if_neg (by rw [hb1, hb2, decide_eq_false hst]; decide), if_neg (by rw [hb3]; decide)]
        rw [e]
        have hsp := hb2
        unfold spanB at hsp
        simp at hsp
        have hlen : l.length ≤ 65536 := by
          unfold okB at hb1
          simp at hb1
          omega
        rw [hb1] at HR
        rw [hb2] at HSp
        rw [hb3] at HL
        have hle := hp.le
        have hmax := hp.max
        unfold maxLen at hmax
        have hq := ah_le l a
        have HP0 := Lib.hid hp
        have HOK := Lib.hid hok
        have HAh := Lib.hid (fun W (h : W = w) => ahead_any K A l.length cap l a W rfl (h ▸ hp) (h ▸ hK))
        have hsl := fun W => slice_fromK undS szS A l.length cap (ah l a) (by omega) W
        have HP1 := Lib.hid (hp.from hq)
        have hdl : (l.drop (ah l a)).length = l.length - ah l a := List.length_drop
        have HO1 : Hid (∀ x ∈ l.drop (ah l a), Sok x) := Lib.hid (fun x hx => hok x (List.mem_of_mem_drop hx))
        generalize ah l a = q at *
        generalize hl1 : l.drop q = l1 at *
        generalize (if cap = q then A else A.map (·.add (q * 2))) = A1 at *
        obtain ⟨res, hres⟩ : ∃ res, res = winGo op b st (b - a).toNat a l1 [] := ⟨_, rfl⟩
        have HRES := Lib.hid hres.symm
        rw [← hres]
        clear e hb1 hb2 hb3 hp hok hl1 hres
        go_enter Tryz.func71, Tryz.ntmps71
        go_wp2_with fail
        go_step3
        go_wp2_with (first
          | (go_at_call 100; refine (HR.out _).mono ?_; rintro e w1 ⟨rfl, rfl⟩)
          | (go_at_call 101; refine (HSp.out _).mono ?_; rintro e w1 ⟨rfl, rfl⟩)
          | (go_at_call 102; refine (HL.out _).mono ?_; rintro e w1 ⟨rfl, rfl⟩)
          | (go_at_call 103; refine (HAh.out _ rfl).mono ?_; rintro e w2 ⟨rfl, hb2⟩))
        go_step3
        go_wp2_with fail
        have HSa := Lib.hid ((HP1.out.below (hb2.mono hK)).more hK)
        have hn1 : l1.length ≤ 65536 := by omega
        have HB2 := Lib.hid hb2
        have hs1 : (1 : Int) ≤ st := by omega
        clear hb2 hsl HP0 HP1 HOK HAh HR HSp HL hst hle hmax
        go_loopw [1, 12, 13] (fun s1 s12 s13 wr => ∃ (A' : Option Addr) (n' c' : Nat) (B : Option Addr) (cc m' : Nat) (acc l' : List Smp) (t : Int) (fuel : Nat), s1 = .slice A' n' c' ∧ s12 = .slice B m' cc ∧ s13 = .int .i64 t ∧ l'.length = n' ∧ acc.length = m' ∧ Hid (winGo op b st fuel t l' acc = res) ∧ (b - t).toNat ≤ fuel ∧ a ≤ t ∧ t ≤ b ∧ Sr encSm 2 wr w1.heap.size A' c' l' ∧ So encSm 2 wr w1.heap.size 173 (.slice B m' cc) acc ∧ m' + n' ≤ 65536 ∧ Hid (∀ x ∈ l', Sok x) ∧ Below w1.heap.size w1 wr) (fun _ _ i _ => (b - intOf i).toNat)
        case atStart => exact ⟨A1, l.length - q, cap - q, none, 0, 0, [], l1, a, (b - a).toNat, rfl, rfl, rfl, hdl, rfl, Lib.hid HRES.out, Nat.le_refl _, Int.le_refl _, by omega, HSa.out, So.empty _ _ _ _ _, by omega, Lib.hid HO1.out, HB2.out⟩
        case round =>
          obtain ⟨A', n', c', B, cc, m', acc, l', t, fuel, rfl, rfl, rfl, hn', hm', HG, hf, ht0, ht1, hS, hC, hmn, HOK, hbl⟩ := hrel
          rename World => wr
          have z := hbl.size
          have HS := Lib.hid hS
          have HC := Lib.hid hC
          have HB := Lib.hid hbl
          have HN := Lib.hid hn'
          have HM := Lib.hid hm'
          have hle := hS.le
          have hmax := hS.max
          unfold maxLen at hmax
          rw [hn'] at hle
          clear HSa HB2 HRES HO1 hS hC hbl hn' hm' hdl hn1
          by_cases htb : t < b
          rotate_left
          · have HE : Hid (res = (0, acc)) := Lib.hid (by
              rw [← HG.out]
              cases fuel with
              | zero => rfl
              | succ f => unfold winGo; rw [if_neg htb])
            go_wp2_with fail
            (try rw [Exit.noGoto_ret])
            go_ret2
            rw [HE.out]
            exact ⟨B, cc, by rw [HM.out] <;> rfl, by rw [HM.out]; exact HC.out, HB.out⟩
          obtain ⟨f, rfl⟩ : ∃ f, fuel = f + 1 := ⟨fuel - 1, by omega⟩
          obtain ⟨m, hm⟩ : ∃ m, min st (b - t) = m := ⟨_, rfl⟩
          have hm1 : 1 ≤ m := by omega
          have hm2 : m ≤ b - t := by omega
          have ew1 : wrap64 (b - t) = b - t := by unfold wrap64; omega
          have ew2 : wrap64 (t + m) = t + m := by unfold wrap64; omega
          go_upto_region 10 with fail
          go_cut [14] (fun ev wx => ev = .int .i64 (t + m) ∧ wx = wr)
          case first =>
            rcases (show (st ≤ b - t ∧ m = st) ∨ (¬ st ≤ b - t ∧ m = b - t) by omega) with ⟨g1, rfl⟩ | ⟨g1, rfl⟩
            · go_wp2_with fail
              go_meet
              exact ⟨rfl, rfl⟩
            · go_wp2_with fail
              go_meet
              exact ⟨rfl, rfl⟩
          case rest =>
            obtain ⟨rfl, hwc⟩ := hcut
            subst hwc
            rename World => wr
            have HGG := HG.out
            unfold winGo at HGG
            rw [if_pos htb, hm] at HGG
            have hAh := fun W (h : W = wr) => ahead_any w1.heap.size A' n' c' l' (t + m) W HN.out (h ▸ HS.out) (h ▸ z)
            have hq := ah_le l' (t + m)
            rw [HN.out] at hq
            by_cases hn0 : n' = 0
            · subst hn0
              have el : l' = [] := List.eq_nil_of_length_eq_zero HN.out
              rw [if_pos el] at HGG
              have HE := Lib.hid HGG.symm
              have HAh := Lib.hid hAh
              clear HGG hAh HG el
              generalize ah l' (t + m) = q at *
              go_wp2_with (go_at_call 103; refine (HAh.out _ rfl).mono ?_; rintro e w3 ⟨rfl, hb3⟩)
              (try rw [Exit.noGoto_ret])
              go_ret2
              rw [HE.out]
              exact ⟨B, cc, by rw [HM.out] <;> rfl, by rw [HM.out]; exact (HC.out.below hb3), HB.out.trans (hb3.mono z)⟩
            have i0 : ((n' : Int) == 0) = false := beq_eq_false_iff_ne.2 (by omega)
            rw [if_neg (by rintro rfl; exact hn0 HN.out.symm)] at HGG
            by_cases hq0 : ah l' (t + m) = 0
            · rw [if_pos hq0] at HGG
              rw [hq0] at hAh
              have HAh := Lib.hid hAh
              have HGN := Lib.hid HGG
              clear HGG hAh HG hq0 hq
              go_wp2_with (go_at_call 103; refine (HAh.out _ rfl).mono ?_; rintro e w3 ⟨rfl, hb3⟩)
              go_roundw
              case rel => exact ⟨A', n', c', B, cc, m', acc, l', t + m, f, rfl, rfl, rfl, HN.out, HM.out, Lib.hid HGN.out, by omega, by omega, by omega, (HS.out.below (hb3.mono z)), HC.out.below hb3, hmn, Lib.hid HOK.out, HB.out.trans (hb3.mono z)⟩
              case measure => simp [intOf]; omega
            rw [if_neg hq0] at HGG
            have HT := Lib.hid (HS.out.to (j := ah l' (t + m)) (by rw [HN.out]; exact hq))
            have HD := Lib.hid (HS.out.from (j := ah l' (t + m)) (by rw [HN.out]; exact hq))
            have hdl2 : (l'.drop (ah l' (t + m))).length = n' - ah l' (t + m) := by rw [List.length_drop, HN.out]
            have htl : (l'.take (ah l' (t + m))).length = ah l' (t + m) := by rw [List.length_take, HN.out]; omega
            have HOD : Hid (∀ x ∈ l'.drop (ah l' (t + m)), Sok x) := Lib.hid (fun x hx => HOK.out x (List.mem_of_mem_drop hx))
            have hoT : ∀ x ∈ l'.take (ah l' (t + m)), Sok x := fun x hx => HOK.out x (List.mem_of_mem_take hx)
            have hF := fun W (h : Below wr.heap.size wr W) => fold_any op w1.heap.size A' (ah l' (t + m)) c' (l'.take (ah l' (t + m))) W htl (HT.out.below (h.mono z)) (Nat.le_trans z h.size) hoT
            have hs1' := fun W => slice_toK undS szS A' n' c' (ah l' (t + m)) (by omega) W
            have hs2' := fun W => slice_fromK undS szS A' n' c' (ah l' (t + m)) (by omega) W
            clear htl hoT HG
            generalize l'.drop (ah l' (t + m)) = ld at *
            generalize foldB op (l'.take (ah l' (t + m))) = p at *
            clear HT
            generalize ah l' (t + m) = q2 at *
            generalize (if c' = q2 then A' else A'.map (·.add (q2 * 2))) = A2 at *
            obtain ⟨p1, p2, p3⟩ := p
            simp only at HGG
            have i1 : ((q2 : Int) == 0) = false := beq_eq_false_iff_ne.2 (by omega)
            have i2 : ¬ q2 = 0 := hq0
            have HAh := Lib.hid hAh
            have HF := Lib.hid hF
            have HDL := Lib.hid hdl2
            by_cases hp3 : p3 = 0
            · subst hp3
              rw [if_pos rfl] at HGG
              have HGN := Lib.hid HGG
              clear HGG hAh hF hdl2 hq0
              go_wp2_with (first
                | (go_at_call 103; refine (HAh.out _ rfl).mono ?_; rintro e w3 ⟨rfl, hb3⟩)
                | (go_at_call 104; refine (HF.out _ hb3).mono ?_; rintro e w4 ⟨rfl, hb4⟩; have hb34 := hb3.trans (hb4.mono hb3.size); have hC4 := HC.out.below hb34; have z4 := hb34.size)
                | (at_builtin; refine wpList_pushE Tryz.underlying66 info_tc rfl (by decide) w4 rfl (.tmp 79) (.tmp 83) rfl w1.heap.size (.slice B m' cc) acc rfl hC4 (t, p1) _ rfl rfl (encSm_one _) _ w4.heap.size rfl rfl (m' + 1) (by rw [HM.out]) (by unfold maxLen; omega) (by omega) (by omega) ?_; intro A5 cap5 w5 hps5 hgrow5 hat5; have B5 : Below w1.heap.size w1 w5 := grown_belowT (HB.out.trans (hb34.mono z)) hgrow5 (by omega) (fun _ h => (hC4.lt _ h).1)))
              have B45 : Below w1.heap.size w4 w5 := grown_belowT (Below.refl _ _) hgrow5 (by omega) (fun _ h => (hC4.lt _ h).1)
              go_roundw
              case rel => exact ⟨A2, n' - q2, c' - q2, A5, cap5, m' + 1, _, ld, t + m, f, rfl, rfl, rfl, HDL.out, by rw [List.length_append, HM.out]; rfl, Lib.hid HGN.out, by omega, by omega, by omega, HD.out.below ((hb34.mono z).trans B45), hps5, by omega, Lib.hid HOD.out, B5⟩
              case measure => simp [intOf]; omega
            · have hp3' : (p3 == 0) = false := beq_eq_false_iff_ne.2 hp3
              have hp3'' : (p3 != 0) = true := bne_iff_ne.2 hp3
              rw [if_neg hp3] at HGG
              have HE := Lib.hid HGG.symm
              clear HGG hAh hF hdl2 hq0 hp3
              go_wp2_with (first
                | (go_at_call 103; refine (HAh.out _ rfl).mono ?_; rintro e w3 ⟨rfl, hb3⟩)
                | (go_at_call 104; refine (HF.out _ hb3).mono ?_; rintro e w4 ⟨rfl, hb4⟩))
              (try rw [Exit.noGoto_ret])
              go_ret2
              rw [HE.out]
              exact win_none _ _ (HB.out.trans ((hb3.trans (hb4.mono hb3.size)).mono z))
end Go.Proofs.YtcmpenmaphmifaaGreatDoor
namespace Go.Proofs.YtcmpenmaphmifaaGreatDoor
open Go.RowKit

def Srt (l : List Smp) : Prop := l.Pairwise fun x y => x.1 ≤ y.1
def risB (l : List Smp) : Prop := ∀ i, i + 1 < l.length → (l.getD i (0, 0)).1 ≤ (l.getD (i + 1) (0, 0)).1
theorem srt_of : ∀ {l : List Smp}, risB l → Srt l
  | [], _ => List.Pairwise.nil
  | [x], _ => by simp [Srt]
  | x :: y :: l, h => by
    have h1 : risB (y :: l) := fun i hi => by
      have := h (i + 1) (by simp at hi ⊢; omega)
      simpa [List.getD] using this
    have h2 := srt_of h1
    have h3 : x.1 ≤ y.1 := by
      have := h 0 (by simp)
      simpa [List.getD] using this
    refine List.pairwise_cons.2 ⟨fun z hz => ?_, h2⟩
    rcases List.mem_cons.1 hz with rfl | hz
    · exact h3
    · have := (List.pairwise_cons.1 h2).1 z hz
      omega
theorem ah_take {l : List Smp} {T : Int} : ∀ x ∈ l.take (ah l T), x.1 < T := by
  induction l with
  | nil => simp
  | cons y l ih =>
    by_cases hy : y.1 < T
    · have e : ah (y :: l) T = ah l T + 1 := by unfold ah; rw [List.takeWhile_cons, if_pos (by simpa using hy)]; rfl
      rw [e, List.take_succ_cons]
      intro x hx
      rcases List.mem_cons.1 hx with rfl | hx
      · exact hy
      · exact ih x hx
    · have e : ah (y :: l) T = 0 := by unfold ah; rw [List.takeWhile_cons, if_neg (by simpa using hy)]; rfl
      rw [e]
      intro x hx
      simp at hx
theorem ah_drop {l : List Smp} {T : Int} (hs : Srt l) : ∀ x ∈ l.drop (ah l T), T ≤ x.1 := by
  induction l with
  | nil => simp
  | cons y l ih =>
    have h2 := List.pairwise_cons.1 hs
    by_cases hy : y.1 < T
    · have e : ah (y :: l) T = ah l T + 1 := by unfold ah; rw [List.takeWhile_cons, if_pos (by simpa using hy)]; rfl
      rw [e, List.drop_succ_cons]
      exact ih h2.2
    · have e : ah (y :: l) T = 0 := by unfold ah; rw [List.takeWhile_cons, if_neg (by simpa using hy)]; rfl
      rw [e]
      intro x hx
      rcases List.mem_cons.1 hx with rfl | hx
      · omega
      · have := h2.1 x hx
        omega
/-- How many samples lie in a span. -/
def cntB (a b : Int) (l : List Smp) : Nat := (l.filter fun s => decide (a ≤ s.1) && decide (s.1 < b)).length
theorem cnt_app (a b : Int) (l m : List Smp) : cntB a b (l ++ m) = cntB a b l + cntB a b m := by unfold cntB; rw [List.filter_append, List.length_append]
theorem cnt_all {a b : Int} {l : List Smp} (h : ∀ x ∈ l, a ≤ x.1 ∧ x.1 < b) : cntB a b l = l.length := by
  unfold cntB
  rw [List.filter_eq_self.2]
  intro x hx
  have := h x hx
  simp [this.1, this.2]
theorem cnt_none {a b : Int} {l : List Smp} (h : ∀ x ∈ l, x.1 < a ∨ b ≤ x.1) : cntB a b l = 0 := by
  unfold cntB
  rw [List.filter_eq_nil_iff.2]
  · rfl
  intro x hx
  have := h x hx
  simp
  omega
/-- Cells that cover. -/
structure Cv (a b st t : Int) (acc : List Smp) : Prop where
  all : ∀ x ∈ acc, 1 ≤ x.2 ∧ a ≤ x.1 ∧ x.1 < b ∧ (x.1 - a) % st = 0 ∧ x.1 < t
  up : acc.Pairwise fun x y => x.1 < y.1
theorem Cv.more {a b st t u : Int} {acc : List Smp} (h : Cv a b st t acc) (hu : t ≤ u) : Cv a b st u acc :=
  ⟨fun x hx => by obtain ⟨h1, h2, h3, h4, h5⟩ := h.all x hx; exact ⟨h1, h2, h3, h4, by omega⟩, h.up⟩
theorem fold2 {l : List Smp} (h0 : 0 < l.length) (h1 : l.length ≤ 65536) : foldB 2 l = ((l.length : Int), true, 0) := by
  have hb : ¬ badB 2 l = true := by unfold badB; simp; omega
  have hn : ¬ l = [] := by rintro rfl; simp at h0
  unfold foldB
  rw [if_neg hb, if_neg hn]
  rfl
theorem step_mod {a t st : Int} (h : (t - a) % st = 0) : (t + st - a) % st = 0 := by
  rw [show t + st - a = (t - a) + st by omega, Int.add_emod_right]
  exact h
theorem sumI_one (acc : List Smp) (x : Smp) : sumI (acc ++ [x]) = sumI acc + x.2 := by rw [sumI_app]; simp [sumI]
theorem winGo_cov {a b st : Int} (hst : 1 ≤ st) : ∀ (fuel : Nat) (t : Int) (l acc : List Smp), (b - t).toNat ≤ fuel → a ≤ t → t ≤ b → ((t - a) % st = 0 ∨ t = b) → (∀ x ∈ l, t ≤ x.1) → Srt l → l.length ≤ 65536 → Cv a b st t acc →
    ∃ acc', winGo 2 b st fuel t l acc = (0, acc') ∧ Cv a b st b acc' ∧ sumI acc' = sumI acc + (cntB a b l : Nat)
  | 0, t, l, acc, hf, ha, hb, _, hl, _, _, hC => by
    have : t = b := by omega
    subst this
    exact ⟨acc, rfl, hC, by rw [cnt_none fun x hx => .inr (hl x hx)]; simp⟩
  | fuel + 1, t, l, acc, hf, ha, hb, hm, hl, hs, hn, hC => by
    unfold winGo
    by_cases htb : t < b
    · rw [if_pos htb]
      by_cases h0 : l = []
      · rw [if_pos h0]
        exact ⟨acc, rfl, hC.more hb, by subst h0; simp [cntB]⟩
      rw [if_neg h0]
      obtain ⟨m, hmm⟩ : ∃ m, min st (b - t) = m := ⟨_, rfl⟩
      rw [hmm]
      have hm0 : (t - a) % st = 0 := by rcases hm with h | h <;> omega
      have hm2 : (t + m - a) % st = 0 ∨ t + m = b := by
        by_cases h : st ≤ b - t
        · obtain rfl : m = st := by omega
          exact .inl (step_mod hm0)
        · right; omega
      have hd := ah_drop (T := t + m) hs
      have htk := @ah_take l (t + m)
      have hle := ah_le l (t + m)
      have hsplit := List.take_append_drop (ah l (t + m)) l
      by_cases hq : ah l (t + m) = 0
      · rw [if_pos hq]
        rw [hq, List.drop_zero] at hd
        exact winGo_cov hst fuel (t + m) l acc (by omega) (by omega) (by omega) hm2 hd hs hn (hC.more (by omega))
      · rw [if_neg hq]
        have htl : (l.take (ah l (t + m))).length = ah l (t + m) := by rw [List.length_take]; omega
        have hf2 := fold2 (l := l.take (ah l (t + m))) (by omega) (by omega)
        have hc1 : cntB a b (l.take (ah l (t + m))) = ah l (t + m) := by
          rw [cnt_all, htl]
          intro x hx
          have h1 := hl x (List.mem_of_mem_take hx)
          have h2 := htk x hx
          omega
        have hcl : cntB a b l = ah l (t + m) + cntB a b (l.drop (ah l (t + m))) := by
          have h := congrArg (cntB a b) hsplit
          rw [cnt_app, hc1] at h
          exact h.symm
        rw [hf2]
        simp only [if_true]
        rw [htl]
        have hC' : Cv a b st (t + m) (acc ++ [(t, ((ah l (t + m) : Nat) : Int))]) := by
          refine ⟨fun x hx => ?_, ?_⟩
          · rcases List.mem_append.1 hx with hx | hx
            · obtain ⟨h1, h2, h3, h4, h5⟩ := hC.all x hx
              exact ⟨h1, h2, h3, h4, by omega⟩
            · simp at hx
              subst hx
              exact ⟨by simp; omega, ha, htb, hm0, by simp; omega⟩
          · rw [List.pairwise_append]
            refine ⟨hC.up, by simp, fun x hx y hy => ?_⟩
            simp at hy
            subst hy
            exact (hC.all x hx).2.2.2.2
        obtain ⟨acc', e1, e2, e3⟩ := winGo_cov hst fuel (t + m) (l.drop (ah l (t + m))) _ (by omega) (by omega) (by omega) hm2 hd (hs.sublist (List.drop_sublist _ _)) (by rw [List.length_drop]; omega) hC'
        refine ⟨acc', e1, e2, ?_⟩
        rw [e3, sumI_one, hcl]
        simp
        omega
    · rw [if_neg htb]
      have : t = b := by omega
      subst this
      exact ⟨acc, rfl, hC, by rw [cnt_none fun x hx => .inr (hl x hx)]; simp⟩
/-- What Windows tells by Count, of samples whose times don't fall. -/
theorem windows_cov {l : List Smp} {a b st : Int} (hs : Srt l) (hl : l.length ≤ 300) (h0 : (windowsB 2 l a b st).1 = 0) : Cv a b st b (windowsB 2 l a b st).2 ∧ sumI (windowsB 2 l a b st).2 = (cntB a b l : Nat) ∧ 1 ≤ st ∧ 0 ≤ a ∧ a ≤ b ∧ b ≤ 4611686018427387904 := by
  unfold windowsB at h0 ⊢
  by_cases h1 : (!okB 2 l.length || !spanB a b || decide (st < 1)) = true
  · rw [if_pos h1] at h0
    exact absurd h0 (by decide)
  · rw [if_neg h1] at h0 ⊢
    by_cases h2 : longB a b st = true
    · rw [if_pos h2] at h0
      exact absurd h0 (by decide)
    · rw [if_neg h2] at h0 ⊢
      simp only [Bool.or_eq_true, Bool.not_eq_true', decide_eq_true_eq, not_or] at h1
      obtain ⟨⟨_, h4⟩, h5⟩ := h1
      have h4 : spanB a b = true := by simpa using h4
      unfold spanB at h4
      simp at h4
      obtain ⟨acc', e1, e2, e3⟩ := winGo_cov (a := a) (b := b) (st := st) (by omega) (b - a).toNat a (l.drop (ah l a)) [] (Nat.le_refl _) (Int.le_refl _) (by omega) (.inl (by simp)) (ah_drop hs) (hs.sublist (List.drop_sublist _ _)) (by rw [List.length_drop]; omega) ⟨by simp, by simp⟩
      rw [e1]
      refine ⟨e2, ?_, by omega, by omega, by omega, by omega⟩
      rw [e3]
      have h6 : cntB a b l = cntB a b (l.take (ah l a)) + cntB a b (l.drop (ah l a)) := by rw [← cnt_app, List.take_append_drop]
      rw [h6, cnt_none fun x hx => .inl (ah_take x hx)]
      simp [sumI]
theorem windows_err {l : List Smp} {op a b st : Int} (h0 : (windowsB op l a b st).1 ≠ 0) : (windowsB op l a b st).2 = [] := by
  have go : ∀ (fuel : Nat) (t : Int) (l acc : List Smp), (winGo op b st fuel t l acc).1 ≠ 0 → (winGo op b st fuel t l acc).2 = [] := by
    intro fuel
    induction fuel with
    | zero => intro t l acc h; exact absurd rfl h
    | succ f ih =>
      intro t l acc h
      unfold winGo at h ⊢
      split at h <;> rename_i g1
      · rw [if_pos g1]
        split at h <;> rename_i g2
        · exact absurd rfl h
        · rw [if_neg g2]
          split at h <;> rename_i g3
          · rw [if_pos g3]; exact ih _ _ _ h
          · rw [if_neg g3]
            split at h <;> rename_i g4
            · rw [if_pos g4]; exact ih _ _ _ h
            · rw [if_neg g4]
      · exact absurd rfl h
  unfold windowsB at h0 ⊢
  split at h0 <;> rename_i g1
  · rw [if_pos g1]
  · rw [if_neg g1]
    split at h0 <;> rename_i g2
    · rw [if_pos g2]
    · rw [if_neg g2]
      exact go _ _ _ _ h0
end Go.Proofs.YtcmpenmaphmifaaGreatDoor
namespace Go.Proofs.YtcmpenmaphmifaaGreatDoor
open Go.RowKit

/-- Does a sample lie in the k-th window? -/
def inB (a b st k : Int) (s : Smp) : Bool := decide (a ≤ s.1) && decide (s.1 < b) && decide ((s.1 - a) / st = k)
def inK (a b st k : Int) (l : List Smp) : List Smp := l.filter (inB a b st k)
def rGo (op a b st : Int) (l : List Smp) : Nat → Int → List Smp → Int × List Smp
  | 0, _, acc => (0, acc)
  | fuel + 1, k, acc =>
    if inK a b st k l = [] then rGo op a b st l fuel (k + 1) acc
    else if (foldB op (inK a b st k l)).2.2 = 0 then rGo op a b st l fuel (k + 1) (acc ++ [(a + k * st, (foldB op (inK a b st k l)).1)])
    else ((foldB op (inK a b st k l)).2.2, [])
def manyI (a b st : Int) : Int := (b - a - 1) / st + 1
theorem many_is {a b st : Int} (hs : 1 ≤ st) : (b - a) / st + (if (b - a) % st = 0 then 0 else 1) = manyI a b st := by
  unfold manyI
  obtain ⟨d, hd⟩ : ∃ d, d = b - a := ⟨_, rfl⟩
  rw [← hd]
  have h1 := Int.mul_ediv_add_emod d st
  have h2 := Int.emod_nonneg d (show st ≠ 0 by omega)
  have h3 := Int.emod_lt_of_pos d (show 0 < st by omega)
  generalize d / st = q at *
  generalize d % st = r at *
  by_cases hr : r = 0
  · rw [if_pos hr]
    have h4 : (d - 1) / st = q - 1 ∧ (d - 1) % st = st - 1 := (Int.ediv_emod_unique (by omega)).2 ⟨by rw [Int.mul_sub]; omega, by omega, by omega⟩
    omega
  · rw [if_neg hr]
    have h4 : (d - 1) / st = q ∧ (d - 1) % st = r - 1 := (Int.ediv_emod_unique (by omega)).2 ⟨by omega, by omega, by omega⟩
    omega
theorem many_lt {a b st k : Int} (hs : 1 ≤ st) : k < manyI a b st ↔ a + k * st < b := by
  unfold manyI
  have h := Int.le_ediv_iff_mul_le (a := k) (b := b - a - 1) (c := st) (by omega)
  omega
theorem many_ge {a b st : Int} (h : a ≤ b) (hs : 1 ≤ st) : 0 ≤ manyI a b st := by
  have h1 := many_lt (a := a) (b := b) (k := -1) hs
  omega
theorem div_is {x st k : Int} (hs : 1 ≤ st) : x / st = k ↔ k * st ≤ x ∧ x < k * st + st := by
  have h1 := Int.le_ediv_iff_mul_le (a := k) (b := x) (c := st) (by omega)
  have h2 := Int.ediv_lt_iff_lt_mul (a := x) (b := k + 1) (c := st) (by omega)
  rw [Int.add_mul, Int.one_mul] at h2
  omega
theorem take_filter {l : List Smp} {T : Int} (hs : Srt l) : l.take (ah l T) = l.filter fun s => decide (s.1 < T) := by
  induction l with
  | nil => rfl
  | cons y l ih =>
    have h2 := List.pairwise_cons.1 hs
    by_cases hy : y.1 < T
    · have e : ah (y :: l) T = ah l T + 1 := by unfold ah; rw [List.takeWhile_cons, if_pos (by simpa using hy)]; rfl
      rw [e, List.take_succ_cons, ih h2.2, List.filter_cons, if_pos (by simpa using hy)]
    · have e : ah (y :: l) T = 0 := by unfold ah; rw [List.takeWhile_cons, if_neg (by simpa using hy)]; rfl
      rw [e, List.filter_cons, if_neg (by simpa using hy), List.take_zero, eq_comm, List.filter_eq_nil_iff]
      intro x hx
      have := h2.1 x hx
      simp
      omega
theorem drop_filter {l : List Smp} {T : Int} (hs : Srt l) : l.drop (ah l T) = l.filter fun s => decide (T ≤ s.1) := by
  induction l with
  | nil => rfl
  | cons y l ih =>
    have h2 := List.pairwise_cons.1 hs
    by_cases hy : y.1 < T
    · have e : ah (y :: l) T = ah l T + 1 := by unfold ah; rw [List.takeWhile_cons, if_pos (by simpa using hy)]; rfl
      rw [e, List.drop_succ_cons, ih h2.2, List.filter_cons, if_neg (by simp; omega)]
    · have e : ah (y :: l) T = 0 := by unfold ah; rw [List.takeWhile_cons, if_neg (by simpa using hy)]; rfl
      rw [e, List.drop_zero, eq_comm, List.filter_eq_self]
      intro x hx
      rcases List.mem_cons.1 hx with rfl | hx
      · simp; omega
      · have := h2.1 x hx
        simp
        omega
theorem rGo_nil {op a b st : Int} {l : List Smp} : ∀ (fuel : Nat) (k : Int) (acc : List Smp), (∀ j, k ≤ j → inK a b st j l = []) → rGo op a b st l fuel k acc = (0, acc)
  | 0, _, _, _ => rfl
  | fuel + 1, k, acc, h => by
    unfold rGo
    rw [if_pos (h k (Int.le_refl _))]
    exact rGo_nil fuel (k + 1) acc fun j hj => h j (by omega)
theorem go_same {op a b st : Int} {l : List Smp} (hs : 1 ≤ st) (hsrt : Srt l) : ∀ (r f : Nat) (k t : Int) (acc : List Smp), 0 ≤ k → manyI a b st = k + r → (b - t).toNat ≤ f → (r = 0 → t = b) → (0 < r → t = a + k * st) →
    winGo op b st f t (l.filter fun s => decide (t ≤ s.1)) acc = rGo op a b st l r k acc
  | 0, f, k, t, acc, _, _, hf, h0, _ => by
    obtain rfl := h0 rfl
    cases f with
    | zero => rfl
    | succ f => unfold winGo; rw [if_neg (Int.lt_irrefl _)]; rfl
  | r + 1, f, k, t, acc, hk, hm, hf, _, h1 => by
    have ht := h1 (by omega)
    have htb : t < b := by rw [ht]; exact (many_lt hs).1 (by omega)
    obtain ⟨f, rfl⟩ : ∃ g, f = g + 1 := ⟨f - 1, by omega⟩
    obtain ⟨m, hmm⟩ : ∃ m, min st (b - t) = m := ⟨_, rfl⟩
    have hta : a ≤ t := by
      have := Int.mul_nonneg hk (show 0 ≤ st by omega)
      omega
    obtain ⟨ks, hks⟩ : ∃ ks, ks = k * st := ⟨_, rfl⟩
    rw [← hks] at ht
    have hnext : (r = 0 → t + m = b) ∧ (0 < r → t + m = a + (k + 1) * st) := by
      have h2 := many_lt (a := a) (b := b) (k := k + 1) hs
      rw [Int.add_mul, Int.one_mul, ← hks] at h2 ⊢
      constructor
      · intro h; omega
      · intro h; omega
    have hfs : (l.filter fun s => decide (t ≤ s.1)).Pairwise fun x y => x.1 ≤ y.1 := hsrt.sublist List.filter_sublist
    have e1 : (l.filter fun s => decide (t ≤ s.1)).take (ah (l.filter fun s => decide (t ≤ s.1)) (t + m)) = inK a b st k l := by
      rw [take_filter hfs, List.filter_filter]
      unfold inK
      refine List.filter_congr fun x _ => ?_
      unfold inB
      have h3 := div_is (x := x.1 - a) (k := k) hs
      rw [← hks] at h3
      by_cases g1 : t ≤ x.1 <;> by_cases g2 : x.1 < t + m
      all_goals
        rw [Bool.eq_iff_iff]
        simp only [Bool.and_eq_true, decide_eq_true_eq]
        omega
    have e2 : (l.filter fun s => decide (t ≤ s.1)).drop (ah (l.filter fun s => decide (t ≤ s.1)) (t + m)) = l.filter fun s => decide (t + m ≤ s.1) := by
      rw [drop_filter hfs, List.filter_filter]
      refine List.filter_congr fun x _ => ?_
      rw [Bool.eq_iff_iff]
      simp only [Bool.and_eq_true, decide_eq_true_eq]
      omega
    have e3 : (l.filter fun s => decide (t ≤ s.1)).length = ah (l.filter fun s => decide (t ≤ s.1)) (t + m) + (l.filter fun s => decide (t + m ≤ s.1)).length := by
      rw [← e2, List.length_drop]
      have := ah_le (l.filter fun s => decide (t ≤ s.1)) (t + m)
      omega
    have e4 : (inK a b st k l).length = ah (l.filter fun s => decide (t ≤ s.1)) (t + m) := by
      rw [← e1, List.length_take]
      have := ah_le (l.filter fun s => decide (t ≤ s.1)) (t + m)
      omega
    unfold winGo
    rw [if_pos htb, hmm]
    by_cases hnil : (l.filter fun s => decide (t ≤ s.1)) = []
    · rw [if_pos hnil, rGo_nil]
      intro j hj
      unfold inK
      rw [List.filter_eq_nil_iff]
      intro x hx hin
      unfold inB at hin
      simp only [Bool.and_eq_true, decide_eq_true_eq] at hin
      have h3 := (div_is (x := x.1 - a) (k := j) hs).1 hin.2
      have h4 := Int.mul_le_mul_of_nonneg_right hj (show 0 ≤ st by omega)
      have h5 := List.filter_eq_nil_iff.1 hnil x hx
      simp at h5
      omega
    · rw [if_neg hnil, e1, e2]
      unfold rGo
      have ih := fun acc => go_same hs hsrt (op := op) (a := a) r f (k + 1) (t + m) acc (by omega) (by omega) (by omega) hnext.1 hnext.2
      by_cases hq : ah (l.filter fun s => decide (t ≤ s.1)) (t + m) = 0
      · rw [if_pos hq]
        have hin : inK a b st k l = [] := List.eq_nil_of_length_eq_zero (by rw [e4, hq])
        rw [if_pos hin]
        have : (l.filter fun s => decide (t ≤ s.1)) = l.filter fun s => decide (t + m ≤ s.1) := by rw [← e2, hq, List.drop_zero]
        rw [this]
        exact ih acc
      · rw [if_neg hq]
        have hin : ¬ inK a b st k l = [] := by
          intro h
          rw [h] at e4
          exact hq e4.symm
        rw [if_neg hin, ih, ht, hks]
/-- What the document's Windows tells. -/
def rwinB (op : Int) (l : List Smp) (a b st : Int) : Int × List Smp :=
  if (!okB op l.length || !spanB a b || decide (st < 1)) = true then (1, [])
  else if 1024 < manyI a b st then (8, [])
  else rGo op a b st l (manyI a b st).toNat 0 []
theorem long_is {a b st : Int} (h : a ≤ b) (hs : 1 ≤ st) : longB a b st = decide (1024 < manyI a b st) := by
  unfold longB manyI
  rw [decide_eq_decide]
  by_cases h0 : a = b
  · subst h0
    have h1 : (a - a - 1) / st = -1 := by
      have := (div_is (x := a - a - 1) (k := -1) hs).2 (by omega)
      exact this
    have h2 : ¬ 1024 ≤ (a - a - 1).tdiv st := by
      have e : a - a - 1 = -1 := by omega
      rw [e, Int.neg_tdiv, Int.tdiv_eq_ediv_of_nonneg (by decide)]
      have := Int.ediv_nonneg (show (0 : Int) ≤ 1 by decide) (show 0 ≤ st by omega)
      omega
    omega
  · rw [Int.tdiv_eq_ediv_of_nonneg (by omega)]
    omega
theorem windows_same {op : Int} {l : List Smp} {a b st : Int} (hsrt : Srt l) : windowsB op l a b st = rwinB op l a b st := by
  unfold windowsB rwinB
  by_cases h1 : (!okB op l.length || !spanB a b || decide (st < 1)) = true
  · rw [if_pos h1, if_pos h1]
  · rw [if_neg h1, if_neg h1]
    simp only [Bool.or_eq_true, Bool.not_eq_true', decide_eq_true_eq, not_or] at h1
    obtain ⟨⟨_, h4⟩, h5⟩ := h1
    have h4 : spanB a b = true := by simpa using h4
    unfold spanB at h4
    simp at h4
    have hab : a ≤ b := by omega
    rw [long_is hab (by omega)]
    by_cases h2 : 1024 < manyI a b st
    · rw [if_pos (decide_eq_true h2), if_pos h2]
    · rw [if_neg (by rw [decide_eq_false h2]; decide), if_neg h2, drop_filter hsrt]
      have hg := many_ge hab (show 1 ≤ st by omega)
      have hz := many_lt (a := a) (b := b) (k := 0) (show 1 ≤ st by omega)
      exact go_same (by omega) hsrt _ _ 0 a [] (Int.le_refl _) (by omega) (Nat.le_refl _) (fun h => by omega) (fun _ => by omega)
end Go.Proofs.YtcmpenmaphmifaaGreatDoor
namespace Go.Proofs.YtcmpenmaphmifaaGreatDoor
open Go.RowKit

theorem cellO {X : World} {p q : Addr} {u v : Value} (hne : p ≠ q) (h : X.cell? q = some v) : (X.setCell p u).cell? q = some v := by
  rw [World.cell?_setCell_other]
  · exact h
  · exact hne
def upd (f : Nat → Int) (i : Nat) (x : Int) : Nat → Int := fun j => if j = i then x else f j
/-- Eight digits in a box. -/
structure Ds (w : World) (D : Nat) (f : Nat → Int) : Prop where
  c : ∀ i, i < 8 → w.cell? ⟨D, i, none⟩ = some (.int .i64 (f i))
  fz : ∀ i, w.frozen? ⟨D, i, none⟩ = false
theorem Ds.put {w : World} {D : Nat} {f : Nat → Int} (h : Ds w D f) (i : Nat) (x : Int) : Ds (w.setCell ⟨D, i, none⟩ (.int .i64 x)) D (upd f i x) := by
  refine ⟨fun j hj => ?_, fun j => by simp [go_sem, h.fz]⟩
  by_cases e : j = i
  · subst e
    simp [go_sem, h.c j hj, upd]
  · rw [cellO (by intro he; injection he with _ he; exact e he.symm) (h.c j hj)]
    simp [upd, e]
def dv (f : Nat → Int) : Int := f 0 + f 1 * 65536 + f 2 * 4294967296 + f 3 * 281474976710656 + f 4 * 18446744073709551616 + f 5 * 1208925819614629174706176 + f 6 * 79228162514264337593543950336 + f 7 * 5192296858534827628530496329220096
def pw : Nat → Int
  | 0 => 1
  | 1 => 65536
  | 2 => 4294967296
  | 3 => 281474976710656
  | _ => 18446744073709551616
/-- The digits while one number is added (s = 1) or taken away (s = -1). -/
structure In (s T B : Int) (k : Nat) (v : Int) (f : Nat → Int) : Prop where
  v0 : 0 ≤ v
  vb : v * pw k < 18446744073709551616
  val : dv f + s * (v * pw k) = T
  lo : ∀ i, i < 4 → -(B + 65535) ≤ f i ∧ f i ≤ B + 65535
  un : ∀ i, k ≤ i → i < 4 → -B ≤ f i ∧ f i ≤ B
  hi : ∀ i, 4 ≤ i → f i = 0
theorem upd_at (f : Nat → Int) (i : Nat) (x : Int) : upd f i x i = x := by simp [upd]
theorem upd_ne (f : Nat → Int) {i j : Nat} (x : Int) (h : j ≠ i) : upd f i x j = f j := by simp [upd, h]
theorem In.step {s T B : Int} {k : Nat} {v : Int} {f : Nat → Int} (hs : s = 1 ∨ s = -1) (h : In s T B k v f) (hk : k < 4) : In s T B (k + 1) (v / 65536) (upd f k (f k + s * (v % 65536))) := by
  obtain ⟨v0, vb, val, lo, un, hi⟩ := h
  have hk' := un k (Nat.le_refl _) hk
  have hm : 0 ≤ v % 65536 ∧ v % 65536 ≤ 65535 := by omega
  have hf : -(B + 65535) ≤ f k + s * (v % 65536) ∧ f k + s * (v % 65536) ≤ B + 65535 := by rcases hs with rfl | rfl <;> omega
  refine ⟨by omega, ?_, ?_, fun i hi4 => ?_, fun i h1 h2 => ?_, fun i h4 => ?_⟩
  · obtain rfl | rfl | rfl | rfl : k = 0 ∨ k = 1 ∨ k = 2 ∨ k = 3 := by omega
    all_goals simp only [pw] at vb ⊢; omega
  · obtain rfl | rfl | rfl | rfl : k = 0 ∨ k = 1 ∨ k = 2 ∨ k = 3 := by omega
    all_goals
      simp only [pw, dv] at val ⊢
      rw [upd_at]
      repeat rw [upd_ne _ _ (by decide)]
      rcases hs with rfl | rfl <;> omega
  · by_cases e : i = k
    · subst e; rw [upd_at]; exact hf
    · rw [upd_ne _ _ e]; exact lo i hi4
  · rw [upd_ne _ _ (by omega)]; exact un i (by omega) h2
  · rw [upd_ne _ _ (by omega)]; exact hi i h4
/-- The digits between two numbers. -/
structure Ou (T B : Int) (f : Nat → Int) : Prop where
  val : dv f = T
  lo : ∀ i, i < 4 → -B ≤ f i ∧ f i ≤ B
  hi : ∀ i, 4 ≤ i → f i = 0
theorem Ou.start {s T B v : Int} {f : Nat → Int} (h : Ou T B f) (h0 : 0 ≤ v) (h1 : v < 18446744073709551616) : In s (T + s * v) B 0 v f :=
  ⟨h0, by simpa [pw] using h1, by rw [h.val]; simp [pw], fun i hi => by have := h.lo i hi; omega, fun i _ hi => h.lo i hi, h.hi⟩
theorem In.stop {s T B v : Int} {f : Nat → Int} (h : In s T B 4 v f) : Ou T (B + 65535) f := by
  obtain ⟨v0, vb, val, lo, un, hi⟩ := h
  simp only [pw] at vb val
  obtain rfl : v = 0 := by omega
  exact ⟨by simpa using val, lo, hi⟩
/-- The digits while carries go up. -/
structure Cy (V : Int) (k : Nat) (f : Nat → Int) : Prop where
  val : dv f = V
  dn : ∀ i, i < k → 0 ≤ f i ∧ f i ≤ 65535
  at_ : -2199023255552 ≤ f k ∧ f k ≤ 2199023255552
  up : ∀ i, k < i → i < 8 → -1099511627776 ≤ f i ∧ f i ≤ 1099511627776
theorem Cy.step {V : Int} {k : Nat} {f : Nat → Int} (h : Cy V k f) (hk : k < 7) : Cy V (k + 1) (upd (upd f k (f k - f k / 65536 * 65536)) (k + 1) (f (k + 1) + f k / 65536)) := by
  obtain ⟨val, dn, hat, up⟩ := h
  have hu := up (k + 1) (by omega) (by omega)
  refine ⟨?_, fun i hi => ?_, ?_, fun i h1 h2 => ?_⟩
  · obtain rfl | rfl | rfl | rfl | rfl | rfl | rfl : k = 0 ∨ k = 1 ∨ k = 2 ∨ k = 3 ∨ k = 4 ∨ k = 5 ∨ k = 6 := by omega
    all_goals
      simp only [dv] at val ⊢
      simp only [upd]
      simp
      omega
  · rw [upd_ne _ _ (by omega)]
    by_cases e : i = k
    · subst e; rw [upd_at]; omega
    · rw [upd_ne _ _ e]; exact dn i (by omega)
  · rw [upd_at]; omega
  · rw [upd_ne _ _ (by omega), upd_ne _ _ (by omega)]; exact up i (by omega) h2
theorem floor_neg {x : Int} (h : x.tmod 65536 < 0) : x.tdiv 65536 - 1 = x / 65536 := by
  have h1 := Int.mul_tdiv_add_tmod x 65536
  have h2 := Int.tmod_lt_of_pos x (show (0 : Int) < 65536 by decide)
  have h3 : -65536 < x.tmod 65536 := by
    have := Int.lt_tmod_of_pos x (show (0 : Int) < 65536 by decide)
    omega
  omega
theorem floor_pos {x : Int} (h : ¬ x.tmod 65536 < 0) : x.tdiv 65536 = x / 65536 := by
  have h1 := Int.mul_tdiv_add_tmod x 65536
  have h2 := Int.tmod_lt_of_pos x (show (0 : Int) < 65536 by decide)
  omega
/-- The four lower digits as a number. -/
def top (f : Nat → Int) : Nat → Int
  | 0 => ((f 3 * 65536 + f 2) * 65536 + f 1) * 65536 + f 0
  | 1 => (f 3 * 65536 + f 2) * 65536 + f 1
  | 2 => f 3 * 65536 + f 2
  | 3 => f 3
  | _ => 0
theorem Cy.fits {V : Int} {f : Nat → Int} (h : Cy V 7 f) : (f 4 = 0 ∧ f 5 = 0 ∧ f 6 = 0 ∧ f 7 = 0 → 0 ≤ V ∧ V < 18446744073709551616 ∧ top f 0 = V) ∧ (0 ≤ V ∧ V < 18446744073709551616 → f 4 = 0 ∧ f 5 = 0 ∧ f 6 = 0 ∧ f 7 = 0) := by
  obtain ⟨val, dn, hat, up⟩ := h
  have d0 := dn 0 (by omega)
  have d1 := dn 1 (by omega)
  have d2 := dn 2 (by omega)
  have d3 := dn 3 (by omega)
  have d4 := dn 4 (by omega)
  have d5 := dn 5 (by omega)
  have d6 := dn 6 (by omega)
  simp only [dv] at val
  constructor
  · rintro ⟨e4, e5, e6, e7⟩
    rw [e4, e5, e6, e7] at val
    simp only [top]
    omega
  · intro hV
    omega
def sumZ : List Int → Int
  | [] => 0
  | x :: r => x + sumZ r
theorem sumZ_app (a b : List Int) : sumZ (a ++ b) = sumZ a + sumZ b := by
  induction a with
  | nil => simp [sumZ]
  | cons x a ih => simp only [List.cons_append, sumZ, ih]; omega
theorem sumZ_next {l : List Int} {k : Nat} (h : k < l.length) : sumZ (l.take (k + 1)) = sumZ (l.take k) + l[k] := by
  rw [List.take_succ_eq_append_getElem h, sumZ_app]
  simp [sumZ]
end Go.Proofs.YtcmpenmaphmifaaGreatDoor
