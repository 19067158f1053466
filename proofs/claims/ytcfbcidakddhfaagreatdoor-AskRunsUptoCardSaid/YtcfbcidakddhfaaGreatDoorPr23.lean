/- The law's awake: the document's example of rules. -/
import Derived.Test.YtcfbcidakddhfaaGreatDoorPr21
import Derived.Deep.CutBlock
import Derived.Test.YtcfbcidakddhfaaGreatDoorPr20
import Derived.Test.YtcfbcidakddhfaaGreatDoorPr3
import Derived.Lib.AtoiErrMem
namespace Go.Proofs.YtcfbcidakddhfaaGreatDoor
open Go.RowKit Go.BigFrame

theorem info_tc : (Tryz.prog.info? 121).map (fun i => (i.zero, i.size, i.bytes)) = some (some (.agg #[.int .i64 0, .int .i64 0]), 2, 16) := by kernel_rfl
/-- What is told window by window, from a time on. -/
def winGo (op to_ step : Int) : Nat → Int → List Smp → List Smp → Int × List Smp
  | 0, _, _, acc => (0, acc)
  | fuel + 1, b, l, acc =>
    if b < to_ then
      if l = [] then (0, acc)
      else if ah l (b + min step (to_ - b)) = 0 then winGo op to_ step fuel (b + min step (to_ - b)) l acc
      else if (foldB op (l.take (ah l (b + min step (to_ - b))))).2.2 = 0 then
        winGo op to_ step fuel (b + min step (to_ - b)) (l.drop (ah l (b + min step (to_ - b)))) (acc ++ [(b, (foldB op (l.take (ah l (b + min step (to_ - b))))).1)])
      else ((foldB op (l.take (ah l (b + min step (to_ - b))))).2.2, [])
    else (0, acc)
def windowsB (op : Int) (l : List Smp) (from_ to_ step : Int) : Int × List Smp :=
  if (!okB op l.length || !spanB from_ to_ || decide (step < 1)) = true then (1, [])
  else if longB from_ to_ step = true then (8, [])
  else winGo op to_ step (to_ - from_).toNat from_ (l.drop (ah l from_)) []
def WinP (w : World) (p : Int × List Smp) (e : Ending) (w' : World) : Prop :=
  ∃ A c, e = .returned (.tuple #[.slice A p.2.length c, .int .i64 p.1]) ∧ So encSm 2 w' w.heap.size 121 (.slice A p.2.length c) p.2 ∧ Below w.heap.size w w'
theorem win_none (w : World) {w' : World} (x : Int) (h : Below w.heap.size w w') : WinP w (x, []) (.returned (.tuple #[.slice none 0 0, .int .i64 x])) w' := ⟨none, 0, rfl, So.empty _ _ _ _ _, h⟩
set_option maxRecDepth 100000 in
set_option maxHeartbeats 1600000 in
theorem windows_any (op : Int) (K : Nat) (A : Option Addr) (n cap : Nat) (l : List Smp) (a b st : Int) (w : World) (hln : l.length = n) (hp : Sr encSm 2 w K A cap l) (hK : K ≤ w.heap.size) (hok : ∀ x ∈ l, Sok x) (hs2 : st ≤ 9223372036854775807) :
    Calls Tryz.prog 49 #[.int .i64 op, .slice A n cap, .int .i64 a, .int .i64 b, .int .i64 st] w (WinP w (windowsB op l a b st)) := by
  subst hln
  have HR := Lib.hid (fun W => isRight_any op A l.length cap W)
  have HSp := Lib.hid (fun W => isSpan_any a b W)
  cases hb1 : okB op l.length with
  | false =>
    have e : windowsB op l a b st = (1, []) := if_pos (by rw [hb1]; rfl)
    rw [e]
    rw [hb1] at HR
    clear e hb1 hp hok
    go_enter Tryz.func49, Tryz.ntmps49
    go_wp2_with fail
    go_step3
    go_wp2_with (go_at_call 69; refine (HR.out _).mono ?_; rintro e w1 ⟨rfl, rfl⟩)
    (try rw [Exit.noGoto_ret])
    go_ret2
    exact win_none _ _ (Below.refl _ _)
  | true =>
    cases hb2 : spanB a b with
    | false =>
      have e : windowsB op l a b st = (1, []) := if_pos (by rw [hb1, hb2]; rfl)
      rw [e]
      rw [hb1] at HR
      rw [hb2] at HSp
      clear e hb1 hb2 hp hok
      go_enter Tryz.func49, Tryz.ntmps49
      go_wp2_with fail
      go_step3
      go_wp2_with (first
        | (go_at_call 69; refine (HR.out _).mono ?_; rintro e w1 ⟨rfl, rfl⟩)
        | (go_at_call 70; refine (HSp.out _).mono ?_; rintro e w1 ⟨rfl, rfl⟩))
      (try rw [Exit.noGoto_ret])
      go_ret2
      exact win_none _ _ (Below.refl _ _)
    | true =>
      by_cases hst : st < 1
      · have e : windowsB op l a b st = (1, []) := if_pos (by rw [hb1, hb2, decide_eq_true hst]; rfl)
        rw [e]
        rw [hb1] at HR
        rw [hb2] at HSp
        clear e hb1 hb2 hp hok
        go_enter Tryz.func49, Tryz.ntmps49
        go_wp2_with fail
        go_step3
        go_wp2_with (first
          | (go_at_call 69; refine (HR.out _).mono ?_; rintro e w1 ⟨rfl, rfl⟩)
          | (go_at_call 70; refine (HSp.out _).mono ?_; rintro e w1 ⟨rfl, rfl⟩))
        (try rw [Exit.noGoto_ret])
        go_ret2
        exact win_none _ _ (Below.refl _ _)
      have HL := Lib.hid (fun W => isLong_any a b st hb2 (by omega) hs2 W)
      cases hb3 : longB a b st with
      | true =>
        have e : windowsB op l a b st = (8, []) := by
          unfold windowsB
          rw [if_neg (by rw [hb1, hb2, decide_eq_false hst]; decide), if_pos hb3]
        rw [e]
        rw [hb1] at HR
        rw [hb2] at HSp
        rw [hb3] at HL
        clear e hb1 hb2 hb3 hp hok
        go_enter Tryz.func49, Tryz.ntmps49
        go_wp2_with fail
        go_step3
        go_wp2_with (first
          | (go_at_call 69; refine (HR.out _).mono ?_; rintro e w1 ⟨rfl, rfl⟩)
          | (go_at_call 70; refine (HSp.out _).mono ?_; rintro e w1 ⟨rfl, rfl⟩)
          | (go_at_call 71; refine (HL.out _).mono ?_; rintro e w1 ⟨rfl, rfl⟩))
        (try rw [Exit.noGoto_ret])
        go_ret2
        exact win_none _ _ (Below.refl _ _)
      | false =>
        have e : windowsB op l a b st = winGo op b st (b - a).toNat a (l.drop (ah l a)) [] := by
          unfold windowsB
          rw [if_neg (by rw [hb1, hb2, decide_eq_false hst]; decide), if_neg (by rw [hb3]; decide)]
        rw [e]
        have hsp := hb2
        unfold spanB at hsp
        simp at hsp
        have hlen : l.length ≤ 65536 := by
          unfold okB at hb1
          simp at hb1
          omega
        rw [hb1] at HR
        rw [hb2] at HSp
        rw [hb3] at HL
        have hle := hp.le
        have hmax := hp.max
        unfold maxLen at hmax
        have hq := ah_le l a
        have HP0 := Lib.hid hp
        have HOK := Lib.hid hok
        have HAh := Lib.hid (fun W (h : W = w) => ahead_any K A l.length cap l a W rfl (h ▸ hp) (h ▸ hK))
        have hsl := fun W => slice_fromK undS szS A l.length cap (ah l a) (by omega) W
        have HP1 := Lib.hid (hp.from hq)
        have hdl : (l.drop (ah l a)).length = l.length - ah l a := List.length_drop
        have HO1 : Hid (∀ x ∈ l.drop (ah l a), Sok x) := Lib.hid (fun x hx => hok x (List.mem_of_mem_drop hx))
        generalize ah l a = q at *
        generalize hl1 : l.drop q = l1 at *
        generalize (if cap = q then A else A.map (·.add (q * 2))) = A1 at *
        obtain ⟨res, hres⟩ : ∃ res, res = winGo op b st (b - a).toNat a l1 [] := ⟨_, rfl⟩
        have HRES := Lib.hid hres.symm
        rw [← hres]
        clear e hb1 hb2 hb3 hp hok hl1 hres
        go_enter Tryz.func49, Tryz.ntmps49
        go_wp2_with fail
        go_step3
        go_wp2_with (first
          | (go_at_call 69; refine (HR.out _).mono ?_; rintro e w1 ⟨rfl, rfl⟩)
          | (go_at_call 70; refine (HSp.out _).mono ?_; rintro e w1 ⟨rfl, rfl⟩)
          | (go_at_call 71; refine (HL.out _).mono ?_; rintro e w1 ⟨rfl, rfl⟩)
          | (go_at_call 72; refine (HAh.out _ rfl).mono ?_; rintro e w2 ⟨rfl, hb2⟩))
        go_step3
        go_wp2_with fail
        have HSa := Lib.hid ((HP1.out.below (hb2.mono hK)).more hK)
        have hn1 : l1.length ≤ 65536 := by omega
        have HB2 := Lib.hid hb2
        have hs1 : (1 : Int) ≤ st := by omega
        clear hb2 hsl HP0 HP1 HOK HAh HR HSp HL hst hle hmax
        go_loopw [1, 12, 13] (fun s1 s12 s13 wr => ∃ (A' : Option Addr) (n' c' : Nat) (B : Option Addr) (cc m' : Nat) (acc l' : List Smp) (t : Int) (fuel : Nat), s1 = .slice A' n' c' ∧ s12 = .slice B m' cc ∧ s13 = .int .i64 t ∧ l'.length = n' ∧ acc.length = m' ∧ Hid (winGo op b st fuel t l' acc = res) ∧ (b - t).toNat ≤ fuel ∧ a ≤ t ∧ t ≤ b ∧ Sr encSm 2 wr w1.heap.size A' c' l' ∧ So encSm 2 wr w1.heap.size 121 (.slice B m' cc) acc ∧ m' + n' ≤ 65536 ∧ Hid (∀ x ∈ l', Sok x) ∧ Below w1.heap.size w1 wr) (fun _ _ i _ => (b - intOf i).toNat)
        case atStart => exact ⟨A1, l.length - q, cap - q, none, 0, 0, [], l1, a, (b - a).toNat, rfl, rfl, rfl, hdl, rfl, Lib.hid HRES.out, Nat.le_refl _, Int.le_refl _, by omega, HSa.out, So.empty _ _ _ _ _, by omega, Lib.hid HO1.out, HB2.out⟩
        case round =>
          obtain ⟨A', n', c', B, cc, m', acc, l', t, fuel, rfl, rfl, rfl, hn', hm', HG, hf, ht0, ht1, hS, hC, hmn, HOK, hbl⟩ := hrel
          rename World => wr
          have z := hbl.size
          have HS := Lib.hid hS
          have HC := Lib.hid hC
          have HB := Lib.hid hbl
          have HN := Lib.hid hn'
          have HM := Lib.hid hm'
          have hle := hS.le
          have hmax := hS.max
          unfold maxLen at hmax
          rw [hn'] at hle
          clear HSa HB2 HRES HO1 hS hC hbl hn' hm' hdl hn1
          by_cases htb : t < b
          rotate_left
          · have HE : Hid (res = (0, acc)) := Lib.hid (by
              rw [← HG.out]
              cases fuel with
              | zero => rfl
              | succ f => unfold winGo; rw [if_neg htb])
            go_wp2_with fail
            (try rw [Exit.noGoto_ret])
            go_ret2
            rw [HE.out]
            exact ⟨B, cc, by rw [HM.out] <;> rfl, by rw [HM.out]; exact HC.out, HB.out⟩
          obtain ⟨f, rfl⟩ : ∃ f, fuel = f + 1 := ⟨fuel - 1, by omega⟩
          obtain ⟨m, hm⟩ : ∃ m, min st (b - t) = m := ⟨_, rfl⟩
          have hm1 : 1 ≤ m := by omega
          have hm2 : m ≤ b - t := by omega
          have ew1 : wrap64 (b - t) = b - t := by unfold wrap64; omega
          have ew2 : wrap64 (t + m) = t + m := by unfold wrap64; omega
          go_upto_region 10 with fail
          go_cut [14] (fun ev wx => ev = .int .i64 (t + m) ∧ wx = wr)
          case first =>
            rcases (show (st ≤ b - t ∧ m = st) ∨ (¬ st ≤ b - t ∧ m = b - t) by omega) with ⟨g1, rfl⟩ | ⟨g1, rfl⟩
            · go_wp2_with fail
              go_meet
              exact ⟨rfl, rfl⟩
            · go_wp2_with fail
              go_meet
              exact ⟨rfl, rfl⟩
          case rest =>
            obtain ⟨rfl, hwc⟩ := hcut
            subst hwc
            rename World => wr
            have HGG := HG.out
            unfold winGo at HGG
            rw [if_pos htb, hm] at HGG
            have hAh := fun W (h : W = wr) => ahead_any w1.heap.size A' n' c' l' (t + m) W HN.out (h ▸ HS.out) (h ▸ z)
            have hq := ah_le l' (t + m)
            rw [HN.out] at hq
            by_cases hn0 : n' = 0
            · subst hn0
              have el : l' = [] := List.eq_nil_of_length_eq_zero HN.out
              rw [if_pos el] at HGG
              have HE := Lib.hid HGG.symm
              have HAh := Lib.hid hAh
              clear HGG hAh HG el
              generalize ah l' (t + m) = q at *
              go_wp2_with (go_at_call 72; refine (HAh.out _ rfl).mono ?_; rintro e w3 ⟨rfl, hb3⟩)
              (try rw [Exit.noGoto_ret])
              go_ret2
              rw [HE.out]
              exact ⟨B, cc, by rw [HM.out] <;> rfl, by rw [HM.out]; exact (HC.out.below hb3), HB.out.trans (hb3.mono z)⟩
            have i0 : ((n' : Int) == 0) = false := beq_eq_false_iff_ne.2 (by omega)
            rw [if_neg (by rintro rfl; exact hn0 HN.out.symm)] at HGG
            by_cases hq0 : ah l' (t + m) = 0
            · rw [if_pos hq0] at HGG
              rw [hq0] at hAh
              have HAh := Lib.hid hAh
              have HGN := Lib.hid HGG
              clear HGG hAh HG hq0 hq
              go_wp2_with (go_at_call 72; refine (HAh.out _ rfl).mono ?_; rintro e w3 ⟨rfl, hb3⟩)
              go_roundw
              case rel => exact ⟨A', n', c', B, cc, m', acc, l', t + m, f, rfl, rfl, rfl, HN.out, HM.out, Lib.hid HGN.out, by omega, by omega, by omega, (HS.out.below (hb3.mono z)), HC.out.below hb3, hmn, Lib.hid HOK.out, HB.out.trans (hb3.mono z)⟩
              case measure => simp [intOf]; omega
            rw [if_neg hq0] at HGG
            have HT := Lib.hid (HS.out.to (j := ah l' (t + m)) (by rw [HN.out]; exact hq))
            have HD := Lib.hid (HS.out.from (j := ah l' (t + m)) (by rw [HN.out]; exact hq))
            have hdl2 : (l'.drop (ah l' (t + m))).length = n' - ah l' (t + m) := by rw [List.length_drop, HN.out]
            have htl : (l'.take (ah l' (t + m))).length = ah l' (t + m) := by rw [List.length_take, HN.out]; omega
            have HOD : Hid (∀ x ∈ l'.drop (ah l' (t + m)), Sok x) := Lib.hid (fun x hx => HOK.out x (List.mem_of_mem_drop hx))
            have hoT : ∀ x ∈ l'.take (ah l' (t + m)), Sok x := fun x hx => HOK.out x (List.mem_of_mem_take hx)
            have hF := fun W (h : Below wr.heap.size wr W) => fold_any op w1.heap.size A' (ah l' (t + m)) c' (l'.take (ah l' (t + m))) W htl (HT.out.below (h.mono z)) (Nat.le_trans z h.size) hoT
            have hs1' := fun W => slice_toK undS szS A' n' c' (ah l' (t + m)) (by omega) W
            have hs2' := fun W => slice_fromK undS szS A' n' c' (ah l' (t + m)) (by omega) W
            clear htl hoT HG
            generalize l'.drop (ah l' (t + m)) = ld at *
            generalize foldB op (l'.take (ah l' (t + m))) = p at *
            clear HT
            generalize ah l' (t + m) = q2 at *
            generalize (if c' = q2 then A' else A'.map (·.add (q2 * 2))) = A2 at *
            obtain ⟨p1, p2, p3⟩ := p
            simp only at HGG
            have i1 : ((q2 : Int) == 0) = false := beq_eq_false_iff_ne.2 (by omega)
            have i2 : ¬ q2 = 0 := hq0
            have HAh := Lib.hid hAh
            have HF := Lib.hid hF
            have HDL := Lib.hid hdl2
            by_cases hp3 : p3 = 0
            · subst hp3
              rw [if_pos rfl] at HGG
              have HGN := Lib.hid HGG
              clear HGG hAh hF hdl2 hq0
              go_wp2_with (first
                | (go_at_call 72; refine (HAh.out _ rfl).mono ?_; rintro e w3 ⟨rfl, hb3⟩)
                | (go_at_call 73; refine (HF.out _ hb3).mono ?_; rintro e w4 ⟨rfl, hb4⟩; have hb34 := hb3.trans (hb4.mono hb3.size); have hC4 := HC.out.below hb34; have z4 := hb34.size)
                | (at_builtin; refine wpList_pushE Tryz.underlying55 info_tc rfl (by decide) w4 rfl (.tmp 79) (.tmp 83) rfl w1.heap.size (.slice B m' cc) acc rfl hC4 (t, p1) _ rfl rfl (encSm_one _) _ w4.heap.size rfl rfl (m' + 1) (by rw [HM.out]) (by unfold maxLen; omega) (by omega) (by omega) ?_; intro A5 cap5 w5 hps5 hgrow5 hat5; have B5 : Below w1.heap.size w1 w5 := grown_belowT (HB.out.trans (hb34.mono z)) hgrow5 (by omega) (fun _ h => (hC4.lt _ h).1)))
              have B45 : Below w1.heap.size w4 w5 := grown_belowT (Below.refl _ _) hgrow5 (by omega) (fun _ h => (hC4.lt _ h).1)
              go_roundw
              case rel => exact ⟨A2, n' - q2, c' - q2, A5, cap5, m' + 1, _, ld, t + m, f, rfl, rfl, rfl, HDL.out, by rw [List.length_append, HM.out]; rfl, Lib.hid HGN.out, by omega, by omega, by omega, HD.out.below ((hb34.mono z).trans B45), hps5, by omega, Lib.hid HOD.out, B5⟩
              case measure => simp [intOf]; omega
            · have hp3' : (p3 == 0) = false := beq_eq_false_iff_ne.2 hp3
              have hp3'' : (p3 != 0) = true := bne_iff_ne.2 hp3
              rw [if_neg hp3] at HGG
              have HE := Lib.hid HGG.symm
              clear HGG hAh hF hdl2 hq0 hp3
              go_wp2_with (first
                | (go_at_call 72; refine (HAh.out _ rfl).mono ?_; rintro e w3 ⟨rfl, hb3⟩)
                | (go_at_call 73; refine (HF.out _ hb3).mono ?_; rintro e w4 ⟨rfl, hb4⟩))
              (try rw [Exit.noGoto_ret])
              go_ret2
              rw [HE.out]
              exact win_none _ _ (HB.out.trans ((hb3.trans (hb4.mono hb3.size)).mono z))
end Go.Proofs.YtcfbcidakddhfaaGreatDoor
namespace Go.Proofs.YtcfbcidakddhfaaGreatDoor
open Go.RowKit

/-- The two errors lie in their variables. -/
structure Errs (w : World) : Prop where
  s : ∃ te pe, w.cell? ⟨3, 0, none⟩ = some (.iface te pe)
  r : ∃ te pe, w.cell? ⟨4, 0, none⟩ = some (.iface te pe)
theorem Errs.below {w w' : World} (h : Errs w) (hb : Below w.heap.size w w') : Errs w' := by
  obtain ⟨⟨a, b, h1⟩, ⟨c, d, h2⟩⟩ := h
  exact ⟨⟨a, b, kept hb h1⟩, ⟨c, d, kept hb h2⟩⟩
def IntPost (w : World) (l : List UInt8) (e : Ending) (w' : World) : Prop :=
  Below w.heap.size w w' ∧ ((∃ v : Int, Lib.parseIntB 64 l = .ok v ∧ e = .returned (.tuple #[.int .i64 v, .nilIface])) ∨
    ((∀ v, Lib.parseIntB 64 l ≠ .ok v) ∧ ∃ (v : Int) (N : Nat), e = .returned (.tuple #[.int .i64 v, .iface 197 (.pointer (some ⟨N, 0, none⟩))])))
theorem parseInt_any (s : ByteArray) (w : World) (hs : s.size ≤ 281474976710656) (he : Errs w) :
    Calls Tryz.prog 83 #[.string s, .int .i64 10, .int .i64 64] w (IntPost w s.data.toList) := by
  obtain ⟨⟨te, pe, h1⟩, ⟨te', pe', h2⟩⟩ := he
  cases h : Lib.parseIntB 64 s.data.toList
  · rename_i v
    refine (Tryz.strconv_ParseInt_10_at64_ok s (by omega) v h w).mono fun e w' hh => ?_
    obtain ⟨rfl, hw⟩ := hh
    refine ⟨?_, .inl ⟨v, h, rfl⟩⟩
    rcases hw with rfl | ⟨t, rfl⟩
    · exact Below.refl _ _
    · exact Lib.bytesWorld_below _ _ _
  · refine (Tryz.strconv_ParseInt_10_at64_syntax s hs h _ w h1 (.inr ⟨te, pe, rfl⟩)).mono fun e w' hh => ?_
    obtain ⟨N, rfl, _, _, hb⟩ := hh
    exact ⟨hb, .inr ⟨(fun v hv => by rw [h] at hv; cases hv), _, N, rfl⟩⟩
  · refine (Tryz.strconv_ParseInt_10_at64_range s hs h _ w h2 (.inr ⟨te', pe', rfl⟩)).mono fun e w' hh => ?_
    obtain ⟨N, rfl, _, _, hb⟩ := hh
    exact ⟨hb, .inr ⟨(fun v hv => by rw [h] at hv; cases hv), _, N, rfl⟩⟩

/-- The call's own memory: its result's variable, its parts, its words. -/
structure PW (w : World) (x0 x1 x2 : Int) (s : Nat → ByteArray) (wr : World) : Prop where
  bl : Below w.heap.size w wr
  sz : w.heap.size + 3 ≤ wr.heap.size
  r0 : wr.cell? ⟨w.heap.size, 0, none⟩ = some (.int .i64 0)
  r1 : wr.cell? ⟨w.heap.size, 1, none⟩ = some (.int .u32 0)
  r2 : wr.cell? ⟨w.heap.size, 2, none⟩ = some (.int .u32 0)
  rf : ∀ i, wr.frozen? ⟨w.heap.size, i, none⟩ = false
  p0 : wr.cell? ⟨w.heap.size + 1, 0, none⟩ = some (.int .i64 x0)
  p1 : wr.cell? ⟨w.heap.size + 1, 1, none⟩ = some (.int .i64 x1)
  p2 : wr.cell? ⟨w.heap.size + 1, 2, none⟩ = some (.int .i64 x2)
  pf : ∀ i, wr.frozen? ⟨w.heap.size + 1, i, none⟩ = false
  c : ∀ i, i < 3 → wr.cell? ⟨w.heap.size + 2, i, none⟩ = some (.string (s i))
section
variable {w wr w' : World} {x0 x1 x2 y : Int} {s : Nat → ByteArray}
theorem PW.below (h : PW w x0 x1 x2 s wr) (hb : Below wr.heap.size wr w') : PW w x0 x1 x2 s w' := by
  have sz := h.sz
  have z := hb.size
  exact ⟨h.bl.trans (hb.mono (by omega)), by omega, kept hb h.r0, kept hb h.r1, kept hb h.r2, fun i => (hb.frozen (p := ⟨w.heap.size, i, none⟩) (by show w.heap.size < _; omega)).trans (h.rf i), kept hb h.p0, kept hb h.p1, kept hb h.p2,
    fun i => (hb.frozen (p := ⟨w.heap.size + 1, i, none⟩) (by show w.heap.size + 1 < _; omega)).trans (h.pf i), fun i hi => kept hb (h.c i hi)⟩
theorem PW.set_ (J : PW w x0 x1 x2 s wr) (i : Nat) (y : Int) : Below w.heap.size w (wr.setCell ⟨w.heap.size + 1, i, none⟩ (.int .i64 y)) ∧ w.heap.size + 3 ≤ (wr.setCell ⟨w.heap.size + 1, i, none⟩ (.int .i64 y)).heap.size ∧
    (∀ b j v, (b ≠ w.heap.size + 1 ∨ j ≠ i) → wr.cell? ⟨b, j, none⟩ = some v → (wr.setCell ⟨w.heap.size + 1, i, none⟩ (.int .i64 y)).cell? ⟨b, j, none⟩ = some v) ∧
    (∀ v, wr.cell? ⟨w.heap.size + 1, i, none⟩ = some v → (wr.setCell ⟨w.heap.size + 1, i, none⟩ (.int .i64 y)).cell? ⟨w.heap.size + 1, i, none⟩ = some (.int .i64 y)) ∧
    (∀ b j, wr.frozen? ⟨b, j, none⟩ = false → (wr.setCell ⟨w.heap.size + 1, i, none⟩ (.int .i64 y)).frozen? ⟨b, j, none⟩ = false) := by
  refine ⟨J.bl.setCell (by simp) _, by simpa using J.sz, fun b j v hne h => ?_, fun v h => ?_, fun b j h => ?_⟩
  · rw [World.cell?_setCell_other]
    · exact h
    · intro e
      injection e with e1 e2
      rcases hne with h' | h'
      · exact h' e1.symm
      · exact h' e2.symm
  · exact World.cell?_setCell_same (w := wr) (a := ⟨w.heap.size + 1, i, none⟩) (v := .int .i64 y) h
  · simpa using h
theorem PW.set0 (J : PW w x0 x1 x2 s wr) (y : Int) : PW w y x1 x2 s (wr.setCell ⟨w.heap.size + 1, 0, none⟩ (.int .i64 y)) := by
  obtain ⟨h1, h2, h3, h4, h5⟩ := J.set_ 0 y
  exact ⟨h1, h2, h3 _ _ _ (.inl (by omega)) J.r0, h3 _ _ _ (.inl (by omega)) J.r1, h3 _ _ _ (.inl (by omega)) J.r2, fun i => h5 _ _ (J.rf i), h4 _ J.p0, h3 _ _ _ (.inr (by omega)) J.p1, h3 _ _ _ (.inr (by omega)) J.p2, fun i => h5 _ _ (J.pf i), fun i hi => h3 _ _ _ (.inl (by omega)) (J.c i hi)⟩
theorem PW.set1 (J : PW w x0 x1 x2 s wr) (y : Int) : PW w x0 y x2 s (wr.setCell ⟨w.heap.size + 1, 1, none⟩ (.int .i64 y)) := by
  obtain ⟨h1, h2, h3, h4, h5⟩ := J.set_ 1 y
  exact ⟨h1, h2, h3 _ _ _ (.inl (by omega)) J.r0, h3 _ _ _ (.inl (by omega)) J.r1, h3 _ _ _ (.inl (by omega)) J.r2, fun i => h5 _ _ (J.rf i), h3 _ _ _ (.inr (by omega)) J.p0, h4 _ J.p1, h3 _ _ _ (.inr (by omega)) J.p2, fun i => h5 _ _ (J.pf i), fun i hi => h3 _ _ _ (.inl (by omega)) (J.c i hi)⟩
theorem PW.set2 (J : PW w x0 x1 x2 s wr) (y : Int) : PW w x0 x1 y s (wr.setCell ⟨w.heap.size + 1, 2, none⟩ (.int .i64 y)) := by
  obtain ⟨h1, h2, h3, h4, h5⟩ := J.set_ 2 y
  exact ⟨h1, h2, h3 _ _ _ (.inl (by omega)) J.r0, h3 _ _ _ (.inl (by omega)) J.r1, h3 _ _ _ (.inl (by omega)) J.r2, fun i => h5 _ _ (J.rf i), h3 _ _ _ (.inr (by omega)) J.p0, h3 _ _ _ (.inr (by omega)) J.p1, h4 _ J.p2, fun i => h5 _ _ (J.pf i), fun i hi => h3 _ _ _ (.inl (by omega)) (J.c i hi)⟩
end

def ParsePost (w : World) (t : List UInt8) (e : Ending) (w' : World) : Prop :=
  Below w.heap.size w w' ∧ ((∃ a b c : Nat, Reads t a b c ∧ e = .returned (.tuple #[stv a b c, .int .i64 0])) ∨ ((∀ a b c, ¬ Reads t a b c) ∧ e = .returned (.tuple #[stv 0 0 0, .int .i64 10])))
end Go.Proofs.YtcfbcidakddhfaaGreatDoor
namespace Go.Proofs.YtcfbcidakddhfaaGreatDoor
open Go.RowKit

theorem idx_ascii (t : ByteArray) (hs : t.size ≤ 4000000000) (ha : ∀ b ∈ t.data.toList, b.toNat < 128) : IdxOk t := by
  intro W
  refine (Tryz.strings_IndexAny_laid t ⟨#[61, 33, 94, 42]⟩ W (by omega) (by decide) (fun j b hb => ha b (List.mem_of_getElem? hb)) (fun j b hb => ?_)).mono ?_
  · have h : b ∈ ([61, 33, 94, 42] : List UInt8) := List.mem_of_getElem? hb
    simp at h
    rcases h with rfl | rfl | rfl | rfl <;> decide
  · rintro e w' ⟨rfl, hb⟩
    exact ⟨rfl, hb⟩
theorem idx_awake (k : Nat) : IdxOk ((⟨#[123, 97, 61, 34, 120, 34, 125, 46, 46]⟩ : ByteArray).extract k (⟨#[123, 97, 61, 34, 120, 34, 125, 46, 46]⟩ : ByteArray).size) := by
  have hsz : (⟨#[123, 97, 61, 34, 120, 34, 125, 46, 46]⟩ : ByteArray).size = 9 := rfl
  refine idx_ascii _ (by rw [ex_size, hsz]; omega) fun b hb => ?_
  rw [ex_list] at hb
  have h := List.mem_of_mem_drop hb
  have h2 : b ∈ ([123, 97, 61, 34, 120, 34, 125, 46, 46] : List UInt8) := h
  simp at h2
  rcases h2 with rfl | rfl | rfl | rfl | rfl | rfl | rfl | rfl <;> decide

end Go.Proofs.YtcfbcidakddhfaaGreatDoor
