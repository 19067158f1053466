/- The document's Has, Right, SameList, Same; the law's From. -/
import Derived.Test.YtpnhdocimjkakaaPn15
import Derived.Test.YtpnhdocimjkakaaPn2
import Derived.Test.YtpnhdocimjkakaaPn11
import Derived.Test.YtpnhdocimjkakaaPn12
import Derived.LoopTactic
import Derived.Laws.Bits64b
namespace Go.Proofs.Ytpnhdocimjkakaa
open Go.RowKit

/-- The number that is read, what is left, and the error. -/
def nuR (l : List UInt8) (e : Int) : Nat × List UInt8 × Int :=
  if e ≠ 0 then (0, l, e) else match l with
    | [] => (0, [], 9)
    | c :: r => if c.toNat ≤ 247 then (c.toNat, r, 0) else if r.length < c.toNat - 247 then (0, r, 9) else if kN (ofBE (r.take (c.toNat - 247))) ≠ c.toNat - 247 then (0, r.drop (c.toNat - 247), 10) else (ofBE (r.take (c.toNat - 247)), r.drop (c.toNat - 247), 0)
theorem nuR_err {l : List UInt8} {e : Int} (he : e ≠ 0) : nuR l e = (0, l, e) := by unfold nuR; rw [if_pos he]
theorem or_u {x b : Nat} (hx : x < 72057594037927936) (hb : b < 256) : bits .or .u64 (IntKind.u64.wrap ((x : Int) * 256)) (b : Int) = ((x * 256 + b : Nat) : Int) := by
  have e1 : IntKind.u64.wrap ((x : Int) * 256) = ((x * 256 : Nat) : Int) := by rw [IntKind.wrap_u64]; omega
  rw [e1, bits_or_u64_nat _ _ (by omega) (by omega), nat_join 8 (x * 256) b (by omega) (by omega)]

theorem Bs.one {w : World} {K c : Nat} {A : Option Addr} {x : UInt8} (h : Bs w K A c [x]) : ∃ ad, A = some ad ∧ w.cell? ad = some (.int .u8 (x.toNat : Int)) ∧ 1 ≤ c ∧ c ≤ 9223372036854775807 := by
  obtain ⟨ad, rfl, _⟩ := h.some_ (by simp)
  have hc := h.c0 (by simp)
  have h1 := h.le
  have h2 := h.max
  unfold maxLen at h2
  exact ⟨ad, rfl, hc, h1, by omega⟩
set_option maxRecDepth 100000 in
set_option maxHeartbeats 3200000 in
theorem rnum_any (K b : Nat) (l : List UInt8) (e : Int) (w : World) (h : Rd w K b l e) :
    Calls Try.prog 93 #[.pointer (some ⟨b, 0, none⟩)] w fun en w' => en = .returned (.int .u64 ((nuR l e).1 : Int)) ∧ Rst w K b (nuR l e).2.1 (nuR l e).2.2 w' := by
  have HT := take_any 1 K b l e w h (by decide)
  by_cases he : e ≠ 0
  · rw [nuR_err he]
    have e1 : tkB 1 l e = [] := if_pos he
    have e2 : tkL 1 l e = l := if_pos he
    have e3 : tkE 1 l e = e := if_pos he
    rw [e1, e2, e3] at HT
    have HH := Lib.hid HT
    clear HT h e1 e2 e3 he
    go_enter Try.func93, Try.ntmps93
    go_wp2_with (go_at_call 126; refine HH.out.mono ?_; rintro en w1 ⟨⟨A, c, rfl, hs⟩, hr⟩)
    go_ret
    exact ⟨rfl, hr⟩
  · have he0 : e = 0 := by omega
    subst he0
    clear he
    match l, h, HT with
    | [], h, HT =>
      have HH := Lib.hid HT
      clear HT h
      go_enter Try.func93, Try.ntmps93
      go_wp2_with (go_at_call 126; refine HH.out.mono ?_; rintro en w1 ⟨⟨A, c, rfl, hs⟩, hr⟩)
      go_ret
      exact ⟨rfl, hr⟩
    | x :: r, h, HT =>
      have e1 : tkB 1 (x :: r) 0 = [x] := by simp [tkB]
      have e2 : tkL 1 (x :: r) 0 = r := by simp [tkL]
      have e3 : tkE 1 (x :: r) 0 = 0 := by simp [tkE]
      rw [e1, e2, e3] at HT
      have HH := Lib.hid HT
      have hx8 : x.toNat < 256 := x.toNat_lt
      by_cases hx : x.toNat ≤ 247
      · have e4 : nuR (x :: r) 0 = (x.toNat, r, 0) := by simp [nuR, hx]
        rw [e4]
        clear HT h e1 e2 e3 e4
        go_enter Try.func93, Try.ntmps93
        go_wp2_with (go_at_call 126; go_loud (refine HH.out.mono ?_; rintro en w1 ⟨⟨A, c, rfl, hs⟩, hr⟩; obtain ⟨ad, rfl, hc, hcap, hmx⟩ := hs.one))
        go_ret
        exact ⟨rfl, hr⟩
      · obtain ⟨k, hk⟩ : ∃ k, x.toNat = 247 + k := ⟨x.toNat - 247, by omega⟩
        have hk0 : 0 < k := by omega
        have hk8 : k ≤ 8 := by omega
        have hsub : x.toNat - 247 = k := by omega
        have hT2 := fun w (h : Rd w K b r 0) => take_any k K b r 0 w h (by omega)
        by_cases hlen : r.length < k
        · have e4 : nuR (x :: r) 0 = (0, r, 9) := by simp [nuR, hx, hsub, hlen]
          have t1 : tkB k r 0 = [] := by simp [tkB, hlen]
          have t2 : tkL k r 0 = r := by simp [tkL, hlen]
          have t3 : tkE k r 0 = 9 := by simp [tkE, hlen]
          rw [e4]
          rw [t1, t2, t3] at hT2
          have H2 := Lib.hid hT2
          clear HT h e1 e2 e3 e4 t1 t2 t3 hT2 hlen
          go_enter Try.func93, Try.ntmps93
          go_wp2_with fail
          refine HH.out.mono ?_
          rintro en w1 ⟨⟨A, c, rfl, hs⟩, hr⟩
          obtain ⟨ad, rfl, hc, hcap, hmx⟩ := hs.one
          rw [hk] at hc
          have H3 := Lib.hid (H2.out w1 hr.rd)
          clear HH H2 hs
          go_wp2_with fail
          have ek : (247 : Int) + (k : Int) - 247 = k := by omega
          rw [ek]
          clear ek
          refine H3.out.mono ?_
          rintro en w2 ⟨⟨A2, c2, rfl, hs2⟩, hr2⟩
          obtain ⟨A4, c4, g0, g1, f0, f1, _⟩ := hr2.rd.out
          have HR := Lib.hid (hr.trans hr2)
          clear hr hr2 hs2 H3
          go_wp2_with fail
          refine wp_loop_rounds 1 ?_
          rw [rounds_succ]
          go_wp2
          go_ret
          exact ⟨rfl, HR.out⟩
        · have t1 : tkB k r 0 = r.take k := by simp [tkB, hlen]
          have t2 : tkL k r 0 = r.drop k := by simp [tkL, hlen]
          have t3 : tkE k r 0 = 0 := by simp [tkE, hlen]
          have e4 : nuR (x :: r) 0 = if kN (ofBE (r.take k)) ≠ k then (0, r.drop k, 10) else (ofBE (r.take k), r.drop k, 0) := by simp [nuR, hx, hsub, hlen]
          rw [e4]
          rw [t1, t2, t3] at hT2
          have hsl : (r.take k).length = k := by simp; omega
          generalize r.take k = seg at *
          generalize r.drop k = rest at *
          subst hsl
          have hcut : cutN seg 0 seg.length = ofBE seg := by unfold cutN; rw [List.drop_zero, List.take_length]
          have hlt64 : ofBE seg < 18446744073709551616 := Nat.lt_of_lt_of_le (ofBE_lt seg) (Nat.le_trans (Nat.pow_le_pow_right (by decide) hk8) (by decide))
          have hbe := behind_any (ofBE seg)
          have H2 := Lib.hid hT2
          have HC := Lib.hid hcut
          have HB := Lib.hid (fun w => behind_any (ofBE seg) w (by omega))
          clear HT h e1 e2 e3 e4 t1 t2 t3 hT2 hlen hcut hbe
          have key : ∀ (v : Nat) (e9 : Int), (if kN (ofBE seg) ≠ seg.length then ((0 : Nat), rest, (10 : Int)) else (ofBE seg, rest, 0)) = (v, rest, e9) → Calls Try.prog 93 #[.pointer (some ⟨b, 0, none⟩)] w fun en w' => en = .returned (.int .u64 (v : Int)) ∧ Rst w K b rest e9 w' := by
            intro v e9 hv
            have HV := Lib.hid hv
            clear hv
            go_enter Try.func93, Try.ntmps93
            go_wp2_with fail
            refine HH.out.mono ?_
            rintro en w1 ⟨⟨A, c, rfl, hs⟩, hr⟩
            obtain ⟨ad, rfl, hc, hcap, hmx⟩ := hs.one
            rw [hk] at hc
            have H3 := Lib.hid (H2.out w1 hr.rd)
            clear HH H2 hs
            go_wp2_with fail
            have ek : (247 : Int) + (seg.length : Int) - 247 = seg.length := by omega
            rw [ek]
            clear ek
            refine H3.out.mono ?_
            rintro en w2 ⟨⟨A2, c2, rfl, hs2⟩, hr2⟩
            obtain ⟨A4, c4, g0, g1, f0, f1, _⟩ := hr2.rd.out
            have HR := Lib.hid (hr.trans hr2)
            have HS := Lib.hid hs2
            clear hr hr2 hs2 H3
            go_wp2_with fail
            go_loopw [5, 30] (fun n s wr => ∃ j : Nat, j ≤ seg.length ∧ n = .int .u64 ((cutN seg 0 j : Nat) : Int) ∧ s = .int .i64 (j : Int) ∧ w2 = wr) (fun _ s _ => seg.length - (intOf s).toNat)
            case atStart => exact ⟨0, by omega, by rw [cutN_zero]; rfl, rfl, rfl⟩
            case round =>
              obtain ⟨j, hj, rfl, rfl, rfl⟩ := hrel
              by_cases hlt : j < seg.length
              · obtain ⟨ad2, rfl, _, hc2⟩ := HS.out.get hlt
                have hb8 : (seg[j]).toNat < 256 := (seg[j]).toNat_lt
                have hx7 : cutN seg 0 j < 72057594037927936 := Nat.lt_of_lt_of_le (cutN_lt seg 0 j) (Nat.le_trans (Nat.pow_le_pow_right (by decide) (show j ≤ 7 by omega)) (by decide))
                have hn := cutN_succ (l := seg) (o := 0) (j := j) (by omega)
                simp only [Nat.zero_add] at hn
                have hor := or_u hx7 hb8
                rw [← hn] at hor
                have hle := HS.out.le
                have hmx2 := HS.out.max
                unfold maxLen at hmx2
                have HOR := Lib.hid hor
                clear hn hx7 hor
                generalize cutN seg 0 j = X at *
                generalize (seg[j]).toNat = B at *
                go_wp2
                go_roundw
                case rel => exact ⟨j + 1, by omega, by rw [HOR.out], rfl, trivial⟩
                case measure => simp [intOf]; omega
              · have hjl : j = seg.length := by omega
                subst hjl
                rw [HC.out]
                by_cases hkk : kN (ofBE seg) = seg.length
                · have hv := HV.out
                  rw [if_neg (by simp [hkk])] at hv
                  simp only [Prod.mk.injEq] at hv
                  obtain ⟨rfl, _, rfl⟩ := hv
                  go_wp2_with (go_at_call 127; go_loud (refine (HB.out _).mono ?_; rintro en w3 ⟨rfl, rfl⟩; rw [hkk]))
                  go_ret
                  exact ⟨rfl, HR.out⟩
                · have hv := HV.out
                  rw [if_pos hkk] at hv
                  simp only [Prod.mk.injEq] at hv
                  obtain ⟨rfl, _, rfl⟩ := hv
                  have hne : ((kN (ofBE seg) : Int) != (seg.length : Int)) = true := by rw [bne_iff_ne]; omega
                  go_wp2_with (go_at_call 127; go_loud (refine (HB.out _).mono ?_; rintro en w3 ⟨rfl, rfl⟩))
                  go_ret
                  exact ⟨rfl, HR.out.rd.err 10, HR.out.tn.then (Tn.setCell _ _ _ _)⟩
          by_cases hkk : kN (ofBE seg) = seg.length
          · have e : (if kN (ofBE seg) ≠ seg.length then ((0 : Nat), rest, (10 : Int)) else (ofBE seg, rest, 0)) = (ofBE seg, rest, 0) := if_neg (by simp [hkk])
            rw [e]; exact key _ _ e
          · have e : (if kN (ofBE seg) ≠ seg.length then ((0 : Nat), rest, (10 : Int)) else (ofBE seg, rest, 0)) = (0, rest, 10) := if_pos hkk
            rw [e]; exact key _ _ e
end Go.Proofs.Ytpnhdocimjkakaa
namespace Go.Proofs.Ytpnhdocimjkakaa
open Go.RowKit Go.BigFrame

set_option maxHeartbeats 800000 in
theorem rhas_any (K : Nat) (A : Option Addr) (n cap : Nat) (l : List Int) (v : Int) (w : World) (hn : l.length = n) (hp : Sr encI 1 w K A cap l) :
    Calls Try.prog 30 #[.slice A n cap, .int .i64 v] w fun e w' => e = .returned (.bool (hasB l v)) ∧ w = w' := by
  subst hn
  have hle := hp.le
  have hmax := hp.max
  unfold maxLen at hmax
  have HP := Lib.hid hp
  clear hp
  go_enter Try.func30, Try.ntmps30
  go_wp2
  go_loop [5] (fun iv => ∃ (k : Nat), k ≤ l.length ∧ iv = .int .i64 k ∧ Hid (v ∉ l.take k)) (fun i => l.length - (intOf i).toNat)
  case atStart => exact ⟨0, Nat.zero_le _, rfl, Lib.hid (by simp)⟩
  case round =>
    obtain ⟨k, hk, rfl, HR⟩ := hrel
    by_cases hlt : k < l.length
    · obtain ⟨ad, rfl, hadK, hc⟩ := HP.out.int hlt
      have HS := Lib.hid (take_snocI l k hlt)
      have HM : Hid (l[k] ∈ l) := Lib.hid (List.getElem_mem hlt)
      generalize l[k] = x at *
      by_cases c1 : x = v
      · subst c1
        have HZ : Hid (hasB l x = true) := Lib.hid (by unfold hasB; simp [HM.out])
        go_wp2
        go_ret
        exact ⟨by rw [HZ.out]; rfl, rfl⟩
      · have d1 : (x == v) = false := by simpa using c1
        have HZ : Hid (v ∉ l.take (k + 1)) := Lib.hid (by rw [HS.out]; simp only [List.mem_append, List.mem_singleton, not_or]; exact ⟨HR.out, fun e => c1 e.symm⟩)
        clear c1
        go_wp2
        go_round
        case rel => exact ⟨k + 1, by omega, by go_num, Lib.hid HZ.out⟩
        case measure => simp [intOf]; omega
    · have hkl : k = l.length := by omega
      subst hkl
      have HZ : Hid (hasB l v = false) := Lib.hid (by
        have := HR.out
        rw [List.take_length] at this
        unfold hasB; simp [this])
      go_wp2
      go_ret
      exact ⟨by rw [HZ.out]; rfl, rfl⟩
end Go.Proofs.Ytpnhdocimjkakaa
