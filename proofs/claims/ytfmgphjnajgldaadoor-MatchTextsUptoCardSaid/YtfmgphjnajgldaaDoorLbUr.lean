/- The document's Quote and Unquote. -/
import Derived.Test.YtfmgphjnajgldaaDoorLbU
import Derived.Test.YtfmgphjnajgldaaDoorLbT
import Derived.Test.YtfmgphjnajgldaaDoorStr
namespace Go.Proofs.YtfmgphjnajgldaaDoor
open Go.RowKit

theorem cell1 (n : Int) (c : UInt8) (h : n = (c.toNat : Int)) : [Value.int .u8 n] = [c].map bv := by subst h; rfl

set_option maxHeartbeats 3200000 in
theorem rQuote_any (s : ByteArray) (w : World) (hs : s.size ≤ 1000000000000) : Calls Tryd.prog 37 #[.string s] w (NewStr w ⟨(quoteB s).toArray⟩) := by
  have k34 : [Value.int .u8 34] = [(34 : UInt8)].map bv := cell1 34 34 rfl
  have k92 : [Value.int .u8 92] = [(92 : UInt8)].map bv := cell1 92 92 rfl
  have K34 := Lib.hid k34
  have K92 := Lib.hid k92
  clear k34 k92
  go_enter Tryd.func37, Tryd.ntmps37
  go_wp2_with fail
  have h0 : Ob (w.alloc (.cells #[.int .u8 34] 5)) w.heap.size (.slice (some ⟨w.heap.size, 0, none⟩) 1 1) [34] := lit_ob w w.heap.size w.heap.size rfl (Nat.le_refl _) _ 1 _ K34.out rfl (by decide)
  have B0 : Below w.heap.size w (w.alloc (.cells #[.int .u8 34] 5)) := (Below.refl _ _).alloc (Nat.le_refl _) _
  go_loopw [3, 4] (fun v i wr => ∃ (k n c : Nat) (A : Option Addr), k ≤ s.size ∧ i = .int .i64 k ∧ v = .slice A n c ∧ Ob wr w.heap.size (.slice A n c) (quoteTo s k) ∧ Below w.heap.size w wr) (fun _ i _ => s.size - (intOf i).toNat)
  case atStart => exact ⟨0, 1, 1, _, Nat.zero_le _, rfl, rfl, by rw [quoteTo_zero]; exact h0, B0⟩
  case round =>
    obtain ⟨k, n, c, A, hk, rfl, rfl, hob, hbl⟩ := hrel
    have z := hbl.size
    have hlen := quoteTo_len s k
    have hn := hob.bs.2
    have HN := Lib.hid hn
    clear h0 B0 hn
    by_cases hlt : k < s.size
    · by_cases hg : gN ((s[k]).toNat : Int) = true
      · have HQ := Lib.hid (quoteTo_yes s k hlt hg)
        by_cases h34 : ((s[k]).toNat : Int) = 34
        · have e34 : (((s[k]).toNat : Int) == 34) = true := by rw [h34]; rfl
          clear hg h34
          go_wp2_with (first
            | (at_builtin; refine wpList_app _ rfl (.tmp 22) (.tmp 23) rfl w.heap.size (.slice A n c) (quoteTo s k) rfl (hob.alloc _) (some ⟨wr.heap.size, 0, none⟩) 1 1 [92] rfl rfl _ (lit_bsH wr _ wr.heap.size rfl _ 1 _ K92.out rfl (by decide)) (n + 1) (by rw [HN.out]; rfl) (by simp; omega) (by simp; omega) ?_; intro A6 c6 w6 hown6 hgrow6 hat6; have B6 : Below w.heap.size w w6 := grown_belowE (hbl.alloc z _) hgrow6 (by simp; omega) (fun _ h => (hob.lt _ h).1); have z6 := B6.size)
            | (at_builtin; refine wpList_app _ rfl (.tmp 25) (.tmp 29) rfl w.heap.size (.slice A6 (n + 1) c6) (quoteTo s k ++ [92]) rfl (hown6.alloc _) (some ⟨w6.heap.size, 0, none⟩) 1 1 [s[k]] rfl rfl _ (lit_bsH w6 _ w6.heap.size rfl _ 1 _ rfl rfl (by decide)) (n + 2) (by rw [HN.out]; simp) (by simp; omega) (by simp; omega) ?_; intro A7 c7 w7 hown7 hgrow7 hat7; have B7 : Below w.heap.size w w7 := grown_belowE (B6.alloc z6 _) hgrow7 (by simp; omega) (fun _ h => (hown6.lt _ h).1)))
          go_roundw
          case rel => exact ⟨k + 1, n + 2, c7, A7, by omega, by go_num, rfl, by rw [HQ.out]; exact hown7, B7⟩
          case measure => simp [intOf]; omega
        · have e34 : (((s[k]).toNat : Int) == 34) = false := by simpa using h34
          have e92 : (((s[k]).toNat : Int) == 92) = true := by simp [gN] at hg ⊢; omega
          clear hg h34
          go_wp2_with (first
            | (at_builtin; refine wpList_app _ rfl (.tmp 22) (.tmp 23) rfl w.heap.size (.slice A n c) (quoteTo s k) rfl (hob.alloc _) (some ⟨wr.heap.size, 0, none⟩) 1 1 [92] rfl rfl _ (lit_bsH wr _ wr.heap.size rfl _ 1 _ K92.out rfl (by decide)) (n + 1) (by rw [HN.out]; rfl) (by simp; omega) (by simp; omega) ?_; intro A6 c6 w6 hown6 hgrow6 hat6; have B6 : Below w.heap.size w w6 := grown_belowE (hbl.alloc z _) hgrow6 (by simp; omega) (fun _ h => (hob.lt _ h).1); have z6 := B6.size)
            | (at_builtin; refine wpList_app _ rfl (.tmp 25) (.tmp 29) rfl w.heap.size (.slice A6 (n + 1) c6) (quoteTo s k ++ [92]) rfl (hown6.alloc _) (some ⟨w6.heap.size, 0, none⟩) 1 1 [s[k]] rfl rfl _ (lit_bsH w6 _ w6.heap.size rfl _ 1 _ rfl rfl (by decide)) (n + 2) (by rw [HN.out]; simp) (by simp; omega) (by simp; omega) ?_; intro A7 c7 w7 hown7 hgrow7 hat7; have B7 : Below w.heap.size w w7 := grown_belowE (B6.alloc z6 _) hgrow7 (by simp; omega) (fun _ h => (hown6.lt _ h).1)))
          go_roundw
          case rel => exact ⟨k + 1, n + 2, c7, A7, by omega, by go_num, rfl, by rw [HQ.out]; exact hown7, B7⟩
          case measure => simp [intOf]; omega
      · have hg : gN ((s[k]).toNat : Int) = false := by simpa using hg
        have HQ := Lib.hid (quoteTo_no s k hlt hg)
        have e34 : (((s[k]).toNat : Int) == 34) = false := by simp [gN] at hg ⊢; omega
        have e92 : (((s[k]).toNat : Int) == 92) = false := by simp [gN] at hg ⊢; omega
        clear hg
        go_wp2_with (at_builtin; refine wpList_app _ rfl (.tmp 25) (.tmp 29) rfl w.heap.size (.slice A n c) (quoteTo s k) rfl (hob.alloc _) (some ⟨wr.heap.size, 0, none⟩) 1 1 [s[k]] rfl rfl _ (lit_bsH wr _ wr.heap.size rfl _ 1 _ rfl rfl (by decide)) (n + 1) (by rw [HN.out]; rfl) (by simp; omega) (by simp; omega) ?_; intro A6 c6 w6 hown6 hgrow6 hat6; have B6 : Below w.heap.size w w6 := grown_belowE (hbl.alloc z _) hgrow6 (by simp; omega) (fun _ h => (hob.lt _ h).1))
        go_roundw
        case rel => exact ⟨k + 1, n + 1, c6, A6, by omega, by go_num, rfl, by rw [HQ.out]; exact hown6, B6⟩
        case measure => simp [intOf]; omega
    · have hks : k = s.size := by omega
      subst hks
      have hfin : quoteTo s s.size ++ [34] = quoteB s := rfl
      have HF := Lib.hid hfin
      clear hfin
      go_wp2_with (at_builtin; refine wpList_app _ rfl (.tmp 31) (.tmp 32) rfl w.heap.size (.slice A n c) (quoteTo s s.size) rfl (hob.alloc _) (some ⟨wr.heap.size, 0, none⟩) 1 1 [34] rfl rfl _ (lit_bsH wr _ wr.heap.size rfl _ 1 _ K34.out rfl (by decide)) (n + 1) (by rw [HN.out]; rfl) (by simp; omega) (by simp; omega) ?_; intro A6 c6 w6 hown6 hgrow6 hat6; have B6 : Below w.heap.size w w6 := grown_belowE (hbl.alloc z _) hgrow6 (by simp; omega) (fun _ h => (hob.lt _ h).1); rw [HF.out] at hown6; have hcv := bs_str hown6.bs.1 hown6.bs.2.symm)
      go_ret
      exact ⟨rfl, B6⟩

set_option maxRecDepth 100000 in
set_option maxHeartbeats 3200000 in
theorem rUnquote_any (t : ByteArray) (w : World) (hs : t.size ≤ 1000000000000) : Calls Tryd.prog 33 #[.string t] w (UnqPost w (unqB t)) := by
  by_cases h0 : t.size = 0
  · rw [unqB_nil h0]
    have e1 : t.size < 1 := by omega
    have H0 := Lib.hid h0
    clear h0
    go_enter Tryd.func33, Tryd.ntmps33
    go_wp2
    go_ret2
    exact ⟨rfl, Below.refl _ _⟩
  have hpos : 0 < t.size := by omega
  by_cases hc : ((t[0]).toNat : Int) = 34
  · have hstart := unqB_yes hpos hc
    have HS := Lib.hid hstart
    have hc2 : (((t[0]).toNat : Int) == 34) = true := by rw [hc]; rfl
    have hc3 : (((t[0]).toNat : Int) != 34) = false := by rw [hc]; rfl
    generalize unqB t = R at *
    clear hstart hc h0
    go_enter Tryd.func33, Tryd.ntmps33
    go_wp2_with fail
    clear hc2 hc3
    go_loopw [4, 5] (fun v i wr => ∃ (k n c : Nat) (A : Option Addr) (acc : List UInt8), 1 ≤ k ∧ k ≤ t.size ∧ i = .int .i64 k ∧ v = .slice A n c ∧ acc.length ≤ k ∧ Ob wr w.heap.size (.slice A n c) acc ∧ Hid (R = unqGo (t.data.toList.drop k) false acc k) ∧ Below w.heap.size w wr) (fun _ i _ => t.size - (intOf i).toNat)
    case atStart => exact ⟨1, 0, 0, none, [], by omega, by omega, rfl, rfl, by simp, Ob.empty _ _, HS, Below.refl _ _⟩
    case round =>
      obtain ⟨k, n, c, A, acc, h1k, hk, rfl, rfl, hal, hob, HT, hbl⟩ := hrel
      have z := hbl.size
      have hn := hob.bs.2
      have HN := Lib.hid hn
      clear hn
      by_cases hlt : k < t.size
      · by_cases h34 : ((t[k]).toNat : Int) = 34
        · have HF : Hid (R = (acc, k + 1)) := Lib.hid (by rw [HT.out, go_quote hlt _ _ h34])
          have c1 : (((t[k]).toNat : Int) == 34) = true := by rw [h34]; rfl
          have c2 : (((t[k]).toNat : Int) != 34) = false := by rw [h34]; rfl
          have hcv := bs_str hob.bs.1 HN.out.symm
          have H34 := Lib.hid h34
          clear h34
          go_wp2_with fail
          go_ret2
          exact ⟨by rw [HF.out]; exact ret_unq rfl (by omega), hbl⟩
        · have c1 : (((t[k]).toNat : Int) == 34) = false := by simpa using h34
          have c2 : (((t[k]).toNat : Int) != 34) = true := by simpa using h34
          by_cases h92 : ((t[k]).toNat : Int) = 92
          · have c3 : (((t[k]).toNat : Int) == 92) = true := by rw [h92]; rfl
            have hsl := go_slash hlt acc k h92
            have HSL := Lib.hid hsl
            have H92 := Lib.hid h92
            clear h92 h34 hsl
            by_cases hlt2 : k + 1 < t.size
            · by_cases hg : gN ((t[k + 1]).toNat : Int) = true
              · have HNX : Hid (R = unqGo (t.data.toList.drop (k + 1 + 1)) false (acc ++ [t[k + 1]]) (k + 1 + 1)) := Lib.hid (by rw [HT.out, HSL.out, go_guard_yes hlt2 _ _ hg])
                by_cases g34 : ((t[k + 1]).toNat : Int) = 34
                · have e34 : (((t[k + 1]).toNat : Int) == 34) = true := by rw [g34]; rfl
                  have f34 : (((t[k + 1]).toNat : Int) != 34) = false := by rw [g34]; rfl
                  clear hg g34
                  go_wp2_with (at_builtin; refine wpList_app _ rfl (.tmp 46) (.tmp 50) rfl w.heap.size (.slice A n c) acc rfl (hob.alloc _) (some ⟨wr.heap.size, 0, none⟩) 1 1 [t[k + 1]] rfl rfl _ (lit_bsH wr _ wr.heap.size rfl _ 1 _ rfl rfl (by decide)) (n + 1) (by rw [HN.out]; rfl) (by simp; omega) (by simp; omega) ?_; intro A6 c6 w6 hown6 hgrow6 hat6; have B6 : Below w.heap.size w w6 := grown_belowE (hbl.alloc z _) hgrow6 (by simp; omega) (fun _ h => (hob.lt _ h).1))
                  go_roundw
                  case rel => exact ⟨k + 1 + 1, n + 1, c6, A6, _, by omega, by omega, by go_num, rfl, by simp; omega, hown6, HNX, B6⟩
                  case measure => simp [intOf]; omega
                · have e34 : (((t[k + 1]).toNat : Int) == 34) = false := by simpa using g34
                  have f34 : (((t[k + 1]).toNat : Int) != 34) = true := by simpa using g34
                  have e92 : (((t[k + 1]).toNat : Int) == 92) = true := by simp [gN] at hg ⊢; omega
                  have f92 : (((t[k + 1]).toNat : Int) != 92) = false := by simp [gN] at hg ⊢; omega
                  clear hg g34
                  go_wp2_with (at_builtin; refine wpList_app _ rfl (.tmp 46) (.tmp 50) rfl w.heap.size (.slice A n c) acc rfl (hob.alloc _) (some ⟨wr.heap.size, 0, none⟩) 1 1 [t[k + 1]] rfl rfl _ (lit_bsH wr _ wr.heap.size rfl _ 1 _ rfl rfl (by decide)) (n + 1) (by rw [HN.out]; rfl) (by simp; omega) (by simp; omega) ?_; intro A6 c6 w6 hown6 hgrow6 hat6; have B6 : Below w.heap.size w w6 := grown_belowE (hbl.alloc z _) hgrow6 (by simp; omega) (fun _ h => (hob.lt _ h).1))
                  go_roundw
                  case rel => exact ⟨k + 1 + 1, n + 1, c6, A6, _, by omega, by omega, by go_num, rfl, by simp; omega, hown6, HNX, B6⟩
                  case measure => simp [intOf]; omega
              · have hg : gN ((t[k + 1]).toNat : Int) = false := by simpa using hg
                have HF : Hid (R = ([], 0)) := Lib.hid (by rw [HT.out, HSL.out, go_guard_no hlt2 _ _ hg])
                have e34 : (((t[k + 1]).toNat : Int) == 34) = false := by simp [gN] at hg ⊢; omega
                have e92 : (((t[k + 1]).toNat : Int) == 92) = false := by simp [gN] at hg ⊢; omega
                have f34 : (((t[k + 1]).toNat : Int) != 34) = true := by simp [gN] at hg ⊢; omega
                have f92 : (((t[k + 1]).toNat : Int) != 92) = true := by simp [gN] at hg ⊢; omega
                clear hg
                go_wp2_with fail
                go_ret2
                exact ⟨by rw [HF.out]; rfl, hbl⟩
            · have HF : Hid (R = ([], 0)) := Lib.hid (by rw [HT.out, HSL.out, go_end (by omega)])
              go_wp2_with fail
              go_ret2
              exact ⟨by rw [HF.out]; rfl, hbl⟩
          · have c3 : (((t[k]).toNat : Int) == 92) = false := by simpa using h92
            have HNX : Hid (R = unqGo (t.data.toList.drop (k + 1)) false (acc ++ [t[k]]) (k + 1)) := Lib.hid (by rw [HT.out, go_plain hlt _ _ h34 h92])
            clear h34 h92
            go_wp2_with (at_builtin; refine wpList_app _ rfl (.tmp 46) (.tmp 50) rfl w.heap.size (.slice A n c) acc rfl (hob.alloc _) (some ⟨wr.heap.size, 0, none⟩) 1 1 [t[k]] rfl rfl _ (lit_bsH wr _ wr.heap.size rfl _ 1 _ rfl rfl (by decide)) (n + 1) (by rw [HN.out]; rfl) (by simp; omega) (by simp; omega) ?_; intro A6 c6 w6 hown6 hgrow6 hat6; have B6 : Below w.heap.size w w6 := grown_belowE (hbl.alloc z _) hgrow6 (by simp; omega) (fun _ h => (hob.lt _ h).1))
            go_roundw
            case rel => exact ⟨k + 1, n + 1, c6, A6, _, by omega, by omega, by go_num, rfl, by simp; omega, hown6, HNX, B6⟩
            case measure => simp [intOf]; omega
      · have HF : Hid (R = ([], 0)) := Lib.hid (by rw [HT.out, go_end (by omega)])
        go_wp2_with fail
        go_ret2
        exact ⟨by rw [HF.out]; rfl, hbl⟩
  · have HF : Hid (unqB t = ([], 0)) := Lib.hid (unqB_no hpos hc)
    have hc2 : (((t[0]).toNat : Int) == 34) = false := by simpa using hc
    have hc3 : (((t[0]).toNat : Int) != 34) = true := by simpa using hc
    clear hc h0
    go_enter Tryd.func33, Tryd.ntmps33
    go_wp2_with fail
    go_ret2
    exact ⟨by rw [HF.out]; rfl, Below.refl _ _⟩
end Go.Proofs.YtfmgphjnajgldaaDoor
