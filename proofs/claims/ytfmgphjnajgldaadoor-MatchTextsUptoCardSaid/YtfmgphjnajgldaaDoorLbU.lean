/- The program's Unquote. -/
import Derived.Test.YtfmgphjnajgldaaDoorLbUM
import Derived.Test.YtfmgphjnajgldaaDoorLbQ
namespace Go.Proofs.YtfmgphjnajgldaaDoor
open Go.RowKit

/-- A value and how many bytes it has; new memory alone. -/
def UnqPost (w : World) (r : List UInt8 × Nat) (e : Ending) (w' : World) : Prop := e = .returned (.tuple #[.string ⟨r.1.toArray⟩, .int .i64 (r.2 : Int)]) ∧ Below w.heap.size w w'
theorem ret_unq {a b : ByteArray} {n m : Int} (h : a = b) (h2 : n = m) : Ending.returned (.tuple #[.string a, .int .i64 n]) = .returned (.tuple #[.string b, .int .i64 m]) := by rw [h, h2]

set_option maxHeartbeats 3200000 in
theorem unquote_any (t : ByteArray) (w : World) (hs : t.size ≤ 1000000000000) : Calls Tryd.prog 46 #[.string t] w (UnqPost w (unqB t)) := by
  by_cases h0 : t.size = 0
  · rw [unqB_nil h0]
    have e1 : t.toList = [] := by rw [Lib.toList_data]; exact List.eq_nil_of_length_eq_zero (by simpa using h0)
    have e2 : (t.toList == []) = true := by rw [e1]; rfl
    have H0 := Lib.hid h0
    clear h0
    go_enter Tryd.func46, Tryd.ntmps46
    go_wp2
    go_ret2
    exact ⟨rfl, Below.refl _ _⟩
  have hpos : 0 < t.size := by omega
  have e1 : ¬ t.toList = [] := by
    rw [Lib.toList_data]
    intro e
    have := congrArg List.length e
    simp at this
    exact h0 (by simpa using this)
  have e2 : (t.toList == []) = false := by simpa using e1
  by_cases hc : ((t[0]).toNat : Int) = 34
  · have hstart := unqB_yes hpos hc
    have HS := Lib.hid hstart
    have HC := Lib.hid hc
    have hc2 : (((t[0]).toNat : Int) == 34) = true := by rw [hc]; rfl
    have hc3 : (((t[0]).toNat : Int) != 34) = false := by rw [hc]; rfl
    generalize unqB t = R at *
    clear hstart hc e1 h0
    go_enter Tryd.func46, Tryd.ntmps46
    go_wp2_with fail
    have b0 := Bd.new w
    have B0 : Below w.heap.size w (w.alloc (.cells #[.pointer none, .slice none 0 0] 75)) := (Below.refl _ _).alloc (Nat.le_refl _) _
    clear hc2 hc3 e2
    go_loopw [5, 18] (fun gv i wr => ∃ (k : Nat) (g : Bool) (acc : List UInt8), k + 1 ≤ t.size ∧ i = .int .i64 k ∧ gv = .bool g ∧ acc.length ≤ k ∧ Bd wr w.heap.size w.heap.size acc ∧ Hid (R = unqGo (t.data.toList.drop (k + 1)) g acc (k + 1)) ∧ Below w.heap.size w wr) (fun _ i _ => t.size - (intOf i).toNat)
    case atStart => exact ⟨0, false, [], by omega, rfl, rfl, by simp, b0, HS, B0⟩
    case round =>
      obtain ⟨k, g, acc, hk, rfl, rfl, hal, hbd, HT, hbl⟩ := hrel
      have z := hbl.size
      clear b0 B0
      by_cases hlt : k + 1 < t.size
      · have i0 : (k : Int) < (t.size : Int) - 1 := by omega
        cases g with
        | true =>
          by_cases hg : gN ((t[k + 1]).toNat : Int) = true
          · have HN : Hid (R = unqGo (t.data.toList.drop (k + 1 + 1)) false (acc ++ [t[k + 1]]) (k + 1 + 1)) := Lib.hid (by rw [HT.out, go_guard_yes hlt _ _ hg])
            go_wp2_with (go_at_call 48; refine (isGuarded_any _ _).mono ?_; rintro e w' ⟨rfl, rfl⟩)
            refine (wb_any w.heap.size w.heap.size _ t[k + 1] _ _ rfl hbd (by omega) z).mono ?_
            rintro e w3 ⟨rfl, b3, hB3⟩
            have B3 := hbl.trans hB3
            clear hbd hbl hB3
            go_wp2_with fail
            go_roundw
            case rel => exact ⟨k + 1, false, _, by omega, by go_num, rfl, by simp; omega, b3, HN, B3⟩
            case measure => simp [intOf]; omega
          · have hg : gN ((t[k + 1]).toNat : Int) = false := by simpa using hg
            have HF : Hid (R = ([], 0)) := Lib.hid (by rw [HT.out, go_guard_no hlt _ _ hg])
            go_wp2_with (go_at_call 48; refine (isGuarded_any _ _).mono ?_; rintro e w' ⟨rfl, rfl⟩)
            go_ret2
            exact ⟨by rw [HF.out]; rfl, hbl⟩
        | false =>
          by_cases h34 : ((t[k + 1]).toNat : Int) = 34
          · have HF : Hid (R = (acc, k + 1 + 1)) := Lib.hid (by rw [HT.out, go_quote hlt _ _ h34])
            have c1 : (((t[k + 1]).toNat : Int) == 34) = true := by rw [h34]; rfl
            have H34 := Lib.hid h34
            clear h34
            go_wp2_with fail
            refine (bstr_any w.heap.size w.heap.size _ _ hbd z).mono ?_
            rintro e w3 ⟨rfl, hB3⟩
            have B3 := hbl.trans hB3
            go_wp2_with fail
            go_ret2
            exact ⟨by rw [HF.out]; exact ret_unq rfl (by omega), B3⟩
          · have c1 : (((t[k + 1]).toNat : Int) == 34) = false := by simpa using h34
            by_cases h92 : ((t[k + 1]).toNat : Int) = 92
            · have HN : Hid (R = unqGo (t.data.toList.drop (k + 1 + 1)) true acc (k + 1 + 1)) := Lib.hid (by rw [HT.out, go_slash hlt _ _ h92])
              have c2 : (((t[k + 1]).toNat : Int) == 92) = true := by rw [h92]; rfl
              have H92 := Lib.hid h92
              clear h92 h34
              go_wp2_with fail
              go_roundw
              case rel => exact ⟨k + 1, true, _, by omega, by go_num, rfl, by omega, hbd, HN, hbl⟩
              case measure => simp [intOf]; omega
            · have c2 : (((t[k + 1]).toNat : Int) == 92) = false := by simpa using h92
              have HN : Hid (R = unqGo (t.data.toList.drop (k + 1 + 1)) false (acc ++ [t[k + 1]]) (k + 1 + 1)) := Lib.hid (by rw [HT.out, go_plain hlt _ _ h34 h92])
              clear h34 h92
              go_wp2_with fail
              refine (wb_any w.heap.size w.heap.size _ t[k + 1] _ _ rfl hbd (by omega) z).mono ?_
              rintro e w3 ⟨rfl, b3, hB3⟩
              have B3 := hbl.trans hB3
              clear hbd hbl hB3
              go_wp2_with fail
              go_roundw
              case rel => exact ⟨k + 1, false, _, by omega, by go_num, rfl, by simp; omega, b3, HN, B3⟩
              case measure => simp [intOf]; omega
      · have HF : Hid (R = ([], 0)) := Lib.hid (by rw [HT.out, go_end (by omega)])
        have i0 : ¬ (k : Int) < (t.size : Int) - 1 := by omega
        go_wp2_with fail
        go_ret2
        exact ⟨by rw [HF.out]; rfl, hbl⟩
  · have HF : Hid (unqB t = ([], 0)) := Lib.hid (unqB_no hpos hc)
    have hc2 : (((t[0]).toNat : Int) == 34) = false := by simpa using hc
    have hc3 : (((t[0]).toNat : Int) != 34) = true := by simpa using hc
    clear hc e1 h0
    go_enter Tryd.func46, Tryd.ntmps46
    go_wp2_with fail
    go_ret2
    exact ⟨by rw [HF.out]; rfl, Below.refl _ _⟩
end Go.Proofs.YtfmgphjnajgldaaDoor
