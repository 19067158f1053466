/- strings.IndexAny of the four signs, whatever the text. -/
import Derived.Test.YtfmgphjnajgldaaDoorIxD
import Derived.Test.YtfmgphjnajgldaaDoorMtQ
import Derived.Test.YtfmgphjnajgldaaDoorMtA
namespace Go.Proofs.YtfmgphjnajgldaaDoor
open Go.RowKit

theorem runeHi_any (r : Int) (w : World) (h128 : 128 ≤ r) (hr : r ≤ 1114111) (hv : Utf8.valid r = true) : Calls Tryd.prog 55 #[.string ⟨#[61, 33, 94, 42]⟩, .int .i32 r] w fun e w' => e = .returned (.int .i64 (-1)) ∧ Below w.heap.size w w' := by
  by_cases h : r = 65533
  · subst h; exact indexRune_err w
  · exact indexRune_hi r w h128 hr hv h

set_option maxRecDepth 100000 in
set_option maxHeartbeats 3200000 in
theorem idx_short (t : ByteArray) (h8 : t.size ≤ 8) : IdxOk t := by
  intro w
  have h8z : decide ((8 : Int) < (t.size : Int)) = false := decide_eq_false (by omega)
  go_enter Tryd.func44, Tryd.ntmps44
  go_wp2_with (go_at_call 56; refine (Tryd.strings_shouldUseASCIISet _ _).mono ?_; rintro e w' ⟨rfl, hw⟩; rw [hw, h8z])
  go_loopg [9, 10] t.size (fun g _ _ wx => ∃ i : Nat, i + g = t.size ∧ wx.heap[w.heap.size]? = some (.stringIter t i) ∧ Lib.NoAny t.data.toList sgL i ∧ Below w.heap.size w wx)
  case atStart => exact ⟨0, by omega, World.iter_heap w t 0, Lib.NoAny.zero _ _, below_iter (Below.refl _ _) (Nat.le_refl _) _ _⟩
  case round =>
    obtain ⟨i, hig, hit, hno, hbl⟩ := hrel
    rename World => wr
    have HN := Lib.hid hno
    have HIT := Lib.hid hit
    have hlt : w.heap.size < wr.heap.size := (Array.getElem?_eq_some_iff.1 hit).1
    clear hno hit
    by_cases hi : i < t.size
    · by_cases hlow : (t.get! i).toNat < 128
      · have hx := get_byte t i hi
        have e : t.get! i = t[i]'hi := by
          show t.get! i = _
          simp [ByteArray.get!, getElem!_pos, hi]
          rfl
        have hd := decode_ascii t i hi (by rw [← e]; exact hlow)
        rw [← e] at hd
        generalize t.get! i = x at *
        have hnx := fun ty => run_next_any Tryd.prog wr w.heap.size t i x.toNat 1 ty HIT.out hi hd
        have hback : ((x.toNat : Int)).toNat.toUInt8 = x := by simp
        have hcon := Lib.contains_iff_indexByte sgL x
        have hir := fun W => Tryd.strings_IndexRune_ascii ⟨#[61, 33, 94, 42]⟩ (x.toNat : Int) W (by omega) (by omega)
        have e5 : (⟨#[61, 33, 94, 42]⟩ : ByteArray).data.toList = sgL := rfl
        rw [hback, e5] at hir
        have HX := Lib.hid hx
        have hset := setIter_at hlt t (i + 1)
        have hbs := setIter_below hbl (Nat.le_refl w.heap.size) t (i + 1)
        generalize setIter wr w.heap.size t (i + 1) = w2 at *
        have HB := Lib.hid hbs
        have HSET := Lib.hid hset
        clear e hd hx hback e5 hset hbs hbl
        cases hin : sgL.contains x with
        | false =>
          rw [hin] at hcon
          have hno2 := HN.out.succ HX.out hin
          have HN2 := Lib.hid hno2
          have hneg : ¬ ((0 : Int) ≤ Lib.indexByte sgL x) := of_decide_eq_false hcon.symm
          generalize Lib.indexByte sgL x = ib at *
          have HIR := Lib.hid hir
          clear hcon hin hno2 hir
          go_wp2_with (go_at_call 55; refine (HIR.out _).mono ?_; rintro e w' ⟨rfl, hw⟩; rw [hw])
          go_roundg (t.size - (i + 1))
          case measure => omega
          case rel => exact ⟨i + 1, by omega, HSET.out, HN2.out, HB.out⟩
        | true =>
          rw [hin] at hcon
          have HF : Hid (Lib.indexAny t.data.toList sgL = (i : Int)) := Lib.hid (Lib.indexAny_hit HN.out HX.out hin)
          have hpos : (0 : Int) ≤ Lib.indexByte sgL x := of_decide_eq_true hcon.symm
          generalize Lib.indexByte sgL x = ib at *
          have HIR := Lib.hid hir
          clear hcon hin hir
          go_wp2_with (go_at_call 55; refine (HIR.out _).mono ?_; rintro e w' ⟨rfl, hw⟩; rw [hw])
          go_ret
          exact ⟨by rw [HF.out]; rfl, HB.out⟩
      · obtain ⟨r, n, hd, hr1, hr2, hr3, hn1, hhi⟩ := decode_hi t i hi (by omega)
        have hnx := fun ty => run_next_any Tryd.prog wr w.heap.size t i r n ty HIT.out hi hd
        have HN2 := Lib.hid (noAny_hi HN.out hhi)
        have hle := hhi.1
        have hset := setIter_at hlt t (i + n)
        have hbs := setIter_below hbl (Nat.le_refl w.heap.size) t (i + n)
        have hsz : w.heap.size < (setIter wr w.heap.size t (i + n)).heap.size := (Array.getElem?_eq_some_iff.1 hset).1
        generalize setIter wr w.heap.size t (i + n) = w2 at *
        have HB := Lib.hid hbs
        have HSET := Lib.hid hset
        have HIR := Lib.hid (runeHi_any (r : Int) w2 (by omega) (by omega) hr3)
        clear hd hr3 hhi hset hbs hbl
        go_wp2_with (go_at_call 55; refine HIR.out.mono ?_; rintro e w3 ⟨rfl, hb3⟩)
        go_roundg (t.size - (i + n))
        case measure => omega
        case rel => exact ⟨i + n, by omega, by rw [hb3.block _ hsz]; exact HSET.out, HN2.out, HB.out.trans (hb3.mono (Nat.le_of_lt hsz))⟩
    · have hnx := fun ty => run_next_over Tryd.prog wr w.heap.size t i ty HIT.out hi
      have HF : Hid (Lib.indexAny t.data.toList sgL = -1) := Lib.hid (by
        have hie : i = t.data.toList.length := by simp; omega
        exact Lib.indexAny_none (by rw [← hie]; exact HN.out))
      go_wp2_with fail
      go_ret
      exact ⟨by rw [HF.out]; rfl, hbl⟩

theorem idx_any (t : ByteArray) (hs : t.size ≤ 4000000000) : IdxOk t := by
  by_cases h8 : t.size ≤ 8
  · exact idx_short t h8
  · intro W
    have hac : ∀ (j : Nat) b, (⟨#[61, 33, 94, 42]⟩ : ByteArray).data.toList[j]? = some b → b.toNat < 128 := fun j b hb => by
      have h : b ∈ ([61, 33, 94, 42] : List UInt8) := List.mem_of_getElem? hb
      simp at h
      rcases h with rfl | rfl | rfl | rfl <;> decide
    have h116 : (Tryd.prog.info? 85).map (fun i => (i.zero, i.size)) = some (some (.agg (Array.replicate 256 (.bool false))), 256) := by kernel_rfl
    refine (Tryd.strings_IndexAny_long (Go.zero_of_info h116).1 t ⟨#[61, 33, 94, 42]⟩ W (by decide) (by omega) (by omega) (by decide) hac).mono ?_
    rintro e w' ⟨rfl, rfl⟩
    exact ⟨rfl, ((Below.refl _ _).alloc (Nat.le_refl _) _).alloc (by simp) _⟩
end Go.Proofs.YtfmgphjnajgldaaDoor
