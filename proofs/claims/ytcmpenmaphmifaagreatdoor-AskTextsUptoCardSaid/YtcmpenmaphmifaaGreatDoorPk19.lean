/- strings.IndexAny of the four signs, whatever the text. -/
import Derived.Test.YtcmpenmaphmifaaGreatDoorPk18
import Derived.Lib.IndexAny
import Derived.Test.YtcmpenmaphmifaaGreatDoorPk17
namespace Go.Proofs.YtcmpenmaphmifaaGreatDoor
open Go.RowKit

theorem get_byte (s : ByteArray) (k : Nat) (h : k < s.size) : s.data.toList[k]? = some (s.get! k) := by
  have e : s.get! k = s[k]'h := by
    show s.get! k = _
    simp [ByteArray.get!, getElem!_pos, h]
    rfl
  rw [e]
  exact Lib.data_getElem? s k h
/-- From pos on n bytes stand in s, none of them ASCII. -/
def HiN (s : ByteArray) (pos n : Nat) : Prop := pos + n ≤ s.size ∧ ∀ j, pos ≤ j → j < pos + n → 128 ≤ (s.get! j).toNat
theorem decode_hi (s : ByteArray) (pos : Nat) (h : pos < s.size) (ha : 128 ≤ (s.get! pos).toNat) :
    ∃ r n : Nat, Utf8.decode s pos = (r, n) ∧ 128 ≤ r ∧ r ≤ 1114111 ∧ Utf8.valid (r : Int) = true ∧ 1 ≤ n ∧ HiN s pos n := by
  have err : 128 ≤ 65533 ∧ 65533 ≤ 1114111 ∧ Utf8.valid ((65533 : Nat) : Int) = true ∧ 1 ≤ 1 ∧ HiN s pos 1 := ⟨by decide, by decide, by decide, by decide, by omega, fun j h1 h2 => by
    obtain rfl : j = pos := by omega
    exact ha⟩
  have hb0 : ¬ (s.get! (pos + 0)).toNat < 128 := by rw [Nat.add_zero]; omega
  have lt1 := (s.get! (pos + 0)).toNat_lt
  have lt2 := (s.get! (pos + 1)).toNat_lt
  have lt3 := (s.get! (pos + 2)).toNat_lt
  have lt4 := (s.get! (pos + 3)).toNat_lt
  have hv : ∀ c : Nat, 128 ≤ c → Utf8.valid (c : Int) = true → c ≤ 1114111 := fun c _ hc => by
    unfold Utf8.valid at hc
    simp at hc
    omega
  have hi : ∀ n, n ≤ 4 → (∀ k, 1 ≤ k → k < n → (decide (pos + k < s.size) && (s.get! (pos + k)).toNat / 64 == 2) = true) → HiN s pos (max n 1) := by
    intro n hn hc
    have hh : ∀ k, k < max n 1 → pos + k < s.size ∧ 128 ≤ (s.get! (pos + k)).toNat := by
      intro k hk
      by_cases h0 : k = 0
      · subst h0; exact ⟨by omega, by rw [Nat.add_zero]; exact ha⟩
      · have := hc k (by omega) (by omega)
        rw [Bool.and_eq_true, decide_eq_true_eq, beq_iff_eq] at this
        exact ⟨this.1, by omega⟩
    refine ⟨?_, fun j h1 h2 => ?_⟩
    · have := (hh (max n 1 - 1) (by omega)).1
      omega
    · have := (hh (j - pos) (by omega)).2
      rw [show pos + (j - pos) = j by omega] at this
      exact this
  unfold Utf8.decode Utf8.runeError
  simp only [hb0, if_false]
  split
  · rename_i hc
    split
    · rename_i h80
      rw [Bool.and_eq_true] at hc
      have h1 := hi 2 (by omega) (fun k a b => by obtain rfl : k = 1 := (by omega); exact hc.2)
      exact ⟨_, _, rfl, by omega, by omega, by unfold Utf8.valid; simp; omega, by omega, h1⟩
    · exact ⟨_, _, rfl, err⟩
  · split
    · rename_i hc
      split
      · rename_i h80
        rw [Bool.and_eq_true, Bool.and_eq_true] at hc
        rw [Bool.and_eq_true, decide_eq_true_eq] at h80
        have h1 := hi 3 (by omega) (fun k a b => by
          have : k = 1 ∨ k = 2 := by omega
          rcases this with rfl | rfl
          · exact hc.1.2
          · exact hc.2)
        exact ⟨_, _, rfl, by omega, hv _ (by omega) h80.2, h80.2, by omega, h1⟩
      · exact ⟨_, _, rfl, err⟩
    · split
      · rename_i hc
        split
        · rename_i h80
          rw [Bool.and_eq_true, Bool.and_eq_true, Bool.and_eq_true] at hc
          rw [Bool.and_eq_true, decide_eq_true_eq] at h80
          have h1 := hi 4 (by omega) (fun k a b => by
            have : k = 1 ∨ k = 2 ∨ k = 3 := by omega
            rcases this with rfl | rfl | rfl
            · exact hc.1.1.2
            · exact hc.1.2
            · exact hc.2)
          exact ⟨_, _, rfl, by omega, hv _ (by omega) h80.2, h80.2, by omega, h1⟩
        · exact ⟨_, _, rfl, err⟩
      · exact ⟨_, _, rfl, err⟩

theorem noAny_hi {s : ByteArray} {pos n : Nat} (h : Lib.NoAny s.data.toList sgL pos) (hn : HiN s pos n) : Lib.NoAny s.data.toList sgL (pos + n) := fun j b hj hb => by
  by_cases hlt : j < pos
  · exact h j b hlt hb
  · have h1 := hn.2 j (by omega) hj
    have h2 := get_byte s j (by have := hn.1; omega)
    rw [h2] at hb
    injection hb with hb
    subst hb
    rw [Bool.eq_false_iff]
    intro hc
    simp [sgL] at hc
    rcases hc with e | e | e | e <;> rw [e] at h1 <;> exact absurd h1 (by decide)

/-- The world in which the iterator at block b stands at pos. -/
def setIter (w : World) (b : Nat) (s : ByteArray) (pos : Nat) : World := { w with heap := w.heap.setIfInBounds b (.stringIter s pos) }
theorem setIter_at {w : World} {b : Nat} (h : b < w.heap.size) (s : ByteArray) (pos : Nat) : (setIter w b s pos).heap[b]? = some (.stringIter s pos) := by
  simp [setIter, h]
theorem setIter_below {B b : Nat} {a w : World} (h : Below B a w) (hB : B ≤ b) (s : ByteArray) (pos : Nat) : Below B a (setIter w b s pos) :=
  ⟨h.os, h.tape, h.output, by simpa [setIter] using h.size, fun k hk => by
    rw [← h.block k hk]
    simp only [setIter, Array.getElem?_setIfInBounds]
    rw [if_neg (by omega)]⟩
theorem run_next_any (P : Program) (w : World) (b : Nat) (s : ByteArray) (pos r n : Nat) (ty : TypeId) (hb : w.heap[b]? = some (.stringIter s pos)) (h : pos < s.size) (hd : Utf8.decode s pos = (r, n)) :
    (Instr.next (.pointer (some ⟨b, 0, none⟩)) true ty).run P w = .ok (.tuple #[.bool true, .int .i64 pos, .int .i32 r]) (setIter w b s (pos + n)) := by
  simp only [Instr.next, getObj, setObj, Sem.run_bind, Sem.run, hb, Result.andThen, h, if_true, hd]
  simp [goInt, setIter]
theorem run_next_over (P : Program) (w : World) (b : Nat) (s : ByteArray) (pos : Nat) (ty : TypeId) (hb : w.heap[b]? = some (.stringIter s pos)) (h : ¬ pos < s.size) :
    (Instr.next (.pointer (some ⟨b, 0, none⟩)) true ty).run P w = .ok (.tuple #[.bool false]) w := by
  simp [Instr.next, getObj, Sem.run, hb, h]
end Go.Proofs.YtcmpenmaphmifaaGreatDoor
namespace Go.Proofs.YtcmpenmaphmifaaGreatDoor
open Go.RowKit

theorem idx_ascii (t : ByteArray) (hs : t.size ≤ 4000000000) (ha : ∀ b ∈ t.data.toList, b.toNat < 128) : IdxOk t := by
  intro W
  refine (Tryz.strings_IndexAny_laid t ⟨#[61, 33, 94, 42]⟩ W (by omega) (by decide) (fun j b hb => ha b (List.mem_of_getElem? hb)) (fun j b hb => ?_)).mono ?_
  · have h : b ∈ ([61, 33, 94, 42] : List UInt8) := List.mem_of_getElem? hb
    simp at h
    rcases h with rfl | rfl | rfl | rfl <;> decide
  · rintro e w' ⟨rfl, hb⟩
    exact ⟨rfl, hb⟩
theorem idx_awake (k : Nat) : IdxOk ((⟨#[123, 97, 61, 34, 120, 34, 125, 46, 46]⟩ : ByteArray).extract k (⟨#[123, 97, 61, 34, 120, 34, 125, 46, 46]⟩ : ByteArray).size) := by
  have hsz : (⟨#[123, 97, 61, 34, 120, 34, 125, 46, 46]⟩ : ByteArray).size = 9 := rfl
  refine idx_ascii _ (by rw [ex_size, hsz]; omega) fun b hb => ?_
  rw [ex_list] at hb
  have h := List.mem_of_mem_drop hb
  have h2 : b ∈ ([123, 97, 61, 34, 120, 34, 125, 46, 46] : List UInt8) := h
  simp at h2
  rcases h2 with rfl | rfl | rfl | rfl | rfl | rfl | rfl | rfl <;> decide

end Go.Proofs.YtcmpenmaphmifaaGreatDoor
namespace Go.Proofs.YtcmpenmaphmifaaGreatDoor
open Go.RowKit

theorem runeHi_any (r : Int) (w : World) (h128 : 128 ≤ r) (hr : r ≤ 1114111) (hv : Utf8.valid r = true) : Calls Tryz.prog 124 #[.string ⟨#[61, 33, 94, 42]⟩, .int .i32 r] w fun e w' => e = .returned (.int .i64 (-1)) ∧ Below w.heap.size w w' := by
  by_cases h : r = 65533
  · subst h; exact indexRune_err w
  · exact indexRune_hi r w h128 hr hv h

set_option maxRecDepth 100000 in
set_option maxHeartbeats 3200000 in
theorem idx_short (t : ByteArray) (h8 : t.size ≤ 8) : IdxOk t := by
  intro w
  have h8z : decide ((8 : Int) < (t.size : Int)) = false := decide_eq_false (by omega)
  go_enter Tryz.func92, Tryz.ntmps92
  go_wp2_with (go_at_call 125; refine (Tryz.strings_shouldUseASCIISet _ _).mono ?_; rintro e w' ⟨rfl, hw⟩; rw [hw, h8z])
  go_loopg [9, 10] t.size (fun g _ _ wx => ∃ i : Nat, i + g = t.size ∧ wx.heap[w.heap.size]? = some (.stringIter t i) ∧ Lib.NoAny t.data.toList sgL i ∧ Below w.heap.size w wx)
  case atStart => exact ⟨0, by omega, World.iter_heap w t 0, Lib.NoAny.zero _ _, below_iter (Below.refl _ _) (Nat.le_refl _) _ _⟩
  case round =>
    obtain ⟨i, hig, hit, hno, hbl⟩ := hrel
    rename World => wr
    have HN := Lib.hid hno
    have HIT := Lib.hid hit
    have hlt : w.heap.size < wr.heap.size := (Array.getElem?_eq_some_iff.1 hit).1
    clear hno hit
    by_cases hi : i < t.size
    · by_cases hlow : (t.get! i).toNat < 128
      · have hx := get_byte t i hi
        have e : t.get! i = t[i]'hi := by
          show t.get! i = _
          simp [ByteArray.get!, getElem!_pos, hi]
          rfl
        have hd := decode_ascii t i hi (by rw [← e]; exact hlow)
        rw [← e] at hd
        generalize t.get! i = x at *
        have hnx := fun ty => run_next_any Tryz.prog wr w.heap.size t i x.toNat 1 ty HIT.out hi hd
        have hback : ((x.toNat : Int)).toNat.toUInt8 = x := by simp
        have hcon := Lib.contains_iff_indexByte sgL x
        have hir := fun W => Tryz.strings_IndexRune_ascii ⟨#[61, 33, 94, 42]⟩ (x.toNat : Int) W (by omega) (by omega)
        have e5 : (⟨#[61, 33, 94, 42]⟩ : ByteArray).data.toList = sgL := rfl
        rw [hback, e5] at hir
        have HX := Lib.hid hx
        have hset := setIter_at hlt t (i + 1)
        have hbs := setIter_below hbl (Nat.le_refl w.heap.size) t (i + 1)
        generalize setIter wr w.heap.size t (i + 1) = w2 at *
        have HB := Lib.hid hbs
        have HSET := Lib.hid hset
        clear e hd hx hback e5 hset hbs hbl
        cases hin : sgL.contains x with
        | false =>
          rw [hin] at hcon
          have hno2 := HN.out.succ HX.out hin
          have HN2 := Lib.hid hno2
          have hneg : ¬ ((0 : Int) ≤ Lib.indexByte sgL x) := of_decide_eq_false hcon.symm
          generalize Lib.indexByte sgL x = ib at *
          have HIR := Lib.hid hir
          clear hcon hin hno2 hir
          go_wp2_with (go_at_call 124; refine (HIR.out _).mono ?_; rintro e w' ⟨rfl, hw⟩; rw [hw])
          go_roundg (t.size - (i + 1))
          case measure => omega
          case rel => exact ⟨i + 1, by omega, HSET.out, HN2.out, HB.out⟩
        | true =>
          rw [hin] at hcon
          have HF : Hid (Lib.indexAny t.data.toList sgL = (i : Int)) := Lib.hid (Lib.indexAny_hit HN.out HX.out hin)
          have hpos : (0 : Int) ≤ Lib.indexByte sgL x := of_decide_eq_true hcon.symm
          generalize Lib.indexByte sgL x = ib at *
          have HIR := Lib.hid hir
          clear hcon hin hir
          go_wp2_with (go_at_call 124; refine (HIR.out _).mono ?_; rintro e w' ⟨rfl, hw⟩; rw [hw])
          go_ret
          exact ⟨by rw [HF.out]; rfl, HB.out⟩
      · obtain ⟨r, n, hd, hr1, hr2, hr3, hn1, hhi⟩ := decode_hi t i hi (by omega)
        have hnx := fun ty => run_next_any Tryz.prog wr w.heap.size t i r n ty HIT.out hi hd
        have HN2 := Lib.hid (noAny_hi HN.out hhi)
        have hle := hhi.1
        have hset := setIter_at hlt t (i + n)
        have hbs := setIter_below hbl (Nat.le_refl w.heap.size) t (i + n)
        have hsz : w.heap.size < (setIter wr w.heap.size t (i + n)).heap.size := (Array.getElem?_eq_some_iff.1 hset).1
        generalize setIter wr w.heap.size t (i + n) = w2 at *
        have HB := Lib.hid hbs
        have HSET := Lib.hid hset
        have HIR := Lib.hid (runeHi_any (r : Int) w2 (by omega) (by omega) hr3)
        clear hd hr3 hhi hset hbs hbl
        go_wp2_with (go_at_call 124; refine HIR.out.mono ?_; rintro e w3 ⟨rfl, hb3⟩)
        go_roundg (t.size - (i + n))
        case measure => omega
        case rel => exact ⟨i + n, by omega, by rw [hb3.block _ hsz]; exact HSET.out, HN2.out, HB.out.trans (hb3.mono (Nat.le_of_lt hsz))⟩
    · have hnx := fun ty => run_next_over Tryz.prog wr w.heap.size t i ty HIT.out hi
      have HF : Hid (Lib.indexAny t.data.toList sgL = -1) := Lib.hid (by
        have hie : i = t.data.toList.length := by simp; omega
        exact Lib.indexAny_none (by rw [← hie]; exact HN.out))
      go_wp2_with fail
      go_ret
      exact ⟨by rw [HF.out]; rfl, hbl⟩

set_option maxRecDepth 100000 in
theorem idx_any (t : ByteArray) (hs : t.size ≤ 4000000000) : IdxOk t := by
  by_cases h8 : t.size ≤ 8
  · exact idx_short t h8
  · intro W
    have hac : ∀ (j : Nat) b, (⟨#[61, 33, 94, 42]⟩ : ByteArray).data.toList[j]? = some b → b.toNat < 128 := fun j b hb => by
      have h : b ∈ ([61, 33, 94, 42] : List UInt8) := List.mem_of_getElem? hb
      simp at h
      rcases h with rfl | rfl | rfl | rfl <;> decide
    have h116 : (Tryz.prog.info? 209).map (fun i => (i.zero, i.size)) = some (some (.agg (Array.replicate 256 (.bool false))), 256) := by kernel_rfl
    refine (Tryz.strings_IndexAny_long (Go.zero_of_info h116).1 t ⟨#[61, 33, 94, 42]⟩ W (by decide) (by omega) (by omega) (by decide) hac).mono ?_
    rintro e w' ⟨rfl, rfl⟩
    exact ⟨rfl, ((Below.refl _ _).alloc (Nat.le_refl _) _).alloc (by simp) _⟩
end Go.Proofs.YtcmpenmaphmifaaGreatDoor
