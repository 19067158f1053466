/- strings.IndexRune of a rune beyond ASCII in the four signs' text: none. -/
import Derived.Test.YtfmgphjnajgldaaDoorMtPM
import Derived.Test.YtfmgphjnajgldaaDoorShelf
import Derived.Test.YtfmgphjnajgldaaDoorBase
import Derived.Laws.RangeString
import Derived.Laws.Runes
import Derived.Deep.LoopGhost
import Derived.Deep.QuietTactic
import Derived.BigQuiet
import Derived.LoopTactic
namespace Go.Proofs.YtfmgphjnajgldaaDoor
open Go.RowKit

theorem indexByte_hi (l : List UInt8) (c : UInt8) (h : ∀ b ∈ l, b ≠ c) : Lib.indexByte l c = -1 := by
  induction l with
  | nil => rfl
  | cons b l ih =>
    have h1 := h b (by simp)
    have h2 := ih fun x hx => h x (by simp [hx])
    unfold Lib.indexByte
    rw [h2]
    have : (b == c) = false := by simpa using h1
    simp [this]
def sgS : ByteArray := ⟨#[61, 33, 94, 42]⟩
theorem below_iter {B : Nat} {a w : World} (h : Below B a w) (hB : B ≤ w.heap.size) (s : ByteArray) (p : Nat) : Below B a (w.iter s p) := h.alloc hB _
set_option maxRecDepth 100000 in
set_option maxHeartbeats 3200000 in
theorem indexRune_err (w : World) : Calls Tryd.prog 55 #[.string sgS, .int .i32 65533] w fun e w' => e = .returned (.int .i64 (-1)) ∧ Below w.heap.size w w' := by
  go_enter Tryd.func55, Tryd.ntmps55
  go_wp2_with fail
  go_loopg [5, 6] 4 (fun g _ _ wx => ∃ i : Nat, i + g = 4 ∧ wx = w.iter sgS i)
  case atStart => exact ⟨0, by omega, rfl⟩
  case round =>
    obtain ⟨i, hig, rfl⟩ := hrel
    cases gk with
    | zero =>
      obtain rfl : i = 4 := by omega
      have hnx := fun ty => run_next_end (P := Tryd.prog) w sgS 4 ty (by decide)
      go_wp2_with fail
      go_ret
      exact ⟨rfl, below_iter (Below.refl _ _) (Nat.le_refl _) _ _⟩
    | succ g =>
      have hi : i = 0 ∨ i = 1 ∨ i = 2 ∨ i = 3 := by omega
      have hgg : i + 1 + g = 4 := by omega
      clear hig
      obtain ⟨x, hx, hx2⟩ : ∃ x : Nat, (∀ ty, (Instr.next (.pointer (some ⟨w.heap.size, 0, none⟩)) true ty).run Tryd.prog (w.iter sgS i) = .ok (.tuple #[.bool true, .int .i64 i, .int .i32 x]) (w.iter sgS (i + 1))) ∧ x < 128 := by
        rcases hi with rfl | rfl | rfl | rfl
        · exact ⟨61, fun ty => run_next_ascii (P := Tryd.prog) w sgS 0 ty (by decide) (by decide), by decide⟩
        · exact ⟨33, fun ty => run_next_ascii (P := Tryd.prog) w sgS 1 ty (by decide) (by decide), by decide⟩
        · exact ⟨94, fun ty => run_next_ascii (P := Tryd.prog) w sgS 2 ty (by decide) (by decide), by decide⟩
        · exact ⟨42, fun ty => run_next_ascii (P := Tryd.prog) w sgS 3 ty (by decide) (by decide), by decide⟩
      have hx3 : ((x : Int) == 65533) = false := beq_eq_false_iff_ne.2 (by omega)
      go_wp2_with fail
      go_roundg g
      case measure => omega
      case rel => exact ⟨i + 1, hgg, rfl⟩

set_option maxRecDepth 100000 in
set_option maxHeartbeats 3200000 in
theorem indexRune_hi (r : Int) (w : World) (h128 : 128 ≤ r) (hr : r ≤ 1114111) (hv : Utf8.valid r = true) (hne : r ≠ 65533) : Calls Tryd.prog 55 #[.string ⟨#[61, 33, 94, 42]⟩, .int .i32 r] w fun e w' => e = .returned (.int .i64 (-1)) ∧ Below w.heap.size w w' := by
  obtain ⟨e2, e4, elast⟩ := encode_facts r hv h128
  have hvr : Lib.validRune r = true := by
    unfold Utf8.valid at hv
    unfold Lib.validRune
    simp at hv ⊢
    omega
  have hn1 : (r == 65533) = false := beq_eq_false_iff_ne.2 hne
  have hlast : ∃ c : UInt8, (∀ h : (Utf8.encode r).size - 1 < (Utf8.encode r).size, (Utf8.encode r)[(Utf8.encode r).size - 1]'h = c) ∧ 128 ≤ c.toNat := ⟨(Utf8.encode r)[(Utf8.encode r).size - 1]'(by omega), fun _ => rfl, elast (by omega)⟩
  obtain ⟨c, hc, hc128⟩ := hlast
  have hib : ∀ k : Nat, Lib.indexByte (([61, 33, 94, 42] : List UInt8).drop k) c = -1 := fun k => indexByte_hi _ c fun b hb => by
    have hm := List.mem_of_mem_drop hb
    simp at hm
    rintro rfl
    rcases hm with rfl | rfl | rfl | rfl <;> exact absurd hc128 (by decide)
  clear hv hne elast
  have HVR := Lib.hid hvr
  have HC := Lib.hid hc
  have HIB := Lib.hid hib
  clear hvr hc hib
  go_enter Tryd.func55, Tryd.ntmps55
  go_wp2_with (go_at_call 63; refine (Tryd.utf8_ValidRune r _).mono ?_; rintro e w' ⟨rfl, rfl⟩; rw [HVR.out])
  go_step3
  have j0 : (0 : Int) ≤ ((Utf8.encode r).size : Int) - 1 := by omega
  go_wp2_with fail
  generalize Utf8.encode r = E at *
  have hsz : E.size = 2 ∨ E.size = 3 ∨ E.size = 4 := by omega
  rcases hsz with hsz | hsz | hsz
  · have hcE : ∃ h, E[1]'h = c := ⟨by omega, by have := HC.out (by omega); simpa only [hsz] using this⟩
    obtain ⟨hb, hcE⟩ := hcE
    have hc9 : (⟨#[61, 33, 94, 42]⟩ : ByteArray)[1]'(by decide) = 33 := rfl
    have hne : ((((⟨#[61, 33, 94, 42]⟩ : ByteArray)[1]'(by decide)).toNat : Int) != (c.toNat : Int)) = true := by
      rw [hc9, bne_iff_ne]
      have : (33 : UInt8).toNat = 33 := rfl
      omega
    have HIX : Hid (∀ W, Calls Tryd.prog 62 #[.string ((⟨#[61, 33, 94, 42]⟩ : ByteArray).extract 2 4), .int .u8 (c.toNat : Int)] W fun e w' => e = .returned (.int .i64 (-1)) ∧ w' = W) := Lib.hid (fun W => by
      have h := Tryd.strings_IndexByte ((⟨#[61, 33, 94, 42]⟩ : ByteArray).extract 2 4) (c.toNat : Int) W
      have e1 : ((⟨#[61, 33, 94, 42]⟩ : ByteArray).extract 2 4).data.toList = ([61, 33, 94, 42] : List UInt8).drop 2 := rfl
      have e2 : ((c.toNat : Int)).toNat.toUInt8 = c := by simp
      rw [e1, e2, HIB.out 2] at h
      exact h)
    clear hc9
    have HZ := Lib.hid hsz
    clear HC HIB e2 e4 j0
    rw [hsz]
    clear hsz
    go_loop [9] (fun i => i = .int .i64 1) (fun _ => 0)
    case atStart => rfl
    case round =>
      obtain rfl := hrel
      go_wp2_with fail
      go_step3
      go_wp2_with fail
      go_quiet (fail)
      generalize hW : World.drewN w' _ = W2
      have BW : Below w'.heap.size w' W2 := hW ▸ ⟨rfl, rfl, rfl, Nat.le_refl _, fun _ _ => rfl⟩
      clear hW
      go_wp2_with fail
      go_quiet ((go_at_call 62; exact Calls.quiet_of_same (HIX.out _)))
      all_goals go_wp2_with fail
      all_goals (try rw [Exit.noGoto_ret])
      all_goals go_wp2_with fail
      all_goals (try rw [Exit.noGoto_ret])
      all_goals (try go_wp2_with fail)
      all_goals go_ret
      all_goals exact ⟨rfl, BW.trans ⟨rfl, rfl, rfl, Nat.le_refl _, fun _ _ => rfl⟩⟩
  · have hcE : ∃ h, E[2]'h = c := ⟨by omega, by have := HC.out (by omega); simpa only [hsz] using this⟩
    obtain ⟨hb, hcE⟩ := hcE
    have hc9 : (⟨#[61, 33, 94, 42]⟩ : ByteArray)[2]'(by decide) = 94 := rfl
    have hne : ((((⟨#[61, 33, 94, 42]⟩ : ByteArray)[2]'(by decide)).toNat : Int) != (c.toNat : Int)) = true := by
      rw [hc9, bne_iff_ne]
      have : (94 : UInt8).toNat = 94 := rfl
      omega
    have HIX : Hid (∀ W, Calls Tryd.prog 62 #[.string ((⟨#[61, 33, 94, 42]⟩ : ByteArray).extract 3 4), .int .u8 (c.toNat : Int)] W fun e w' => e = .returned (.int .i64 (-1)) ∧ w' = W) := Lib.hid (fun W => by
      have h := Tryd.strings_IndexByte ((⟨#[61, 33, 94, 42]⟩ : ByteArray).extract 3 4) (c.toNat : Int) W
      have e1 : ((⟨#[61, 33, 94, 42]⟩ : ByteArray).extract 3 4).data.toList = ([61, 33, 94, 42] : List UInt8).drop 3 := rfl
      have e2 : ((c.toNat : Int)).toNat.toUInt8 = c := by simp
      rw [e1, e2, HIB.out 3] at h
      exact h)
    clear hc9
    have HZ := Lib.hid hsz
    clear HC HIB e2 e4 j0
    rw [hsz]
    clear hsz
    go_loop [9] (fun i => i = .int .i64 2) (fun _ => 0)
    case atStart => rfl
    case round =>
      obtain rfl := hrel
      go_wp2_with fail
      go_step3
      go_wp2_with fail
      go_quiet (fail)
      generalize hW : World.drewN w' _ = W2
      have BW : Below w'.heap.size w' W2 := hW ▸ ⟨rfl, rfl, rfl, Nat.le_refl _, fun _ _ => rfl⟩
      clear hW
      go_wp2_with fail
      go_quiet ((go_at_call 62; exact Calls.quiet_of_same (HIX.out _)))
      all_goals go_wp2_with fail
      all_goals (try rw [Exit.noGoto_ret])
      all_goals go_wp2_with fail
      all_goals (try rw [Exit.noGoto_ret])
      all_goals (try go_wp2_with fail)
      all_goals go_ret
      all_goals exact ⟨rfl, BW.trans ⟨rfl, rfl, rfl, Nat.le_refl _, fun _ _ => rfl⟩⟩
  · have hcE : ∃ h, E[3]'h = c := ⟨by omega, by have := HC.out (by omega); simpa only [hsz] using this⟩
    obtain ⟨hb, hcE⟩ := hcE
    have hc9 : (⟨#[61, 33, 94, 42]⟩ : ByteArray)[3]'(by decide) = 42 := rfl
    have hne : ((((⟨#[61, 33, 94, 42]⟩ : ByteArray)[3]'(by decide)).toNat : Int) != (c.toNat : Int)) = true := by
      rw [hc9, bne_iff_ne]
      have : (42 : UInt8).toNat = 42 := rfl
      omega
    have HIX : Hid (∀ W, Calls Tryd.prog 62 #[.string ((⟨#[61, 33, 94, 42]⟩ : ByteArray).extract 4 4), .int .u8 (c.toNat : Int)] W fun e w' => e = .returned (.int .i64 (-1)) ∧ w' = W) := Lib.hid (fun W => by
      have h := Tryd.strings_IndexByte ((⟨#[61, 33, 94, 42]⟩ : ByteArray).extract 4 4) (c.toNat : Int) W
      have e1 : ((⟨#[61, 33, 94, 42]⟩ : ByteArray).extract 4 4).data.toList = ([61, 33, 94, 42] : List UInt8).drop 4 := rfl
      have e2 : ((c.toNat : Int)).toNat.toUInt8 = c := by simp
      rw [e1, e2, HIB.out 4] at h
      exact h)
    clear hc9
    have HZ := Lib.hid hsz
    clear HC HIB e2 e4 j0
    rw [hsz]
    clear hsz
    go_loop [9] (fun i => i = .int .i64 3) (fun _ => 0)
    case atStart => rfl
    case round =>
      obtain rfl := hrel
      go_wp2_with fail
      go_step3
      go_wp2_with fail
      go_quiet (fail)
      generalize hW : World.drewN w' _ = W2
      have BW : Below w'.heap.size w' W2 := hW ▸ ⟨rfl, rfl, rfl, Nat.le_refl _, fun _ _ => rfl⟩
      clear hW
      go_wp2_with fail
      go_quiet ((go_at_call 62; exact Calls.quiet_of_same (HIX.out _)))
      all_goals go_wp2_with fail
      all_goals (try rw [Exit.noGoto_ret])
      all_goals go_wp2_with fail
      all_goals (try rw [Exit.noGoto_ret])
      all_goals (try go_wp2_with fail)
      all_goals go_ret
      all_goals exact ⟨rfl, BW.trans ⟨rfl, rfl, rfl, Nat.le_refl _, fun _ _ => rfl⟩⟩
end Go.Proofs.YtfmgphjnajgldaaDoor
