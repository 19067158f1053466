/- The law WireLays: its walk. -/
import Derived.Test.YtojkbndaleiaaaaDoorLaid
import Derived.Test.YtojkbndaleiaaaaDoorWAwake
namespace Go.Proofs.YtojkbndaleiaaaaDoor
open Go.RowKit

theorem one_x : ([] : List UInt8) ++ numB (ByteArray.size ⟨#[120]⟩) ++ (ByteArray.data ⟨#[120]⟩).toList = [1, 120] := by decide +kernel
set_option maxRecDepth 100000 in
set_option maxHeartbeats 6400000 in
theorem wlays_any (l : List Itm) (A : Option Addr) (c : Nat) (w : World) (h : Sr encIt 9 w w.heap.size A c l) (hok : ∀ i ∈ l, i.ok) (hw : Wid w) (hsz : (encs l).length + 32 ≤ 140737488355328) :
    Calls Tryd.prog 3 #[.slice A l.length c] w fun e w' => e = .returned (.bool true) ∧ Below w.heap.size w w' := by
  have HA := Lib.hid (laid_any l A c w h hok hw hsz)
  clear h hok hw hsz
  generalize encs l = m at *
  obtain ⟨sx, hsx⟩ : ∃ s, s = strB m := ⟨_, rfl⟩
  have HSX := Lib.hid hsx
  clear hsx
  go_enter Tryd.func3, Tryd.ntmps3
  go_wp2_with (first
    | (go_at_call 8; go_loud (refine HA.out.mono ?_; rintro e w1 ⟨A1, c1, A2, c2, rfl, o1, o2, b1⟩; have z1 := b1.size))
    | (go_at_call 9; go_loud (refine (new_any _).mono ?_; rintro e w2 ⟨rfl, rfl⟩))
    | (go_at_call 10; go_loud (refine (wtext_any ⟨#[120]⟩ w1.heap.size w1.heap.size (.slice none 0 0) [] _ (wr_new w1 _ (Nat.le_refl _)) (by decide)).mono ?_; rw [one_x]; rintro e w3 ⟨v3, hs⟩; have he := hs.e; subst he; have b3 : Below w1.heap.size w1 w3 := ((Tn.alloc (P := fun k => w1.heap.size ≤ k) w1 _).thenQ hs.tn (fun k _ e => by rcases e with e | e; exact Nat.le_of_eq e.symm; cases e)).below (Nat.le_refl _) (fun _ _ e => e); have r3 := hs.wr; have z3 := b3.size; clear hs))
    | (go_at_call 11; go_loud (refine (wbytes_any w1.heap.size w1.heap.size v3 [1, 120] _ r3 (by decide)).mono ?_; rintro e w4 ⟨A4, c4, rfl, o4, b4⟩; have z4 := b4.size))
    | fail)
  obtain ⟨g, rfl, hg1, hg2⟩ := o4.addr (by decide)
  have O1 := Lib.hid (o1.below ((b3.trans (b4.mono z3))))
  have O2 := Lib.hid (o2.below ((b3.trans (b4.mono z3))))
  have R4 := Lib.hid (r3.below b4)
  have hbW : Below w.heap.size w w4 := b1.trans ((b3.trans (b4.mono z3)).mono z1)
  have lo1 := fun k e => (o1.lt k e).2
  have lo2 := fun k e => (o2.lt k e).2
  have lo3 := fun k e => (r3.ob.lt k e).2
  have lo4 := r3.lt
  have LO := Lib.hid (And.intro lo1 (And.intro lo2 (And.intro lo3 lo4)))
  have HBW := Lib.hid hbW
  clear o1 o2 r3 lo1 lo2 lo3 lo4 hbW
  go_loopw [20] (fun s wr => ∃ (q : Nat) (k : List UInt8), q ≤ 2 ∧ s = .int .i64 (q : Int) ∧ k.length = 2 ∧ Ob wr w3.heap.size (.slice (some ⟨g, 0, none⟩) 2 c4) k ∧ Tn (· = g) w4 wr) (fun s _ => 2 - (intOf s).toNat)
  case atStart => exact ⟨0, [1, 120], by omega, rfl, rfl, o4, Tn.refl _ _⟩
  case round =>
    obtain ⟨q, k, hq, rfl, hk, hob, ht⟩ := hrel
    have HT := Lib.hid ht
    have HO := Lib.hid hob
    by_cases hlt : q < 2
    · have hsl := hob.slot (k := q) (by omega)
      have hc := hsl.1
      have hf := hsl.2.1
      have hcap := hsl.2.2.2.1
      clear hsl hob ht o4
      go_wp2
      go_roundw
      case rel => exact ⟨q + 1, k.set q 9, by omega, rfl, by simpa using hk, HO.out.stored q 9, HT.out.then (Tn.setCell _ g q _)⟩
      case measure => simp [intOf]; omega
    · have hq2 : q = 2 := by omega
      subst hq2
      clear hob ht o4
      have p1 := Lib.hid (HT.out.ob O1.out (fun k e hkg => by have := LO.out.1 k e; omega))
      have p2 := Lib.hid (HT.out.ob O2.out (fun k e hkg => by have := LO.out.2.1 k e; omega))
      have p3 := Lib.hid (R4.out.tn HT.out (by have := LO.out.2.2.2; omega) (fun k e hkg => by have := LO.out.2.2.1 k e; omega))
      go_wp2_with (first
        | (go_at_call 12; go_loud (refine (wawake_any _).mono ?_; rintro e w5 ⟨rfl, b5⟩; have s1 := bs_str (p1.out.below b5).bs.1 rfl; have s2 := bs_str (p2.out.below b5).bs.1 rfl; rw [← HSX.out] at s1; rw [← HSX.out] at s2))
        | (go_at_call 11; go_loud (refine (wbytes_any w1.heap.size w1.heap.size v3 [1, 120] _ (p3.out.below b5) (by decide)).mono ?_; rintro e w6 ⟨A6, c6, rfl, o6, b6⟩; have s3 := bs_str (n := 2) o6.bs.1 rfl; have hq : (strB [1, 120]) = ⟨#[1, 120]⟩ := rfl; rw [hq] at s3; clear hq))
        | fail)
      go_ret
      have t4 : Below w.heap.size w4 wr := HT.out.below (by have := HBW.out.size; omega) (fun k _ e => by omega)
      have t5 := HBW.out.trans t4
      exact ⟨rfl, t5.trans (b5.trans (b6.mono b5.size) |>.mono t5.size)⟩
end Go.Proofs.YtojkbndaleiaaaaDoor
