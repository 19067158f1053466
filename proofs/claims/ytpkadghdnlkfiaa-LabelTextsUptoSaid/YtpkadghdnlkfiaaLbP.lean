/- The program's readPart. -/
import Derived.Test.YtpkadghdnlkfiaaLbPM
import Derived.Test.YtpkadghdnlkfiaaLbU
import Derived.Test.YtpkadghdnlkfiaaLbR
import Derived.Test.YtpkadghdnlkfiaaLbT
import Derived.Test.YtpkadghdnlkfiaaShK
import Derived.Test.YtpkadghdnlkfiaaShP
namespace Go.Proofs.Ytpkadghdnlkfiaa
open Go.RowKit

/-- The library's variable in memory. -/
def Mx (w : World) : Prop := ∃ m, w.cell? ⟨0, 0, none⟩ = some (.int .i64 m)
theorem Mx.below {w w' : World} (h : Mx w) (hb : Below w.heap.size w w') : Mx w' := by
  obtain ⟨m, h⟩ := h
  exact ⟨m, kept hb h⟩
theorem ret_part {a b c d : ByteArray} {n m : Int} (h : a = b) (h2 : c = d) (h3 : n = m) : Ending.returned (.tuple #[.agg #[.string a, .string c], .int .i64 n]) = .returned (.tuple #[.agg #[.string b, .string d], .int .i64 m]) := by rw [h, h2, h3]
def PartPost (w : World) (r : (List UInt8 × List UInt8) × Nat) (e : Ending) (w' : World) : Prop :=
  e = .returned (.tuple #[.agg #[.string (mkP r.1).1, .string (mkP r.1).2], .int .i64 (r.2 : Int)]) ∧ Below w.heap.size w w'

set_option maxHeartbeats 1600000 in
theorem readPart_any (t : ByteArray) (w : World) (hs : t.size ≤ 4096) (hm : Mx w) : Calls Try.prog 53 #[.string t] w (PartPost w (partP t.data.toList)) := by
  have hcut := cut_eq t.data.toList
  have hl : t.data.toList.length = t.size := by simp
  have hn := nmOf_len t.data.toList
  have hc : ∀ W, Below w.heap.size w W → Calls Try.prog 69 #[.string t, .string ⟨#[61]⟩] W fun e w' => ∃ b : Bool, e = .returned (.tuple #[.string ⟨(nmOf t.data.toList).toArray⟩, .string ⟨(rsOf t.data.toList).toArray⟩, .bool b]) ∧ Below W.heap.size W w' := by
    intro W hW
    obtain ⟨m, hmc⟩ := hm.below hW
    refine (cut_any t ⟨#[61]⟩ m W (by omega) hmc).mono ?_
    rintro e w' ⟨rfl, n, rfl⟩
    have e1 : (⟨#[61]⟩ : ByteArray).data.toList = [61] := rfl
    rw [e1, hcut.1, hcut.2]
    exact ⟨_, rfl, below_drewN (Below.refl _ _) n⟩
  have hrs : (rsOf t.data.toList).length ≤ 4096 := by
    rcases rsOf_len t.data.toList with e | e
    · rw [e]; simp
    · omega
  have hu : ∀ W, Calls Try.prog 23 #[.string ⟨(rsOf t.data.toList).toArray⟩] W (UnqPost W (unqL (rsOf t.data.toList))) := by
    intro W
    exact unquote_any ⟨(rsOf t.data.toList).toArray⟩ W (by simp [ByteArray.size]; omega)
  have hp : partP t.data.toList = if (unqL (rsOf t.data.toList)).2 = 0 then (([], []), 0) else ((nmOf t.data.toList, (unqL (rsOf t.data.toList)).1), (nmOf t.data.toList).length + 1 + (unqL (rsOf t.data.toList)).2) := rfl
  have hul := unqL_len (rsOf t.data.toList)
  have hns : (⟨(nmOf t.data.toList).toArray⟩ : ByteArray).size = (nmOf t.data.toList).length := by simp [ByteArray.size]
  have HC := Lib.hid hc
  have HU := Lib.hid hu
  generalize partP t.data.toList = R at *
  generalize rsOf t.data.toList = rs at *
  generalize nmOf t.data.toList = nm at *
  clear hc hu hcut hm
  generalize unqL rs = U at *
  obtain ⟨uv, un⟩ := U
  simp only at hp hul
  generalize hN : (⟨nm.toArray⟩ : ByteArray) = N at *
  have HN := Lib.hid hN
  have HNS := Lib.hid hns
  have hnl : N.size ≤ 4096 := by omega
  clear hN
  by_cases h0 : un = 0
  · have HR := Lib.hid (show R = (([], []), 0) by rw [hp, if_pos h0])
    subst h0
    clear hp hns
    go_enter Try.func53, Try.ntmps53
    go_wp2_with fail
    refine (HC.out _ (by go_grown)).mono ?_
    rintro e w1 ⟨b, rfl, hb1⟩
    go_wp2_with fail
    refine (HU.out _).mono ?_
    rintro e w2 ⟨rfl, hb2⟩
    have m0 : w2.cell? ⟨w.heap.size, 0, none⟩ = some (.string ⟨#[]⟩) := kept hb2 (kept hb1 (by simp))
    have m1 : w2.cell? ⟨w.heap.size, 1, none⟩ = some (.string ⟨#[]⟩) := kept hb2 (kept hb1 (by simp))
    have hz1 : w.heap.size < w1.heap.size := World.block_lt_of_cell? w1 ⟨w.heap.size, 0, none⟩ (kept (v := .string ⟨#[]⟩) hb1 (by simp))
    have f0 : w2.frozen? ⟨w.heap.size, 0, none⟩ = false := (hb2.frozen (p := ⟨w.heap.size, 0, none⟩) hz1).trans ((hb1.frozen (p := ⟨w.heap.size, 0, none⟩) (by simp)).trans (by simp))
    have f1 : w2.frozen? ⟨w.heap.size, 1, none⟩ = false := (hb2.frozen (p := ⟨w.heap.size, 1, none⟩) hz1).trans ((hb1.frozen (p := ⟨w.heap.size, 1, none⟩) (by simp)).trans (by simp))
    have B1 : Below w.heap.size w w1 := via hb1 (by go_grown) (by simp)
    have B2 : Below w.heap.size w w2 := B1.trans (hb2.mono (by omega))
    clear hb1 hb2 B1
    go_wp2_with fail
    exact bodyPost_ret (v := .tuple #[.agg #[.string ⟨#[]⟩, .string ⟨#[]⟩], .int .i64 0]) (by simp [results, Try.results53, go_sem, m0, m1]) rfl ⟨by rw [HR.out]; rfl, (B2.setCell (Nat.le_refl _) _).setCell (Nat.le_refl _) _⟩
  · have HR := Lib.hid (show R = ((nm, uv), nm.length + 1 + un) by rw [hp, if_neg h0])
    have hu1 : ¬ ((un : Int) = 0) := by omega
    have hu2 : ((un : Int) == 0) = false := by simpa using hu1
    clear hp
    go_enter Try.func53, Try.ntmps53
    go_wp2_with fail
    refine (HC.out _ (by go_grown)).mono ?_
    rintro e w1 ⟨b, rfl, hb1⟩
    go_wp2_with fail
    refine (HU.out _).mono ?_
    rintro e w2 ⟨rfl, hb2⟩
    have m0 : w2.cell? ⟨w.heap.size, 0, none⟩ = some (.string ⟨#[]⟩) := kept hb2 (kept hb1 (by simp))
    have m1 : w2.cell? ⟨w.heap.size, 1, none⟩ = some (.string ⟨#[]⟩) := kept hb2 (kept hb1 (by simp))
    have hz1 : w.heap.size < w1.heap.size := World.block_lt_of_cell? w1 ⟨w.heap.size, 0, none⟩ (kept (v := .string ⟨#[]⟩) hb1 (by simp))
    have f0 : w2.frozen? ⟨w.heap.size, 0, none⟩ = false := (hb2.frozen (p := ⟨w.heap.size, 0, none⟩) hz1).trans ((hb1.frozen (p := ⟨w.heap.size, 0, none⟩) (by simp)).trans (by simp))
    have f1 : w2.frozen? ⟨w.heap.size, 1, none⟩ = false := (hb2.frozen (p := ⟨w.heap.size, 1, none⟩) hz1).trans ((hb1.frozen (p := ⟨w.heap.size, 1, none⟩) (by simp)).trans (by simp))
    have B1 : Below w.heap.size w w1 := via hb1 (by go_grown) (by simp)
    have B2 : Below w.heap.size w w2 := B1.trans (hb2.mono (by omega))
    clear hb1 hb2 B1 hns
    go_wp2_with fail
    exact bodyPost_ret (v := .tuple #[.agg #[.string N, .string ⟨uv.toArray⟩], .int .i64 ((N.size : Int) + 1 + un)]) (by simp [results, Try.results53, go_sem, m0, m1]) rfl ⟨by rw [HR.out]; exact ret_part HN.out.symm rfl (by rw [HNS.out]; push_cast; omega), (B2.setCell (Nat.le_refl _) _).setCell (Nat.le_refl _) _⟩
end Go.Proofs.Ytpkadghdnlkfiaa
