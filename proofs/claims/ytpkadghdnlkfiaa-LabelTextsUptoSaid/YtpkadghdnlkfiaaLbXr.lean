/- The document's Text. -/
import Derived.Test.YtpkadghdnlkfiaaLbX
import Derived.Test.YtpkadghdnlkfiaaLbUr
import Derived.RegionTactic
namespace Go.Proofs.Ytpkadghdnlkfiaa
open Go.RowKit

/-- The text up to the k-th label. -/
def strT (l : List Pp) (k : Nat) : ByteArray := ⟨(123 :: Lib.join ((l.take k).map partL) [44]).toArray⟩
theorem strT_zero (l : List Pp) : strT l 0 = ⟨#[123]⟩ := by simp [strT, Lib.join]
theorem strT_len {l : List Pp} (h : Sm l) (k : Nat) : (strT l k).size ≤ 1 + l.length * 4000001 := by
  have hs : Sm (l.take k) := fun x hx => h x (List.mem_of_mem_take hx)
  have h1 := parts_len hs
  have h2 : (l.take k).length * 4000001 ≤ l.length * 4000001 := Nat.mul_le_mul_right _ (by rw [List.length_take]; omega)
  simp [strT, ByteArray.size]
  simp at h1 h2
  omega
theorem ba_ext {a b : ByteArray} (h : a.data.toList = b.data.toList) : a = b := by
  apply ByteArray.ext
  exact Array.toList_inj.1 h
theorem take_part {l : List Pp} {k : Nat} (hk : k < l.length) : (l.take (k + 1)).map partL = (l.take k).map partL ++ [partL (l.getD k nilP)] := by
  rw [List.take_succ_eq_append_getElem hk, List.map_append, List.getD_eq_getElem?_getD, List.getElem?_eq_getElem hk]
  rfl
theorem strT_first {l : List Pp} {k : Nat} (hk : k < l.length) (h0 : k = 0) : strT l k ++ (l.getD k nilP).1 ++ ⟨#[61]⟩ ++ ⟨(quoteB (l.getD k nilP).2).toArray⟩ = strT l (k + 1) := by
  apply ba_ext
  simp only [app_list, strT, take_part hk]
  subst h0
  simp [partL, Lib.join]
theorem strT_next {l : List Pp} {k : Nat} (hk : k < l.length) (h0 : 0 < k) : (strT l k ++ ⟨#[44]⟩) ++ (l.getD k nilP).1 ++ ⟨#[61]⟩ ++ ⟨(quoteB (l.getD k nilP).2).toArray⟩ = strT l (k + 1) := by
  have hne : (l.take k).map partL ≠ [] := by
    intro e
    have h := congrArg List.length e
    rw [List.length_map, List.length_take, List.length_nil] at h
    omega
  apply ba_ext
  simp only [app_list, strT, take_part hk, join_snoc _ _ hne]
  simp [partL]
theorem strT_end (l : List Pp) : strT l l.length ++ ⟨#[125]⟩ = ⟨(textB l).toArray⟩ := by
  apply ba_ext
  simp [strT, textB]

set_option maxRecDepth 100000 in
set_option maxHeartbeats 3200000 in
theorem rText_any (K : Nat) (A : Option Addr) (n cap : Nat) (l : List Pp) (w : World) (hln : l.length = n) (hp : Lr w K A cap l) (hK : K ≤ w.heap.size) (hS : Sm l) (hl : l.length ≤ 1048576) :
    Calls Try.prog 29 #[.slice A n cap] w (NewStr w ⟨(textB l).toArray⟩) := by
  subst hln
  have hle := hp.le
  have hmax := hp.max
  unfold maxLen at hmax
  have HZ := Lib.hid (strT_zero l)
  go_enter Try.func29, Try.ntmps29
  go_wp2
  go_loopw [3, 4] (fun v i wr => ∃ k : Nat, k ≤ l.length ∧ i = .int .i64 k ∧ v = .string (strT l k) ∧ Below w.heap.size w wr) (fun _ i _ => l.length - (intOf i).toNat)
  case atStart => exact ⟨0, Nat.zero_le _, rfl, by rw [HZ.out], Below.refl _ _⟩
  case round =>
    obtain ⟨k, hk, rfl, rfl, hbl⟩ := hrel
    have z := hbl.size
    have hsz := strT_len hS k
    by_cases hlt : k < l.length
    · obtain ⟨ad, rfl, hadK, h1, h2⟩ := lr_at (hp.below (hbl.mono hK)) hlt
      have hs := hS.at_ k
      have hql := quoteB_len (l.getD k nilP).2
      by_cases h0 : k = 0
      ·
        have hg0 : decide (0 < k) = false := by simp; omega
        have hnext : (strT l k) ++ (l.getD k nilP).1 ++ ⟨#[61]⟩ ++ ⟨(quoteB (l.getD k nilP).2).toArray⟩ = strT l (k + 1) := strT_first hlt h0
        have s0 : (strT l k).size ≤ (strT l k).size := Nat.le_refl _
        generalize hsk : strT l k = y0 at *
        clear hsk
        generalize (l.getD k nilP).1 = xn at *
        generalize (l.getD k nilP).2 = xv at *
        have HQ := Lib.hid (fun W => rQuote_any xv W (by omega))
        generalize hqe : quoteB xv = q at *
        clear hqe
        have a1 := str_add y0 xn (by omega)
        have s1 : (y0 ++ xn).size = y0.size + xn.size := ByteArray.size_append
        have a2 := str_add (y0 ++ xn) ⟨#[61]⟩ (by have : (⟨#[61]⟩ : ByteArray).size = 1 := rfl; omega)
        have s2 : (y0 ++ xn ++ ⟨#[61]⟩).size = (y0 ++ xn).size + 1 := by rw [ByteArray.size_append]; rfl
        have s3 : (⟨q.toArray⟩ : ByteArray).size = q.length := by simp [ByteArray.size]
        have a3 := str_add (y0 ++ xn ++ ⟨#[61]⟩) ⟨q.toArray⟩ (by omega)
        generalize y0 ++ xn = y1 at *
        generalize y1 ++ ⟨#[61]⟩ = y2 at *
        generalize (⟨q.toArray⟩ : ByteArray) = qs at *
        generalize y2 ++ qs = y3 at *
        have HN := Lib.hid hnext
        clear hnext h0 s0 s1 s2 s3
        go_wp2_with fail
        go_region_with (go_at_call 25; refine (HQ.out _).mono ?_; rintro e w1 ⟨rfl, hb1⟩; have m0 : w1.cell? (ad.add (k * 2)) = some (.string xn) := kept hb1 (by simp [h1]); have HB1 := Lib.hid hb1; clear hb1)
        all_goals
          go_wp2_with fail
          have B1 : Below w.heap.size w w1 := by
            first
              | exact hbl.trans (HB1.out.mono z)
              | exact (below_drewN hbl _).trans (HB1.out.mono z)
          go_roundw
          case rel => exact ⟨k + 1, by omega, by go_num, by rw [HN.out], by first | exact B1 | exact below_drewN B1 _⟩
          case measure => simp [intOf]; omega
      ·
        have hg0 : decide (0 < k) = true := by simp; omega
        have hnext : (strT l k ++ ⟨#[44]⟩) ++ (l.getD k nilP).1 ++ ⟨#[61]⟩ ++ ⟨(quoteB (l.getD k nilP).2).toArray⟩ = strT l (k + 1) := strT_next hlt (by omega)
        have a0 := str_add (strT l k) ⟨#[44]⟩ (by have : (⟨#[44]⟩ : ByteArray).size = 1 := rfl; omega)
        have s0 : (strT l k ++ ⟨#[44]⟩ : ByteArray).size = (strT l k).size + 1 := by rw [ByteArray.size_append]; rfl
        generalize hsk : strT l k = sk at *
        clear hsk
        generalize sk ++ ⟨#[44]⟩ = y0 at *
        generalize (l.getD k nilP).1 = xn at *
        generalize (l.getD k nilP).2 = xv at *
        have HQ := Lib.hid (fun W => rQuote_any xv W (by omega))
        generalize hqe : quoteB xv = q at *
        clear hqe
        have a1 := str_add y0 xn (by omega)
        have s1 : (y0 ++ xn).size = y0.size + xn.size := ByteArray.size_append
        have a2 := str_add (y0 ++ xn) ⟨#[61]⟩ (by have : (⟨#[61]⟩ : ByteArray).size = 1 := rfl; omega)
        have s2 : (y0 ++ xn ++ ⟨#[61]⟩).size = (y0 ++ xn).size + 1 := by rw [ByteArray.size_append]; rfl
        have s3 : (⟨q.toArray⟩ : ByteArray).size = q.length := by simp [ByteArray.size]
        have a3 := str_add (y0 ++ xn ++ ⟨#[61]⟩) ⟨q.toArray⟩ (by omega)
        generalize y0 ++ xn = y1 at *
        generalize y1 ++ ⟨#[61]⟩ = y2 at *
        generalize (⟨q.toArray⟩ : ByteArray) = qs at *
        generalize y2 ++ qs = y3 at *
        have HN := Lib.hid hnext
        clear hnext h0 s0 s1 s2 s3
        go_wp2_with fail
        go_region_with (go_at_call 25; refine (HQ.out _).mono ?_; rintro e w1 ⟨rfl, hb1⟩; have m0 : w1.cell? (ad.add (k * 2)) = some (.string xn) := kept hb1 (by simp [h1]); have HB1 := Lib.hid hb1; clear hb1)
        all_goals
          go_wp2_with fail
          have B1 : Below w.heap.size w w1 := by
            first
              | exact hbl.trans (HB1.out.mono z)
              | exact (below_drewN hbl _).trans (HB1.out.mono z)
          go_roundw
          case rel => exact ⟨k + 1, by omega, by go_num, by rw [HN.out], by first | exact B1 | exact below_drewN B1 _⟩
          case measure => simp [intOf]; omega
    · have hks : k = l.length := by omega
      have HF := Lib.hid (strT_end l)
      have a0 := str_add (strT l k) ⟨#[125]⟩ (by have : (⟨#[125]⟩ : ByteArray).size = 1 := rfl; omega)
      rw [hks] at a0
      rw [HF.out] at a0
      rw [hks] at *
      generalize strT l l.length = sk at *
      go_wp2_with fail
      go_ret
      exact ⟨rfl, hbl⟩
end Go.Proofs.Ytpkadghdnlkfiaa
