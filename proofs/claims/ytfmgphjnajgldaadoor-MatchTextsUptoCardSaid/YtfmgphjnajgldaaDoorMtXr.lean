/- The document's Text of rules. -/
import Derived.Test.YtfmgphjnajgldaaDoorMtX
import Derived.Test.YtfmgphjnajgldaaDoorMtSg
import Derived.Test.YtfmgphjnajgldaaDoorLbUr
import Derived.RegionTactic
namespace Go.Proofs.YtfmgphjnajgldaaDoor
open Go.RowKit

/-- The text up to the k-th label. -/
def strR (l : List Rp) (k : Nat) : ByteArray := ⟨(123 :: Lib.join ((l.take k).map partRL) [44]).toArray⟩
theorem strR_zero (l : List Rp) : strR l 0 = ⟨#[123]⟩ := by simp [strR, Lib.join]
theorem strR_len {l : List Rp} (h : SmR2 l) (k : Nat) : (strR l k).size ≤ 1 + l.length * 4000001 := by
  have hs : SmR2 (l.take k) := fun x hx => h x (List.mem_of_mem_take hx)
  have h1 := partsR_len hs
  have h2 : (l.take k).length * 4000001 ≤ l.length * 4000001 := Nat.mul_le_mul_right _ (by rw [List.length_take]; omega)
  simp [strR, ByteArray.size]
  simp at h1 h2
  omega
theorem ba_ext {a b : ByteArray} (h : a.data.toList = b.data.toList) : a = b := by
  apply ByteArray.ext
  exact Array.toList_inj.1 h
theorem takeR_part {l : List Rp} {k : Nat} (hk : k < l.length) : (l.take (k + 1)).map partRL = (l.take k).map partRL ++ [partRL (l.getD k nilR)] := by
  rw [List.take_succ_eq_append_getElem hk, List.map_append, getR_eq hk]
  rfl
theorem strR_first {l : List Rp} {k : Nat} (hk : k < l.length) (h0 : k = 0) : strR l k ++ (l.getD k nilR).1 ++ ⟨(sgB (l.getD k nilR).2.1).toArray⟩ ++ ⟨(quoteB (l.getD k nilR).2.2).toArray⟩ = strR l (k + 1) := by
  apply ba_ext
  simp only [app_list, strR, takeR_part hk]
  subst h0
  simp [partRL, Lib.join]
theorem strR_next {l : List Rp} {k : Nat} (hk : k < l.length) (h0 : 0 < k) : (strR l k ++ ⟨#[44]⟩) ++ (l.getD k nilR).1 ++ ⟨(sgB (l.getD k nilR).2.1).toArray⟩ ++ ⟨(quoteB (l.getD k nilR).2.2).toArray⟩ = strR l (k + 1) := by
  have hne : (l.take k).map partRL ≠ [] := by
    intro e
    have h := congrArg List.length e
    rw [List.length_map, List.length_take, List.length_nil] at h
    omega
  apply ba_ext
  simp only [app_list, strR, takeR_part hk, join_snoc _ _ hne]
  simp [partRL]
theorem strR_end (l : List Rp) : strR l l.length ++ ⟨#[125]⟩ = ⟨(textR l).toArray⟩ := by
  apply ba_ext
  simp [strR, textR]

set_option maxRecDepth 100000 in
set_option maxHeartbeats 6400000 in
theorem rTextR_any (K : Nat) (A : Option Addr) (n cap : Nat) (l : List Rp) (w : World) (hln : l.length = n) (hp : Rr w K A cap l) (hK : K ≤ w.heap.size) (hS : SmR2 l) (hl : l.length ≤ 1048576) :
    Calls Tryd.prog 18 #[.slice A n cap] w (NewStr w ⟨(textR l).toArray⟩) := by
  subst hln
  have hle := hp.le
  have hmax := hp.max
  unfold maxLen at hmax
  have HZ := Lib.hid (strR_zero l)
  go_enter Tryd.func18, Tryd.ntmps18
  go_wp2
  go_loopw [3, 4] (fun v i wr => ∃ k : Nat, k ≤ l.length ∧ i = .int .i64 k ∧ v = .string (strR l k) ∧ Below w.heap.size w wr) (fun _ i _ => l.length - (intOf i).toNat)
  case atStart => exact ⟨0, Nat.zero_le _, rfl, by rw [HZ.out], Below.refl _ _⟩
  case round =>
    obtain ⟨k, hk, rfl, rfl, hbl⟩ := hrel
    have z := hbl.size
    have hsz := strR_len hS k
    by_cases hlt : k < l.length
    · obtain ⟨ad, rfl, hadK, h1, h2, h3⟩ := rr_at (hp.below (hbl.mono hK)) hlt
      have hs : (l.getD k nilR).1.size ≤ 1048576 ∧ (l.getD k nilR).2.2.size ≤ 1048576 := by rw [getR_eq hlt]; exact hS _ (List.getElem_mem hlt)
      have hql := quoteB_len (l.getD k nilR).2.2
      have hsl := sgB_len (l.getD k nilR).2.1
      by_cases h0 : k = 0
      ·
        have hg0 : decide (0 < k) = false := by simp; omega
        have hnext : (strR l k) ++ (l.getD k nilR).1 ++ ⟨(sgB (l.getD k nilR).2.1).toArray⟩ ++ ⟨(quoteB (l.getD k nilR).2.2).toArray⟩ = strR l (k + 1) := strR_first hlt h0
        have s0 : (strR l k).size ≤ (strR l k).size := Nat.le_refl _
        generalize hsk : strR l k = y0 at *
        clear hsk
        generalize l.getD k nilR = x at *
        obtain ⟨xn, xo, xv⟩ := x
        simp only at h1 h2 h3 hs hql hsl hnext
        have HQ := Lib.hid (fun W => rQuote_any xv W (by omega))
        generalize hqe : quoteB xv = q at *
        clear hqe
        have HSO := Lib.hid (rSign_any xo)
        have e0 : (⟨(sgB xo).toArray⟩ : ByteArray).size = (sgB xo).length := by simp [ByteArray.size]
        generalize (⟨(sgB xo).toArray⟩ : ByteArray) = sg at *
        generalize (sgB xo).length = sgn at *
        have a1 := str_add y0 xn (by omega)
        have s1 : (y0 ++ xn).size = y0.size + xn.size := ByteArray.size_append
        have a2 := str_add (y0 ++ xn) sg (by omega)
        have s2 : (y0 ++ xn ++ sg).size = (y0 ++ xn).size + sg.size := ByteArray.size_append
        have s3 : (⟨q.toArray⟩ : ByteArray).size = q.length := by simp [ByteArray.size]
        have a3 := str_add (y0 ++ xn ++ sg) ⟨q.toArray⟩ (by omega)
        generalize y0 ++ xn = y1 at *
        generalize y1 ++ sg = y2 at *
        generalize (⟨q.toArray⟩ : ByteArray) = qs at *
        generalize y2 ++ qs = y3 at *
        have HN := Lib.hid hnext
        clear hnext h0 s0 s1 s2 s3 e0
        go_wp2_with fail
        go_region_with (first
          | (go_at_call 32; refine (HSO.out _).mono ?_; rintro e w' ⟨rfl, rfl⟩)
          | (go_at_call 37; refine (HQ.out _).mono ?_; rintro e w1 ⟨rfl, hb1⟩; have m0 : w1.cell? (ad.add (k * 3)) = some (.string xn) := kept hb1 (by simp [h1]); have m1 : w1.cell? ⟨(ad.add (k * 3)).block, (ad.add (k * 3)).off + 1, none⟩ = some (.int .i64 xo) := kept hb1 (by simp [h2]); have HB1 := Lib.hid hb1; clear hb1))
        all_goals
          go_wp2_with fail
          have B1 : Below w.heap.size w w1 := by
            first
              | exact hbl.trans (HB1.out.mono z)
              | exact (below_drewN hbl _).trans (HB1.out.mono z)
          go_roundw
          case rel => exact ⟨k + 1, by omega, by go_num, by rw [HN.out], by first | exact B1 | exact below_drewN B1 _⟩
          case measure => simp [intOf]; omega
      ·
        have hg0 : decide (0 < k) = true := by simp; omega
        have hnext : (strR l k ++ ⟨#[44]⟩) ++ (l.getD k nilR).1 ++ ⟨(sgB (l.getD k nilR).2.1).toArray⟩ ++ ⟨(quoteB (l.getD k nilR).2.2).toArray⟩ = strR l (k + 1) := strR_next hlt (by omega)
        have a0 := str_add (strR l k) ⟨#[44]⟩ (by have : (⟨#[44]⟩ : ByteArray).size = 1 := rfl; omega)
        have s0 : (strR l k ++ ⟨#[44]⟩ : ByteArray).size = (strR l k).size + 1 := by rw [ByteArray.size_append]; rfl
        generalize hsk : strR l k = sk at *
        clear hsk
        generalize sk ++ ⟨#[44]⟩ = y0 at *
        generalize l.getD k nilR = x at *
        obtain ⟨xn, xo, xv⟩ := x
        simp only at h1 h2 h3 hs hql hsl hnext
        have HQ := Lib.hid (fun W => rQuote_any xv W (by omega))
        generalize hqe : quoteB xv = q at *
        clear hqe
        have HSO := Lib.hid (rSign_any xo)
        have e0 : (⟨(sgB xo).toArray⟩ : ByteArray).size = (sgB xo).length := by simp [ByteArray.size]
        generalize (⟨(sgB xo).toArray⟩ : ByteArray) = sg at *
        generalize (sgB xo).length = sgn at *
        have a1 := str_add y0 xn (by omega)
        have s1 : (y0 ++ xn).size = y0.size + xn.size := ByteArray.size_append
        have a2 := str_add (y0 ++ xn) sg (by omega)
        have s2 : (y0 ++ xn ++ sg).size = (y0 ++ xn).size + sg.size := ByteArray.size_append
        have s3 : (⟨q.toArray⟩ : ByteArray).size = q.length := by simp [ByteArray.size]
        have a3 := str_add (y0 ++ xn ++ sg) ⟨q.toArray⟩ (by omega)
        generalize y0 ++ xn = y1 at *
        generalize y1 ++ sg = y2 at *
        generalize (⟨q.toArray⟩ : ByteArray) = qs at *
        generalize y2 ++ qs = y3 at *
        have HN := Lib.hid hnext
        clear hnext h0 s0 s1 s2 s3 e0
        go_wp2_with fail
        go_region_with (first
          | (go_at_call 32; refine (HSO.out _).mono ?_; rintro e w' ⟨rfl, rfl⟩)
          | (go_at_call 37; refine (HQ.out _).mono ?_; rintro e w1 ⟨rfl, hb1⟩; have m0 : w1.cell? (ad.add (k * 3)) = some (.string xn) := kept hb1 (by simp [h1]); have m1 : w1.cell? ⟨(ad.add (k * 3)).block, (ad.add (k * 3)).off + 1, none⟩ = some (.int .i64 xo) := kept hb1 (by simp [h2]); have HB1 := Lib.hid hb1; clear hb1))
        all_goals
          go_wp2_with fail
          have B1 : Below w.heap.size w w1 := by
            first
              | exact hbl.trans (HB1.out.mono z)
              | exact (below_drewN hbl _).trans (HB1.out.mono z)
          go_roundw
          case rel => exact ⟨k + 1, by omega, by go_num, by rw [HN.out], by first | exact B1 | exact below_drewN B1 _⟩
          case measure => simp [intOf]; omega
    · have hks : k = l.length := by omega
      have HF := Lib.hid (strR_end l)
      have a0 := str_add (strR l k) ⟨#[125]⟩ (by have : (⟨#[125]⟩ : ByteArray).size = 1 := rfl; omega)
      rw [hks] at a0
      rw [HF.out] at a0
      rw [hks] at *
      generalize strR l l.length = sk at *
      go_wp2_with fail
      go_ret
      exact ⟨rfl, hbl⟩
end Go.Proofs.YtfmgphjnajgldaaDoor
