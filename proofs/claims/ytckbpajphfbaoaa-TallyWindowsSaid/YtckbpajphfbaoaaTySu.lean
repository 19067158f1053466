/- The program's sum of samples. -/
import Derived.Test.YtckbpajphfbaoaaTyG
namespace Go.Proofs.Ytckbpajphfbaoaa
open Go.RowKit

theorem or32 (U L : Int) (hU0 : -2147483648 ≤ U) (hU1 : U ≤ 2147483647) (hL0 : 0 ≤ L) (hL1 : L ≤ 4294967295) : bits .or .i64 (U * 4294967296) L = U * 4294967296 + L := by
  have e : (BitVec.ofInt 64 (U * 4294967296) ||| BitVec.ofInt 64 L).toNat = (U % 4294967296).toNat * 4294967296 + L.toNat := by
    rw [BitVec.toNat_or, BitVec.toNat_ofInt, BitVec.toNat_ofInt]
    have h1 : (L % ((2 ^ 64 : Nat) : Int)).toNat = L.toNat := by omega
    have h2 : ((U * 4294967296) % ((2 ^ 64 : Nat) : Int)).toNat = 2 ^ 32 * (U % 4294967296).toNat := by omega
    rw [h1, h2, ← Nat.two_pow_add_eq_or_of_lt (by omega)]
    omega
  show IntKind.i64.wrap (((BitVec.ofInt 64 (U * 4294967296) ||| BitVec.ofInt 64 L).toNat : Nat) : Int) = _
  rw [e, IntKind.wrap_i64]
  omega
set_option maxRecDepth 100000 in
set_option maxHeartbeats 1600000 in
theorem sum_any (K : Nat) (A : Option Addr) (n cap : Nat) (l : List Smp) (w : World) (hln : l.length = n) (hp : Sr encS 2 w K A cap l) (hK : K ≤ w.heap.size) (hl : l.length ≤ 65536) (hok : ∀ x ∈ l, Sok x) :
    Calls Try.prog 24 #[.slice A n cap] w fun e w' => e = .returned (.tuple #[.int .i64 (rangeB (sumI l)).1, .int .i64 (rangeB (sumI l)).2]) ∧ Below w.heap.size w w' := by
  subst hln
  have hle := hp.le
  have hmax := hp.max
  unfold maxLen at hmax
  have HO := Lib.hid hok
  clear hok
  go_enter Try.func24, Try.ntmps24
  go_wp2
  go_loopw [4, 5, 10] (fun u v i wr => ∃ (k : Nat), k ≤ l.length ∧ i = .int .i64 k ∧ u = .int .i64 (upI (l.take k)) ∧ v = .int .i64 (loI (l.take k)) ∧ Below w.heap.size w wr) (fun _ _ i _ => l.length - (intOf i).toNat)
  case atStart => exact ⟨0, Nat.zero_le _, rfl, rfl, rfl, Below.refl _ _⟩
  case round =>
    obtain ⟨k, hk, rfl, rfl, rfl, hbl⟩ := hrel
    have z := hbl.size
    have bu := up_bound (l.take k) fun x hx => HO.out x (List.mem_of_mem_take hx)
    have bo := lo_bound (l.take k)
    have hkl : ((l.take k).length : Int) ≤ 65536 := by simp; omega
    by_cases hlt : k < l.length
    · obtain ⟨ad, rfl, hadK, h1, h2⟩ := s_cells (hp.below (hbl.mono hK)) hlt
      have hx := HO.out _ (List.getElem_mem hlt)
      have htk : l.take (k + 1) = l.take k ++ [l[k]] := List.take_succ_eq_append_getElem hlt
      have hu : upI (l.take (k + 1)) = upI (l.take k) + l[k].2 / 4294967296 := by rw [htk, upI_app]; simp [upI]
      have hv : loI (l.take (k + 1)) = loI (l.take k) + l[k].2 % 4294967296 := by rw [htk, loI_app]; simp [loI]
      have x0 := hx.n0
      have x1 := hx.n1
      clear hx htk
      generalize l[k] = x at *
      obtain ⟨xn, xv⟩ := x
      simp only at h1 h2 hu hv x0 x1
      have ea := and32 xv
      have HU := Lib.hid hu
      have HV := Lib.hid hv
      generalize upI (l.take k) = u at *
      generalize loI (l.take k) = v at *
      obtain ⟨q, hq⟩ : ∃ q, xv / 4294967296 = q := ⟨_, rfl⟩
      obtain ⟨r, hr⟩ : ∃ r, r = xv % 4294967296 := ⟨_, rfl⟩
      rw [← hr] at ea
      have q0 : -2147483648 ≤ q := by omega
      have q1 : q ≤ 2147483648 := by omega
      have r0 : 0 ≤ r := by omega
      have r1 : r ≤ 4294967295 := by omega
      have e1 := wrapI (u + q) (by omega) (by omega)
      have e2 := wrapI (v + r) (by omega) (by omega)
      have HE : Hid (u + q = upI (l.take (k + 1)) ∧ v + r = loI (l.take (k + 1))) := Lib.hid ⟨by rw [HU.out, hq], by rw [HV.out, hr]⟩
      clear hu hv hr HU HV bu bo
      go_wp2
      go_roundw
      case rel => exact ⟨k + 1, by omega, by go_num, by rw [← HE.out.1], by rw [← HE.out.2], by go_grown⟩
      case measure => simp [intOf]; omega
    · obtain rfl : k = l.length := by omega
      rw [List.take_length] at bu bo ⊢
      have hul := up_lo l
      have HS := Lib.hid hul
      generalize upI l = u at *
      generalize loI l = v at *
      have ea := and32 v
      obtain ⟨q, hq⟩ : ∃ q, v / 4294967296 = q := ⟨_, rfl⟩
      obtain ⟨r, hr⟩ : ∃ r, r = v % 4294967296 := ⟨_, rfl⟩
      rw [← hr] at ea
      have q0 : 0 ≤ q := by omega
      have q1 : q ≤ 65536 := by omega
      have r0 : 0 ≤ r := by omega
      have r1 : r ≤ 4294967295 := by omega
      have e1 := wrapI (u + q) (by omega) (by omega)
      have HT : Hid (sumI l = (u + q) * 4294967296 + r) := Lib.hid (by omega)
      obtain ⟨U, hU⟩ : ∃ U, u + q = U := ⟨_, rfl⟩
      rw [hU] at HT e1
      have e1 : wrap64 (u + q) = U := by rw [hU]; unfold wrap64; omega
      have HUQ := Lib.hid hU
      clear hU
      clear hr hul HS bu bo
      by_cases hU0 : U < -2147483648
      · have HR : Hid (rangeB (sumI l) = (0, 20)) := Lib.hid (if_neg (by rw [HT.out]; omega))
        go_wp2
        go_ret2
        exact ⟨by rw [HR.out] <;> rfl, hbl⟩
      · by_cases hU1 : 2147483647 < U
        · have HR : Hid (rangeB (sumI l) = (0, 20)) := Lib.hid (if_neg (by rw [HT.out]; omega))
          go_wp2
          go_ret2
          exact ⟨by rw [HR.out] <;> rfl, hbl⟩
        · have HR : Hid (rangeB (sumI l) = (U * 4294967296 + r, 0)) := Lib.hid (by rw [HT.out]; exact if_pos (by omega))
          have eo := or32 U r (by omega) (by omega) r0 r1
          have ew := wrapI (U * 4294967296) (by omega) (by omega)
          go_wp2
          go_ret2
          exact ⟨by rw [HR.out] <;> rfl, hbl⟩
end Go.Proofs.Ytckbpajphfbaoaa
