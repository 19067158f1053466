/- frame.Scan. -/
import Derived.Test.YtldflhledobfnabOpen
import Derived.Test.YtldflhledobfnabScanM
import Derived.Test.YtldflhledobfnabPs
import Derived.Test.YtldflhledobfnabSlc
namespace Go.Proofs.Ytldflhledobfnab
open Go.RowKit

theorem info_pc : (Try.prog.info? 44).map (fun i => (i.zero, i.size, i.bytes)) = some (some (.agg #[.int .u8 0, .slice none 0 0]), 2, 32) := by kernel_rfl
theorem info_rpc : (Try.prog.info? 27).map (fun i => (i.zero, i.size, i.bytes)) = some (some (.agg #[.int .u8 0, .slice none 0 0]), 2, 32) := by kernel_rfl
def ScanPost (T : TypeId) (w : World) (l : List UInt8) (e : Ending) (w' : World) : Prop :=
  ∃ A' cap', e = .returned (.tuple #[.slice A' (scanB l).1.length cap', .int .i64 ((scanB l).2 : Nat)]) ∧ Ps w' w.heap.size T (.slice A' (scanB l).1.length cap') (scanB l).1 ∧ Below w.heap.size w w'

set_option maxHeartbeats 1600000 in
theorem scan_any (K : Nat) (A : Option Addr) (cap : Nat) (l : List UInt8) (w : World) (hb : Bs w K A cap l) (hK : K ≤ w.heap.size) (hl : l.length ≤ 1099511627776) :
    Calls Try.prog 8 #[.slice A l.length cap] w (ScanPost 44 w l) := by
  have hle := hb.le
  have hmax := hb.max
  unfold maxLen at hmax
  go_enter Try.func8, Try.ntmps8
  go_wp2
  go_step3
  go_wp2
  go_step3
  go_wp2
  go_loopw [4, 5] (fun v i wr => ∃ (j n c : Nat) (B : Option Addr) (ps : List Pc), i = .int .i64 j ∧ v = .slice B n c ∧ ps.length = n ∧ ScanTo l j ps ∧ Ps wr w.heap.size 44 (.slice B n c) ps ∧ Below w.heap.size w wr) (fun _ i _ => l.length - (intOf i).toNat)
  case atStart => exact ⟨0, 0, 0, none, [], rfl, rfl, rfl, ScanTo.zero l, Ps.empty _ _ _, Below.refl _ _⟩
  case round =>
    obtain ⟨j, n, c, B, ps, rfl, rfl, hn, hto, hps, hbl⟩ := hrel
    have hsl := slice_from A l.length cap j hto.1
    have hbr : Bs wr K _ _ _ := (hb.below (hbl.mono hK)).cut (i := j) (j := l.length) hto.1 (Nat.le_refl _)
    have hd : (l.drop j).take (l.length - j) = l.drop j := List.take_of_length_le (by simp)
    rw [hd] at hbr
    have hdl : (l.drop j).length = l.length - j := List.length_drop
    generalize (if cap = j then A else A.map (·.add j)) = AJ at *
    have z := hbl.size
    have hco := open_any K (cap - j) (l.drop j) wr AJ hbr (by omega)
    rw [hdl] at hco
    have HCO := Lib.hid hco
    have HDL := Lib.hid hdl
    have HN := Lib.hid hn
    have hj := hto.1
    clear hco hdl hd hbr hn
    go_wp2_with fail
    refine HCO.out.mono ?_
    rintro e w1 ⟨A1, c1, rfl, hown1, hb1⟩
    have B1 : Below w.heap.size w w1 := hbl.trans (hb1.mono z)
    have z1 := B1.size
    have hn9 : n * 9 ≤ j := by rw [← HN.out]; exact hto.2.1
    have hps1 := hps.below hb1
    have hne : ∀ ad : Addr, A1 = some ad → 0 < (openB (l.drop j)).2.1.length → (Value.slice B n c).ownBlock ≠ some ad.block := fun ad e _ he => by
      have h1 := (hps.lt _ he).2
      have h2 := (hown1.lt ad.block (by rw [e]; rfl)).1
      omega
    by_cases ho : (openB (l.drop j)).2.2.2 = 0
    · have hnx := hto.next ho
      have hu := openB_used ho
      have hj2 := hnx.1
      have HNX := Lib.hid hnx
      clear hnx HCO hb1 hps hto hsl
      generalize openB (l.drop j) = o at *
      obtain ⟨k, p, u, er⟩ := o
      simp only at ho hu hj2 hown1 hne
      subst ho
      have hu1 := hu.1
      have HNE := Lib.hid hne
      clear hu hne
      go_wp2_with (at_builtin; refine wpList_push Try.underlying32 info_pc rfl _ rfl (.tmp 22) (.tmp 26) rfl w.heap.size (.slice B n c) ps rfl hps1 k p A1 c1 w1.heap.size rfl rfl hown1.bs.1 HNE.out (n + 1) (by rw [HN.out]) (by omega) z1 ?_; intro A2 cap2 w2 hps2 hgrow2; have B2 : Below w.heap.size w w2 := grown_below B1 hgrow2 z1 (fun _ h => (hps1.lt _ h).1))
      go_roundw
      case rel => exact ⟨j + u, n + 1, cap2, A2, ps ++ [(k, p)], by go_num, rfl, by rw [List.length_append, HN.out]; rfl, HNX.out, hps2, B2⟩
      case measure => simp [intOf]; omega
    · have hst := hto.stop ho
      have HST := Lib.hid hst
      clear hst HCO hb1 hps hto hsl hne hown1
      generalize openB (l.drop j) = o at *
      obtain ⟨k, p, u, er⟩ := o
      simp only at ho
      have he : ((er : Int) == 0) = false := by simp; omega
      clear ho
      go_wp2
      (try rw [Exit.noGoto_ret])
      go_ret2
      refine ⟨B, c, ?_, ?_, B1⟩
      · rw [HST.out, HN.out]; rfl
      · rw [HST.out, HN.out]; exact hps1
end Go.Proofs.Ytldflhledobfnab
