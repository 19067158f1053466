/- The document's disk: two rows of bytes in new memory. -/
import Derived.Test.YtpckbbjlihhpdaaByW
import Derived.Test.YtpckbbjlihhpdaaEl2
import Derived.LoopTactic
namespace Go.Proofs.Ytpckbbjlihhpdaa
open Go.RowKit

/-- Bytes in new memory. -/
def NewB (w : World) (l : List UInt8) (e : Ending) (w' : World) : Prop := ∃ A c, e = .returned (.slice A l.length c) ∧ Ob w' w.heap.size (.slice A l.length c) l ∧ Below w.heap.size w w'
set_option maxRecDepth 100000 in
set_option maxHeartbeats 3200000 in
theorem rjoin_any {w : World} {K cp cq : Nat} {A A2 : Option Addr} {p q : List UInt8} (hp : Bs w K A cp p) (hq : Bs w K A2 cq q) (hK : K ≤ w.heap.size) (hs1 : p.length ≤ 70000000) (hs2 : q.length ≤ 70000000) {L : List UInt8} (hL : L = p ++ q) :
    Calls Try.prog 46 #[.slice A p.length cp, .slice A2 q.length cq] w (NewB w L) := by
  have HLL := Lib.hid hL
  clear hL
  have h1 := hp.le
  have h2 := hp.max
  have h3 := hq.le
  have h4 := hq.max
  unfold maxLen at h2 h4
  have HP := Lib.hid hp
  have HQ := Lib.hid hq
  clear hp hq
  go_enter Try.func46, Try.ntmps46
  go_wp2_with fail
  go_loopw [5, 6] (fun v i wr => ∃ (k c : Nat) (B : Option Addr) (m : Nat), k ≤ p.length ∧ i = .int .i64 (k : Int) ∧ v = .slice B m c ∧ m = k ∧ Ob wr w.heap.size (.slice B m c) (p.take k) ∧ Below w.heap.size w wr) (fun _ i _ => p.length - (intOf i).toNat)
  case atStart => exact ⟨0, 0, none, 0, Nat.zero_le _, rfl, rfl, rfl, by simpa using Ob.empty _ _, Below.refl _ _⟩
  case round =>
    obtain ⟨k, c, B, m, hk, rfl, rfl, hm, hob, hbl⟩ := hrel
    rename World => wr
    have z := hbl.size
    by_cases hlt : k < p.length
    · skip
      obtain ⟨ad, hA, _, hc⟩ := (HP.out.below (hbl.mono hK)).get hlt
      subst hA
      have htk : p.take (k + 1) = p.take k ++ [p[k]] := List.take_succ_eq_append_getElem hlt
      generalize p[k] = x at *
      have hml : m ≤ 140000000 := by omega
      have HT := Lib.hid htk
      have HO := Lib.hid hob
      have HM := Lib.hid hm
      have HL := Lib.hid hbl
      clear htk hob hbl hm
      go_wp2_with (at_builtin; refine wpList_app _ rfl (.tmp 14) (.tmp 19) rfl w.heap.size (.slice B m c) (p.take k) rfl (HO.out.alloc _) (some ⟨wr.heap.size, 0, none⟩) 1 1 [x] rfl rfl (wr.heap.size + 1) (lit_bsF wr _ _ _ rfl #[bv x] 1 [x] rfl rfl (by decide)) (m + 1) (by rw [← HO.out.bs.2]; rfl) (by rw [← HO.out.bs.2]; simp; omega) (by simp; omega) ?_; intro A2 cap2 w2 hown2 hgrow2 hat2; have B2 : Below w.heap.size w w2 := Below.grown (HL.out.alloc z _) hgrow2 (by simp; omega) (fun _ h => (HO.out.lt _ h).1))
      go_roundw
      case rel => exact ⟨k + 1, cap2, A2, m + 1, by omega, by go_num, rfl, by have := HM.out; omega, by rw [HT.out]; exact hown2, B2⟩
      case measure => simp [intOf]; omega
    · obtain rfl : k = p.length := by omega
      rw [List.take_length] at hob
      subst hm
      have HO0 := Lib.hid hob
      have HL0 := Lib.hid hbl
      clear hob hbl
      go_wp2_with fail
      go_loopw [5, 7] (fun v i wr => ∃ (k c : Nat) (B : Option Addr) (m : Nat), k ≤ q.length ∧ i = .int .i64 (k : Int) ∧ v = .slice B m c ∧ m = p.length + k ∧ Ob wr w.heap.size (.slice B m c) (p ++ q.take k) ∧ Below w.heap.size w wr) (fun _ i _ => q.length - (intOf i).toNat)
      case atStart => exact ⟨0, c, B, p.length, Nat.zero_le _, rfl, rfl, rfl, by simpa using HO0.out, HL0.out⟩
      case round =>
        clear z HO0 HL0
        obtain ⟨k, c, B, m, hk, rfl, rfl, hm, hob, hbl⟩ := hrel
        rename World => wr
        have z := hbl.size
        by_cases hlt : k < q.length
        · skip
          obtain ⟨ae, hA, _, hc⟩ := (HQ.out.below (hbl.mono hK)).get hlt
          subst hA
          have htk : q.take (k + 1) = q.take k ++ [q[k]] := List.take_succ_eq_append_getElem hlt
          generalize q[k] = x at *
          have hml : m ≤ 140000000 := by omega
          have HT := Lib.hid htk
          have HO := Lib.hid hob
          have HM := Lib.hid hm
          have HL := Lib.hid hbl
          clear htk hob hbl hm
          go_wp2_with (at_builtin; refine wpList_app _ rfl (.tmp 27) (.tmp 32) rfl w.heap.size (.slice B m c) (p ++ q.take k) rfl (HO.out.alloc _) (some ⟨wr.heap.size, 0, none⟩) 1 1 [x] rfl rfl (wr.heap.size + 1) (lit_bsF wr _ _ _ rfl #[bv x] 1 [x] rfl rfl (by decide)) (m + 1) (by rw [← HO.out.bs.2]; rfl) (by rw [← HO.out.bs.2]; simp; omega) (by simp; omega) ?_; intro A2 cap2 w2 hown2 hgrow2 hat2; have B2 : Below w.heap.size w w2 := Below.grown (HL.out.alloc z _) hgrow2 (by simp; omega) (fun _ h => (HO.out.lt _ h).1))
          go_roundw
          case rel => exact ⟨k + 1, cap2, A2, m + 1, by omega, by go_num, rfl, by have := HM.out; omega, by rw [HT.out, ← List.append_assoc]; exact hown2, B2⟩
          case measure => simp [intOf]; omega
        · obtain rfl : k = q.length := by omega
          rw [List.take_length] at hob
          have hlen : m = L.length := by rw [HLL.out, List.length_append]; exact hm
          rw [← HLL.out] at hob
          clear hm
          subst hlen
          go_wp2
          go_ret
          exact ⟨B, c, rfl, hob, hbl⟩
end Go.Proofs.Ytpckbbjlihhpdaa
