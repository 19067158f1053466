/- A relay: entryRecord. -/
import Derived.Test.YtpnhdocimjkakaaPn31
namespace Go.Proofs.Ytpnhdocimjkakaa
open Go.RowKit Go.BigFrame Go.Maps

theorem bx_lit {α : Type} {enc : α → List Value} {w : World} {g K : Nat} {cs : Array Value} {T : TypeId} {x : α} {k : Nat} (h : Bxo w g cs T) (he : cs.toList = enc x) (hK : g < K) : Sr enc k w K (some ⟨g, 0, none⟩) 1 [x] := by
  refine ⟨by simp, by unfold maxLen; omega, (fun h => by cases h), fun _ => ⟨_, rfl, hK, fun i y hi j u hu => ?_⟩⟩
  obtain ⟨hi1, hi2⟩ := List.getElem?_eq_some_iff.1 hi
  simp at hi1
  subst hi1
  simp at hi2
  subst hi2
  have hc : cs[j]? = some u := by rw [← Array.getElem?_toList, he]; exact hu
  have := h.cell hc
  unfold Addr.add
  split
  · rename_i h0
    have : j = 0 := by omega
    subst this
    exact h.cell hc
  · simpa using this
theorem listB_one (ep : Int) (bs : List UInt8) (CA CB : Option Addr) (cc cd : Nat) : listB [(ep, bs, CA, cc)] = listB [(ep, bs, CB, cd)] := rfl
theorem listB_one_le (ep : Int) (bs : List UInt8) (CA : Option Addr) (cc : Nat) : (listB [(ep, bs, CA, cc)]).length ≤ 27 + bs.length := by
  have h1 := kN_le (zz ep)
  have h2 := kN_le bs.length
  have h3 := kN_le 1
  have e : listB [(ep, bs, CA, cc)] = numB 1 ++ (numB (zz ep) ++ numB bs.length ++ bs) := by
    unfold listB entsB entB
    simp
  rw [e, List.length_append, List.length_append, List.length_append, numB_length, numB_length, numB_length]
  omega
def erB (at_ ep : Int) (bs : List UInt8) : List UInt8 := numB 2 ++ numB (zz at_) ++ listB [(ep, bs, none, 0)]
set_option maxRecDepth 100000 in
set_option maxHeartbeats 1600000 in
theorem erecord_any (at_ ep : Int) (hat : I64 at_) (hep : I64 ep) (K0 : Nat) (A : Option Addr) (m cap : Nat) (bs : List UInt8) (w : World) (hn : bs.length = m) (hs : Bs w K0 A cap bs) (hKs : K0 ≤ w.heap.size) (hl : bs.length ≤ 1048576) :
    Calls Try.prog 121 #[.int .i64 at_, .agg #[.int .i64 ep, .slice A m cap]] w (NewBytes w (erB at_ ep bs)) := by
  subst hn
  have hle := hs.le
  have hmx := hs.max
  unfold maxLen at hmx
  obtain ⟨W0, hW0⟩ : ∃ W0, W0 = w.alloc (.cells #[.int .i64 ep, .slice A bs.length cap] 102) := ⟨_, rfl⟩
  have hb0 : Below w.heap.size w W0 := by rw [hW0]; exact (Below.refl _ _).alloc (Nat.le_refl _) _
  have HV0 : Hid (Bxo W0 w.heap.size #[.int .i64 ep, .slice A bs.length cap] 102) := Lib.hid (by rw [hW0]; exact Bxo.new _ _ _)
  have hz0 : w.heap.size < W0.heap.size := by rw [hW0]; simp
  have HS0 := Lib.hid (hs.below (hb0.mono hKs))
  have HB0 := Lib.hid hb0
  have HWW := Lib.hid hW0
  obtain ⟨n1, hn1e⟩ : ∃ n1, n1 = numB 2 := ⟨_, rfl⟩
  obtain ⟨n2, hn2e⟩ : ∃ n2, n2 = n1 ++ numB (zz at_) := ⟨_, rfl⟩
  obtain ⟨m9, hm9⟩ : ∃ m9, m9 = n2 ++ listB [(ep, bs, A, cap)] := ⟨_, rfl⟩
  have hn1 : n1.length ≤ 9 := by rw [hn1e, numB_length]; have := kN_le 2; omega
  have hn2 : n2.length ≤ 18 := by rw [hn2e, List.length_append, numB_length]; have := kN_le (zz at_); omega
  have hll := listB_one_le ep bs A cap
  have hml : m9.length ≤ 10485760 := by
    rw [hm9, List.length_append]
    omega
  have HN0 : Hid (∀ K b v w, Wr w K b v [] → Calls Try.prog 112 #[.pointer (some ⟨b, 0, none⟩), .int .u64 2] w fun e w' => ∃ v', Wst w K b v n1 e w' v') := Lib.hid (fun K b v w h => by
    have h9 := wnum_any 2 (by omega) K b v [] w h (by simp)
    rw [List.nil_append, ← hn1e] at h9
    exact h9)
  have HI0 : Hid (∀ K b v w, Wr w K b v n1 → Calls Try.prog 62 #[.pointer (some ⟨b, 0, none⟩), .int .i64 at_] w fun e w' => ∃ v', Wst w K b v n2 e w' v') := Lib.hid (fun K b v w h => by
    rw [hn2e]
    exact wint_any at_ hat.1 hat.2 K b v n1 w h (by omega))
  have HM9 : Hid (erB at_ ep bs = m9) := Lib.hid (by rw [hm9, hn2e, hn1e]; rfl)
  have HM8 := Lib.hid hm9
  have HEP := Lib.hid hep
  have HLL := Lib.hid hll
  rw [HM9.out]
  clear hs hb0 hW0 hm9 hn1e hn2e hat hep hll
  go_enter Try.func121, Try.ntmps121
  go_upto_region 1 with fail
  rw [← HWW.out]
  go_wp2_with fail
  go_at_call 61
  refine (new_any _).mono ?_
  rintro e w1 ⟨rfl, rfl⟩
  have HW1 := Lib.hid (wr_new W0 W0.heap.size (Nat.le_refl _))
  have HB1 : Hid (Below W0.heap.size W0 (W0.alloc (.cells #[.slice none 0 0] 174))) := Lib.hid ((Below.refl _ _).alloc (Nat.le_refl _) _)
  obtain ⟨W1, hW1⟩ : ∃ W1, W1 = W0.alloc (.cells #[.slice none 0 0] 174) := ⟨_, rfl⟩
  rw [← hW1] at HW1 HB1
  rw [← hW1]
  have hz1 : W0.heap.size < W1.heap.size := by rw [hW1]; simp
  have HN := Lib.hid (HN0.out W0.heap.size W0.heap.size (.slice none 0 0) W1 HW1.out)
  clear hW1
  go_wp2_with fail
  go_at_call 112
  refine HN.out.mono ?_
  rintro e w2 ⟨v2, hs2⟩
  have he2 := hs2.e
  subst he2
  have HZ2 := Lib.hid hs2.z
  have HIN := Lib.hid (HI0.out W0.heap.size W0.heap.size v2 w2 HZ2.out.wr)
  clear hs2
  go_wp2_with fail
  go_at_call 62
  refine HIN.out.mono ?_
  rintro e w3 ⟨v3, hs3⟩
  have he3 := hs3.e
  subst he3
  have HZ3 := Lib.hid (HZ2.out.step hs3)
  have HB3 : Hid (Below W0.heap.size W0 w3) := Lib.hid (HB1.out.trans (HZ3.out.belowN (by omega)))
  have HV3 := Lib.hid (HV0.out.belowB HB3.out (by omega))
  have x0 : w3.cell? ⟨w.heap.size, 0, none⟩ = some (.int .i64 ep) := HV3.out.cell rfl
  have x1 : w3.cell? ⟨w.heap.size, 1, none⟩ = some (.slice A bs.length cap) := HV3.out.cell rfl
  have xl := HV3.out.lt
  have hz3 : W0.heap.size < w3.heap.size := HZ3.out.wr.lt
  clear hs3
  have HWR := Lib.hid (HZ3.out.wr.alloc (.cells #[.int .i64 ep, .slice A bs.length cap] 102))
  have HZR := Lib.hid (HZ3.out.alloc (.cells #[.int .i64 ep, .slice A bs.length cap] 102))
  have HBR := Lib.hid (Bxo.new w3 #[.int .i64 ep, .slice A bs.length cap] 102)
  have HSR : Hid (Bs (w3.alloc (.cells #[.int .i64 ep, .slice A bs.length cap] 102)) K0 A cap bs) := Lib.hid ((HS0.out.below (HB3.out.mono (by omega))).alloc (by omega) _)
  obtain ⟨WR, hWR⟩ : ∃ WR, WR = w3.alloc (.cells #[.int .i64 ep, .slice A bs.length cap] 102) := ⟨_, rfl⟩
  have hzR : w3.heap.size < WR.heap.size := by rw [hWR]; simp
  have HHR := Lib.hid hWR
  rw [← hWR] at HWR HZR HBR HSR
  have HPL := Lib.hid (putList_any WR.heap.size (some ⟨w3.heap.size, 0, none⟩) 1 1 [(ep, bs, A, cap)] WR rfl W0.heap.size W0.heap.size v3 n2 HWR.out (fun wx l' v' hz => by
    have hbb := hz.belowK HWR.out (by omega)
    refine ⟨bx_lit (HBR.out.tn hz.tn (fun e => ?_)) rfl hzR, fun x hx => ?_⟩
    · rcases e with e | e
      · omega
      · have := (HZ3.out.wr.ob.lt _ e).2; omega
    · obtain rfl := List.mem_singleton.1 hx
      exact (HSR.out.below (hbb.mono (by omega))).more (by omega))
    (fun x hx => by obtain rfl := List.mem_singleton.1 hx; exact HEP.out) (by have := HLL.out; omega) (by simp))
  rw [← HM8.out] at HPL
  clear hWR
  go_wp2_with fail
  rw [← HHR.out]
  refine HPL.out.mono ?_
  rintro e w5 ⟨rfl, v5, hz5⟩
  have HZ5 := Lib.hid (HZR.out.thenZ hz5)
  have HB5 : Hid (Below W0.heap.size W0 w5) := Lib.hid (HB1.out.trans (HZ5.out.belowN (by omega)))
  have HBY := Lib.hid (wbytes_any W0.heap.size W0.heap.size v5 m9 w5 HZ5.out.wr (by omega))
  clear hz5 x0 x1 xl
  go_wp2_with fail
  go_at_call 65
  refine HBY.out.mono ?_
  rintro e w6 ⟨A4, c4, rfl, ho4, b4⟩
  have HO4 := Lib.hid (ho4.moreB (K' := w.heap.size) (by have := HB5.out.size; omega))
  have HB4 := Lib.hid ((HB0.out.trans (HB5.out.mono (by omega))).trans (b4.mono (by have := HB5.out.size; omega)))
  clear ho4 b4
  go_wp2_with fail
  go_ret
  exact ⟨A4, c4, rfl, HO4.out, HB4.out⟩
end Go.Proofs.Ytpnhdocimjkakaa
