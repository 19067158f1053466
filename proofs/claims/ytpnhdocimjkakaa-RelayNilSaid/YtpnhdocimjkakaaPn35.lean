/- A relay: Propose, where nobody else is a member; what it refuses; Sure, Active. -/
import Derived.Test.YtpnhdocimjkakaaPn34
namespace Go.Proofs.Ytpnhdocimjkakaa
open Go.RowKit Go.BigFrame Go.Maps

set_option maxRecDepth 100000 in
theorem propose_nil (v : Value) (w : World) : Calls Try.prog 33 #[.pointer none, v] w fun e w' => e = .returned (.tuple #[.int .i64 0, .slice none 0 0, .slice none 0 0, .int .i64 2]) ∧ w = w' := by
  go_enter Try.func33, Try.ntmps33
  go_wp2_with fail
  exact bodyPost_ret (v := .tuple #[.int .i64 0, .slice none 0 0, .slice none 0 0, .int .i64 2]) (by simp [results, Try.results33, go_sem]) rfl ⟨rfl, rfl⟩
set_option maxRecDepth 100000 in
theorem propose_long (b : Nat) (A : Option Addr) (m c : Nat) (hm : 262144 < m) (w : World) : Calls Try.prog 33 #[.pointer (some ⟨b, 0, none⟩), .slice A m c] w fun e w' => e = .returned (.tuple #[.int .i64 0, .slice none 0 0, .slice none 0 0, .int .i64 8]) ∧ w = w' := by
  have hm1 : (262144 : Int) < m := by omega
  go_enter Try.func33, Try.ntmps33
  go_wp2_with fail
  exact bodyPost_ret (v := .tuple #[.int .i64 0, .slice none 0 0, .slice none 0 0, .int .i64 8]) (by simp [results, Try.results33, go_sem]) rfl ⟨rfl, rfl⟩
set_option maxRecDepth 100000 in
theorem propose_state {w : World} {Kb b : Nat} {MA LA : Option Addr} {mc lc : Nat} {x : Rs} {AV : Value} (H : Rn w Kb b MA mc LA lc AV x) (hac : x.ac = false) (A : Option Addr) (m c : Nat) (hm : m ≤ 262144) :
    Calls Try.prog 33 #[.pointer (some ⟨b, 0, none⟩), .slice A m c] w fun e w' => e = .returned (.tuple #[.int .i64 0, .slice none 0 0, .slice none 0 0, .int .i64 3]) ∧ w = w' := by
  have hm1 : ¬ (262144 : Int) < m := by omega
  have y8 : w.cell? ⟨b, 8, none⟩ = some (.bool false) := by rw [← hac]; exact H.bx.cell rfl
  clear H
  go_enter Try.func33, Try.ntmps33
  go_wp2_with fail
  exact bodyPost_ret (v := .tuple #[.int .i64 0, .slice none 0 0, .slice none 0 0, .int .i64 3]) (by simp [results, Try.results33, go_sem]) rfl ⟨rfl, rfl⟩
set_option maxRecDepth 100000 in
theorem propose_full {w : World} {Kb b : Nat} {MA LA : Option Addr} {mc lc : Nat} {x : Rs} {AV : Value} (H : Rn w Kb b MA mc LA lc AV x) (hac : x.ac = true) (hfl : 4096 ≤ x.lg.length) (A : Option Addr) (m c : Nat) (hm : m ≤ 262144) :
    Calls Try.prog 33 #[.pointer (some ⟨b, 0, none⟩), .slice A m c] w fun e w' => e = .returned (.tuple #[.int .i64 0, .slice none 0 0, .slice none 0 0, .int .i64 4]) ∧ w = w' := by
  have hm1 : ¬ (262144 : Int) < m := by omega
  have y8 : w.cell? ⟨b, 8, none⟩ = some (.bool true) := by rw [← hac]; exact H.bx.cell rfl
  have y4 : w.cell? ⟨b, 4, none⟩ = some (.slice LA x.lg.length lc) := H.bx.cell rfl
  have hf1 : (4096 : Int) ≤ x.lg.length := by omega
  clear H
  go_enter Try.func33, Try.ntmps33
  go_wp2_with fail
  exact bodyPost_ret (v := .tuple #[.int .i64 0, .slice none 0 0, .slice none 0 0, .int .i64 4]) (by simp [results, Try.results33, go_sem]) rfl ⟨rfl, rfl⟩
/-- What a Propose gives where nobody else is a member. -/
def PropP (w : World) (Kb b mb : Nat) (MA : Option Addr) (mc n : Nat) (f : Int → Int) (h : Int → Bool) (x : Rs) (bs : List UInt8) (e : Ending) (w' : World) : Prop :=
  ∃ g L l z, e = .returned (.tuple #[.int .i64 ((x.lg.length : Int) + 1), .slice (some ⟨g, 0, none⟩) 1 1, .slice none 0 0, .int .i64 0]) ∧ z.2.1 = bs ∧
    Rl w' Kb b mb MA mc L l (n + 1) (fun j => if j = x.id then ((x.lg ++ [z]).length : Int) else f j) (fun j => h j || decide (j = x.id)) (settleR (fun j => if j = x.id then ((x.lg ++ [z]).length : Int) else f j) (fun j => h j || decide (j = x.id)) { x with lg := x.lg ++ [z] }) ∧ Below Kb w w'
set_option maxRecDepth 100000 in
set_option maxHeartbeats 1600000 in
theorem propose_any {w : World} {Kb b mb : Nat} {MA LA : Option Addr} {mc lc n : Nat} {f : Int → Int} {h : Int → Bool} {x : Rs} (H : Rl w Kb b mb MA mc LA lc n f h x) (hK0 : Kb ≤ w.heap.size) (hac : x.ac = true) (hln0 : x.lg.length < 4096) (hms0 : ∀ m ∈ x.ms, I64 m) (hid0 : I64 x.id) (hep0 : I64 x.ep) (hfi0 : ∀ m, I64 (f m)) (hf00 : ∀ m, 0 ≤ f m) (hsu0 : 0 ≤ x.su ∧ x.su ≤ 1048576) (hn0 : n < 1048576)
    (hml : x.ms.length ≤ 1048576) (hm0 : 0 < x.ms.length) (hot : (x.ms.filter fun n => stB x.id n) = []) (K0 : Nat) (A : Option Addr) (m cap : Nat) (bs : List UInt8) (hn : bs.length = m) (hs : Bs w K0 A cap bs) (hKs : K0 ≤ w.heap.size) (hlb : bs.length ≤ 262144)
    (hla : 0 < bs.length → ∀ ad : Addr, A = some ad → ad.block ≠ b ∧ ∀ g, (Value.slice LA x.lg.length lc).ownBlock = some g → g ≠ ad.block) :
    Calls Try.prog 33 #[.pointer (some ⟨b, 0, none⟩), .slice A m cap] w (PropP w Kb b mb MA mc n f h x bs) := by
  subst hn
  have hm1 : ¬ (262144 : Int) < bs.length := by omega
  have hf1 : ¬ (4096 : Int) ≤ x.lg.length := by omega
  have y8 : w.cell? ⟨b, 8, none⟩ = some (.bool true) := by rw [← hac]; exact H.bx.cell rfl
  have y4 : w.cell? ⟨b, 4, none⟩ = some (.slice LA x.lg.length lc) := H.bx.cell rfl
  have y1 : w.cell? ⟨b, 1, none⟩ = some (.int .i64 x.ep) := H.bx.cell rfl
  have yl := H.bx.lt
  have HEN := Lib.hid (enter_any H hK0 (by omega) x.ep hep0 K0 A bs.length cap bs rfl hs hKs (by omega) hla)
  have hK := Lib.hid hK0
  have hms := Lib.hid hms0
  have hid := Lib.hid hid0
  have hfi := Lib.hid hfi0
  have hf0 := Lib.hid hf00
  have hsu := Lib.hid hsu0
  have HOT := Lib.hid hot
  clear H hK0 hac hms0 hid0 hep0 hfi0 hf00 hsu0 hs hla hot
  go_enter Try.func33, Try.ntmps33
  go_wp2_with fail
  refine HEN.out.mono ?_
  rintro e w1 ⟨A4, c4, L, l, A', c', rfl, hr1, hb1⟩
  obtain ⟨z, hz⟩ : ∃ z : Ez, z = (x.ep, bs, A', c') := ⟨_, rfl⟩
  rw [← hz] at hr1
  have HZB : Hid (z.2.1 = bs) := Lib.hid (by rw [hz])
  have HR1 := Lib.hid hr1
  have HB1 := Lib.hid hb1
  obtain ⟨x2, hx2⟩ : ∃ x2 : Rs, x2 = { x with lg := x.lg ++ [z] } := ⟨_, rfl⟩
  have hl2 : x2.lg.length = x.lg.length + 1 := by rw [hx2]; simp
  have he2 : x2.ms = x.ms ∧ x2.id = x.id ∧ x2.su = x.su ∧ x2.lg = x.lg ++ [z] := by rw [hx2]; exact ⟨rfl, rfl, rfl, rfl⟩
  rw [← hx2] at HR1
  have HX2 := Lib.hid hx2
  have HE2 := Lib.hid he2
  have HA := Lib.hid (ackOwn_any HR1.out (Nat.le_trans hK.out HB1.out.size) (by rw [he2.1]; exact hms.out) (by rw [he2.2.1]; exact hid.out) hfi.out hf0.out (by rw [he2.2.2.1]; exact hsu.out) (by omega) hn0)
  generalize (erB ((x.lg.length : Int) + 1) x.ep bs).length = rl at *
  have HL2 := Lib.hid hl2
  clear hr1 hb1 hz hx2 y8 y4 y1 yl he2 hl2
  go_wp2_with fail
  refine HA.out.mono ?_
  rintro e w2 ⟨rfl, hr2, hb2⟩
  obtain ⟨F, hF⟩ : ∃ F : Int → Int, F = fun j => if j = x2.id then (x2.lg.length : Int) else f j := ⟨_, rfl⟩
  obtain ⟨G, hG⟩ : ∃ G : Int → Bool, G = fun j => h j || decide (j = x2.id) := ⟨_, rfl⟩
  rw [← hF, ← hG] at hr2
  have HR2 := Lib.hid hr2
  have HB2 := Lib.hid (HB1.out.trans hb2)
  have hk := settleR_k F G x2
  have HLG : Hid ((settleR F G x2).lg.length = x.lg.length + 1) := Lib.hid (by rw [hk.2.2.2.2.1, HL2.out])
  have HMS : Hid ((settleR F G x2).ms = x.ms) := Lib.hid (by rw [hk.2.2.1, HE2.out.1])
  have HID : Hid ((settleR F G x2).id = x.id) := Lib.hid (by rw [hk.2.2.2.1, HE2.out.2.1])
  have y4 : w2.cell? ⟨b, 4, none⟩ = some (.slice L (x.lg.length + 1) l) := by rw [← HLG.out]; exact HR2.out.bx.cell rfl
  have yl := HR2.out.bx.lt
  have HO := Lib.hid (others_any HR2.out.rn (by rw [HMS.out]; exact hml) (by rw [HMS.out]; exact hm0))
  rw [HMS.out, HID.out] at HO
  have HF := Lib.hid hF
  have HG := Lib.hid hG
  clear hr2 hb2 hk hF hG
  go_wp2_with fail
  refine HO.out.mono ?_
  rintro e w3 ⟨A3, c3, m3, rfl, so3, b3⟩
  rw [HOT.out] at so3
  have hm3 : m3 = 0 := by have := (so3.sr encI_len).2; simpa using this.symm
  subst hm3
  have HR3 := Lib.hid (HR2.out.below b3)
  have HB3 := Lib.hid (HB2.out.trans (b3.mono (Nat.le_trans hK.out HB2.out.size)))
  have hz3 : Kb ≤ w3.heap.size := Nat.le_trans hK.out HB3.out.size
  clear so3 b3 y4 yl
  go_wp2_with fail
  refine wp_loop_rounds 1 ?_
  rw [rounds_succ]
  go_wp2_with fail
  have HFIN : Hid (Rl (w3.alloc (.cells #[.slice A4 rl c4] 23)) Kb b mb MA mc L l (n + 1) F G (settleR F G x2) ∧ Below Kb w (w3.alloc (.cells #[.slice A4 rl c4] 23))) := Lib.hid ⟨HR3.out.below ((Below.refl _ _).alloc (Nat.le_refl _) _), HB3.out.alloc hz3 _⟩
  refine bodyPost_ret (v := .tuple #[.int .i64 ((x.lg.length : Int) + 1), .slice (some ⟨w3.heap.size, 0, none⟩) 1 1, .slice none 0 0, .int .i64 0]) (by simp [results, Try.results33, go_sem]) rfl ⟨w3.heap.size, L, l, z, rfl, HZB.out, ?_, HFIN.out.2⟩
  have h9 := HFIN.out.1
  rw [HF.out, HG.out, HE2.out.2.1, HE2.out.2.2.2, HX2.out] at h9
  exact h9
set_option maxRecDepth 100000 in
theorem sure_any {w : World} {Kb b : Nat} {MA LA : Option Addr} {mc lc : Nat} {x : Rs} {AV : Value} (H : Rn w Kb b MA mc LA lc AV x) : Calls Try.prog 25 #[.pointer (some ⟨b, 0, none⟩)] w fun e w' => e = .returned (.int .i64 x.su) ∧ w = w' := by
  have y6 : w.cell? ⟨b, 6, none⟩ = some (.int .i64 x.su) := H.bx.cell rfl
  clear H
  go_enter Try.func25, Try.ntmps25
  go_wp2_with fail
  go_ret
  exact ⟨rfl, rfl⟩
set_option maxRecDepth 100000 in
theorem sure_nil (w : World) : Calls Try.prog 25 #[.pointer none] w fun e w' => e = .returned (.int .i64 0) ∧ w = w' := by
  go_enter Try.func25, Try.ntmps25
  go_wp2_with fail
  go_ret
  exact ⟨rfl, rfl⟩
set_option maxRecDepth 100000 in
theorem ractive_nil (w : World) : Calls Try.prog 29 #[.pointer none] w fun e w' => e = .returned (.bool false) ∧ Below w.heap.size w w' := by
  go_enter Try.func29, Try.ntmps29
  go_wp2_with fail
  go_ret
  exact ⟨rfl, Below.refl _ _⟩
set_option maxRecDepth 100000 in
theorem ractive_any {w : World} {Kb b : Nat} {MA LA : Option Addr} {mc lc : Nat} {x : Rs} {AV : Value} (H : Rn w Kb b MA mc LA lc AV x) : Calls Try.prog 29 #[.pointer (some ⟨b, 0, none⟩)] w fun e w' => e = .returned (.bool x.ac) ∧ Below w.heap.size w w' := by
  have y8 : w.cell? ⟨b, 8, none⟩ = some (.bool x.ac) := H.bx.cell rfl
  clear H
  go_enter Try.func29, Try.ntmps29
  go_wp2_with fail
  go_ret
  exact ⟨rfl, Below.refl _ _⟩
end Go.Proofs.Ytpnhdocimjkakaa
