/- The law FrameSeals: its walk. -/
import Derived.Test.YtldflhledobfnaaAwk
import Derived.Test.YtldflhledobfnaaRefOpen
import Derived.Test.YtldflhledobfnaaStr
namespace Go.Proofs.Ytldflhledobfnaa
open Go.RowKit

theorem refSeal_long (k : UInt8) (A : Option Addr) (cap : Nat) (n : Nat) (w : World) (hl : 1048576 < n) (hn : n ≤ maxLen) :
    Calls Try.prog 11 #[bv k, .slice A n cap] w fun e w' => e = .returned (.tuple #[.slice none 0 0, .int .i64 8]) ∧ w = w' := by
  unfold maxLen at hn
  go_enter Try.func11, Try.ntmps11
  go_wp2
  go_ret2
  exact ⟨rfl, rfl⟩

set_option maxHeartbeats 1600000 in
theorem seals_long (k : UInt8) (K : Nat) (A : Option Addr) (cap : Nat) (p : List UInt8) (v : Value) (w : World) (hp : Bs w K A cap p) (hl : 1048576 < p.length) :
    Calls Try.prog 4 #[bv k, .slice A p.length cap, v] w fun e w' => e = .returned (.bool true) ∧ Below w.heap.size w w' := by
  have hm := Nat.le_trans hp.le hp.max
  have n1 := fun w' => bs_str (n := 0) (w := w') (Bs.mk (K := 0) (A := none) (cap := 0) (l := []) (Nat.le_refl _) (Nat.zero_le _) (fun _ => rfl) (fun h => absurd h (by simp))) rfl
  go_enter Try.func4, Try.ntmps4
  go_wp2_with fail
  refine (seal_long k A cap p.length _ hl hm).mono ?_
  rintro e w' ⟨rfl, rfl⟩
  go_wp2_with fail
  refine (refSeal_long k A cap p.length _ hl hm).mono ?_
  rintro e w' ⟨rfl, rfl⟩
  go_wp2_with fail
  refine (awake_any _).mono ?_
  rintro e w4 ⟨rfl, hb4⟩
  go_wp2
  go_ret
  exact ⟨rfl, hb4⟩

set_option maxHeartbeats 1600000 in
theorem seals_any (k : UInt8) (K : Nat) (A : Option Addr) (cap : Nat) (p : List UInt8) (A' : Option Addr) (cap' : Nat) (q : List UInt8) (w : World) (hp : Bs w K A cap p) (hq : Bs w K A' cap' q) (hK : K ≤ w.heap.size) (hl : p.length ≤ 1048576) (hs : q.length ≤ 1048576) :
    Calls Try.prog 4 #[bv k, .slice A p.length cap, .slice A' q.length cap'] w fun e w' => e = .returned (.bool true) ∧ Below w.heap.size w w' := by
  have ho := openB_seal k p q hl
  have HO := Lib.hid ho
  clear ho
  go_enter Try.func4, Try.ntmps4
  go_wp2_with fail
  refine (seal_ok k K A cap p _ hp hK hl).mono ?_
  rintro e w1 ⟨A1, c1, rfl, hown1, B1⟩
  have z1 := B1.size
  go_wp2_with fail
  refine (refSeal_ok k K A cap p _ (hp.below (B1.mono hK)) (by omega) hl).mono ?_
  rintro e w2 ⟨A2, c2, rfl, hown2, hb2⟩
  have B2 : Below w.heap.size w w2 := B1.trans (hb2.mono z1)
  have z2 := B2.size
  have hown1 := hown1.below hb2
  clear hb2
  go_wp2_with fail
  refine (awake_any _).mono ?_
  rintro e w3 ⟨rfl, hb3⟩
  have B3 : Below w.heap.size w w3 := B2.trans (hb3.mono z2)
  have z3 := B3.size
  have hown1 := hown1.below hb3
  have hown2 := hown2.below hb3
  clear hb3
  have s1 := bs_str hown1.bs.1 hown1.bs.2.symm
  have s2 := bs_str hown2.bs.1 hown2.bs.2.symm
  go_wp2_with (first
    | (at_builtin; refine wpList_app _ rfl (.tmp 44) (.tmp 45) rfl w.heap.size (.slice (some ⟨w3.heap.size, 0, none⟩) 0 0) [] rfl (lit_ob w3 w.heap.size w3.heap.size rfl z3 _ 0 [] rfl rfl (by decide)) A1 _ c1 (sealB k p) rfl hown1.bs.2.symm _ (hown1.bs.1.alloc (Nat.le_refl _) _) (9 + p.length) (by simp [sealB_length]) (by simp [sealB_length]; omega) (by simp; omega) ?_; intro A4 cap4 w4 hown4 hgrow4 hat4; have B4 : Below w.heap.size w w4 := grown_below (B3.alloc z3 _) hgrow4 (by simp; omega) (by simp [Value.ownBlock]; omega); have z4 := B4.size; rw [List.nil_append] at hown4)
    | (at_builtin; refine wpList_app _ rfl (.tmp 46) (.tmp 47) rfl w.heap.size _ (sealB k p) rfl hown4 A' q.length cap' q rfl rfl K (hq.below (B4.mono hK)) (9 + p.length + q.length) (by simp [sealB_length]) (by simp [sealB_length]; omega) z4 ?_; intro A5 cap5 w5 hown5 hgrow5 hat5; have B5 : Below w.heap.size w w5 := grown_below B4 hgrow5 z4 (fun _ h => (hown4.lt _ h).1); have z5 := B5.size)
    | fail)
  have c4 := open_any w5.heap.size cap5 (sealB k p ++ q) w5 A5 hown5.bs.1 (Nat.le_refl _)
  rw [List.length_append, sealB_length] at c4
  refine c4.mono ?_
  clear c4
  rintro e w6 ⟨A6, c6, rfl, hown6, hb6⟩
  have B6 : Below w.heap.size w w6 := B5.trans (hb6.mono z5)
  rw [HO.out] at hown6 ⊢
  simp only at hown6
  have s3 := bs_str hown6.bs.1 rfl
  have s4 := bs_str (hp.below (B6.mono hK)) rfl
  go_wp2
  go_ret
  exact ⟨rfl, B6⟩
end Go.Proofs.Ytldflhledobfnaa
