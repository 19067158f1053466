/- The law FrameCrcs: its walk. -/
import Derived.Test.YtldflhledobfnaaAwk
import Derived.Test.YtldflhledobfnaaRefSeal
namespace Go.Proofs.Ytldflhledobfnaa
open Go.RowKit

set_option maxHeartbeats 1600000 in
theorem crcs_any (s : Nat) (hs : s < 4294967296) (K : Nat) (A : Option Addr) (cap : Nat) (p : List UInt8) (A' : Option Addr) (cap' : Nat) (q : List UInt8) (w : World) (hp : Bs w K A cap p) (hq : Bs w K A' cap' q) (hK : K ≤ w.heap.size)
    (hsz : p.length + q.length ≤ 140737488355328) :
    Calls Try.prog 3 #[.int .u32 (s : Int), .slice A p.length cap, .slice A' q.length cap'] w fun e w' => e = .returned (.bool true) ∧ Below w.heap.size w w' := by
  have c1 := crc_any s hs K A cap p
  have c2 := refCrc_any s hs K A cap p
  have c3 := crc_any (crcN s p) (crcN_lt _ _) K A' cap' q
  have c4 := fun K A cap => crc_any s hs K A cap (p ++ q)
  have hl : (p ++ q).length = p.length + q.length := List.length_append
  rw [crcN_append] at c3
  rw [hl] at c4
  generalize crcN s p = x at *
  generalize crcN s (p ++ q) = y at *
  have C1 := Lib.hid c1
  have C2 := Lib.hid c2
  have C3 := Lib.hid c3
  have C4 := Lib.hid c4
  have HL := Lib.hid hl
  clear c1 c2 c3 c4 hl
  go_enter Try.func3, Try.ntmps3
  go_wp2_with (first
    | (at_builtin; refine wpList_app _ rfl (.tmp 8) (.tmp 9) rfl w.heap.size (.slice (some ⟨w.heap.size, 0, none⟩) 0 0) [] rfl (lit_ob _ w.heap.size w.heap.size rfl (Nat.le_refl _) _ 0 [] rfl rfl (by decide)) A p.length cap p rfl rfl K (hp.alloc hK _) p.length (by simp) (by simp; omega) (by simp) ?_; intro A2 cap2 w2 hown2 hgrow2 hat2; have B2 : Below w.heap.size w w2 := grown_below ((Below.refl _ _).alloc (Nat.le_refl _) _) hgrow2 (by simp) (by simp [Value.ownBlock]); have z2 := B2.size)
    | (at_builtin; refine wpList_app _ rfl (.tmp 10) (.tmp 11) rfl w.heap.size _ ([] ++ p) rfl hown2 A' q.length cap' q rfl rfl K (hq.below (B2.mono hK)) (p.length + q.length) rfl hsz z2 ?_; intro A3 cap3 w3 hown3 hgrow3 hat3; have B3 : Below w.heap.size w w3 := grown_below B2 hgrow3 z2 (fun _ h => (hown2.lt _ h).1); have z3 := B3.size; rw [List.nil_append] at hown3)
    | (go_at_call 7; refine (awake_any _).mono ?_; rintro e w4 ⟨rfl, hb4⟩; have B4 : Below w.heap.size w w4 := B3.trans (hb4.mono z3); have hall := (hown3.bs.1).below hb4; have hp4 := hp.below (B4.mono hK); have hq4 := hq.below (B4.mono hK))
    | (go_at_call 9; refine (C2.out _ hp4).mono ?_; rintro e w' ⟨rfl, rfl⟩)
    | fail)
  refine (C1.out _ hp4).mono ?_
  rintro e w' ⟨rfl, rfl⟩
  go_wp2_with (go_at_call 9; refine (C2.out _ hp4).mono ?_; rintro e w' ⟨rfl, rfl⟩)
  refine (C1.out _ hp4).mono ?_
  rintro e w' ⟨rfl, rfl⟩
  go_wp2_with fail
  refine (C3.out _ hq4).mono ?_
  rintro e w' ⟨rfl, rfl⟩
  go_wp2_with fail
  refine (C4.out _ _ _ _ hall).mono ?_
  rintro e w' ⟨rfl, rfl⟩
  go_wp2
  go_ret
  exact ⟨rfl, B4⟩
end Go.Proofs.Ytldflhledobfnaa
