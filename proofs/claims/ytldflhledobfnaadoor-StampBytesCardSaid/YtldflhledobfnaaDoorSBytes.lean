/- The law StampBytes: its walk. -/
import Derived.Test.YtldflhledobfnaaDoorGet
import Derived.Test.YtldflhledobfnaaDoorRefGet
import Derived.Test.YtldflhledobfnaaDoorRefPut
import Derived.Test.YtldflhledobfnaaDoorClone
import Derived.Test.YtldflhledobfnaaDoorStr
import Derived.Deep.RegionHeld3
namespace Go.Proofs.YtldflhledobfnaaDoor
open Go.RowKit

theorem ob_str {w : World} {K n cap : Nat} {A : Option Addr} {l : List UInt8} {str : ByteArray} (h : Ob w K (.slice A n cap) l) (hs : str = strB l) : (convert 25 9 (.slice A n cap)).run Tryd.prog w = .ok (.string str) w := by
  rw [hs, bs_str h.bs.1 h.bs.2.symm]

structure Hob (w : World) (K : Nat) (v : Value) (l : List UInt8) : Prop where
  out : Ob w K v l
theorem hob_below {w w' : World} {K : Nat} {v : Value} {l : List UInt8} (h : Hob w K v l) (hb : Below w.heap.size w w') : Hob w' K v l := ⟨h.out.below hb⟩
theorem hob_str {w : World} {K n cap : Nat} {A : Option Addr} {l : List UInt8} {str : ByteArray} (h : Hob w K (.slice A n cap) l) (hs : RowKit.Hid (str = strB l)) : (convert 25 9 (.slice A n cap)).run Tryd.prog w = .ok (.string str) w := ob_str h.out hs.out

set_option maxRecDepth 100000 in
set_option maxHeartbeats 3200000 in
theorem sbytes_any (a b c : Int) (K : Nat) (A : Option Addr) (cap : Nat) (l : List UInt8) (w : World) (hb : 0 ≤ b ∧ b ≤ 4294967295) (hc : 0 ≤ c ∧ c ≤ 4294967295) (hw : Wid w) (hl : Bs w K A cap l) (hK : K ≤ w.heap.size)
    (hget : ∀ w', Bs w' K A cap l → Wid w' → Calls Tryd.prog 14 #[.slice A l.length cap] w' (GetPost w' l)) (hrget : ∀ w', Bs w' K A cap l → Calls Tryd.prog 15 #[.slice A l.length cap] w' (GetPost w' l)) :
    Calls Tryd.prog 3 #[.agg #[.int .i64 a, .int .u32 b, .int .u32 c], .slice A l.length cap] w fun e w' => e = .returned (.bool true) ∧ Below w.heap.size w w' := by
  have k0 := hw.c0
  have k1 := hw.c1
  have k2 := hw.c2
  have hz : 0 < w.heap.size := World.block_lt_of_cell? w _ k0
  have hlen := putB_length a b c
  have HLEN := Lib.hid hlen
  have HGET := Lib.hid hget
  have HRGET := Lib.hid hrget
  have HB := Lib.hid hb
  have HC := Lib.hid hc
  clear hlen hget hrget hb hc
  go_enter Tryd.func3, Tryd.ntmps3
  go_wp2_with fail
  go_region_held3 (fun w' => w'.cell? ⟨w.heap.size, 0, none⟩ = some (.int .i64 a) ∧ w'.cell? ⟨w.heap.size, 1, none⟩ = some (.int .u32 b) ∧ w'.cell? ⟨w.heap.size, 2, none⟩ = some (.int .u32 c) ∧ w'.cell? ⟨0, 0, none⟩ = some (.int .i64 8) ∧ w'.cell? ⟨0, 1, none⟩ = some (.int .i64 4) ∧ w'.cell? ⟨0, 2, none⟩ = some (.int .i64 4) ∧ Below w.heap.size w w')
    (((try dsimp only); go_split_ands; (repeat' apply And.intro) <;> first | assumption | (apply kept; assumption; assumption) | (apply via; assumption; assumption; apply Below.size; assumption) | (go_grown; done) | (repeat' first | assumption | (simp; done) | apply keptD | apply keptA | (apply kept; assumption))))
    (first
      | (go_at_call 12; refine (to_any _ _ _ _).mono ?_; rintro e w1 ⟨rfl, hb1⟩)
      | (go_at_call 13; refine (refPut_any a b c _ HB.out HC.out).mono ?_; rintro e w3 ⟨A3, c3, rfl, hown3, hb3⟩)
      | (go_at_call 11; go_split_ands; refine (put_any a b c _ HB.out HC.out ⟨by assumption, by assumption, by assumption⟩).mono ?_; rintro e w2 ⟨A2, c2, rfl, hown2, hb2⟩))
  rename_i hH
  obtain ⟨-, -, -, g0, g1, g2, B3⟩ := hH
  have z1 := hb1.size
  have z2 := hb2.size
  have z3 := hb3.size
  have z1 : w.heap.size + 1 ≤ w1.heap.size := by simpa using z1
  have ho2 := (hown2.below hb3).more (K' := w.heap.size) (by omega)
  have ho3 := hown3.more (K' := w.heap.size) (by omega)
  clear hown2 hown3 hb1 hb2 hb3
  go_wp2_with (first
    | (go_at_call 14; refine (HGET.out _ (hl.below (B3.mono hK)) ⟨g0, g1, g2⟩).mono ?_; rintro e w4 ⟨rfl, hb4⟩; have z4 := hb4.size; have z03 := B3.size)
    | (go_at_call 15; refine (HRGET.out _ (hl.below ((B3.trans ((hb4.alloc z4 _).mono z03)).mono hK))).mono ?_; rintro e w5 ⟨rfl, hb5⟩; have z5 : w4.heap.size + 1 ≤ w5.heap.size := by simpa using hb5.size)
    | fail)
  have n0 : w5.cell? ⟨w4.heap.size, 0, none⟩ = some (.int .i64 (getB l).1) := kept hb5 (by simp)
  have n1 : w5.cell? ⟨w4.heap.size, 1, none⟩ = some (.int .u32 (getB l).2.1) := kept hb5 (by simp)
  have n2 : w5.cell? ⟨w4.heap.size, 2, none⟩ = some (.int .u32 (getB l).2.2.1) := kept hb5 (by simp)
  have B35 : Below w3.heap.size w3 w5 := (hb4.alloc z4 _).trans (hb5.mono (by simp; omega))
  have B5 : Below w.heap.size w w5 := B3.trans (B35.mono z03)
  have ho2' := ho2.below B35
  have ho3' := ho3.below B35
  clear ho2 ho3 hb4 hb5 B3 B35 g0 g1 g2 k0 k1 k2 hl hw
  generalize (getB l).1 = xa at *
  generalize (getB l).2.1 = xb at *
  generalize (getB l).2.2.1 = xc at *
  generalize (getB l).2.2.2 = xe at *
  obtain ⟨str, hstr⟩ : ∃ s, s = strB (putB a b c) := ⟨_, rfl⟩
  have HSTR := Lib.hid hstr
  clear hstr
  have s1 := fun o => ob_str (ho2'.alloc o).drew HSTR.out
  have s2 := fun o => ob_str (ho3'.alloc o).drew HSTR.out
  have s3 := fun o => ob_str (ho2'.alloc o) HSTR.out
  have s4 := fun o => ob_str (ho3'.alloc o) HSTR.out
  have o1 := fun o => Hob.mk (ho2'.alloc o).drew
  have o2 := fun o => Hob.mk (ho3'.alloc o).drew
  go_region_held3 (fun w' => w'.cell? ⟨w4.heap.size, 0, none⟩ = some (.int .i64 xa) ∧ w'.cell? ⟨w4.heap.size, 1, none⟩ = some (.int .u32 xb) ∧ w'.cell? ⟨w4.heap.size, 2, none⟩ = some (.int .u32 xc) ∧ w'.cell? ⟨w5.heap.size, 0, none⟩ = some (.int .i64 xa) ∧ w'.cell? ⟨w5.heap.size, 1, none⟩ = some (.int .u32 xb) ∧ w'.cell? ⟨w5.heap.size, 2, none⟩ = some (.int .u32 xc) ∧ Below w.heap.size w w' ∧
      Hob w' w.heap.size (.slice A2 (putB a b c).length c2) (putB a b c) ∧ Hob w' w.heap.size (.slice A3 (putB a b c).length c3) (putB a b c) ∧ (convert 25 9 (.slice A2 (putB a b c).length c2)).run Tryd.prog w' = .ok (.string str) w' ∧ (convert 25 9 (.slice A3 (putB a b c).length c3)).run Tryd.prog w' = .ok (.string str) w')
    (((try dsimp only); go_split_ands; (repeat' apply And.intro) <;> first | assumption | (apply o1) | (apply o2) | (apply s1) | (apply s2) | (apply hob_below; assumption; assumption) | (apply hob_str; apply hob_below; assumption; assumption; exact HSTR) | (apply kept; assumption; assumption) | (apply via; assumption; assumption; apply Below.size; assumption) | (go_grown; done) | (repeat' first | assumption | (simp; done) | apply keptD | apply keptA | (apply kept; assumption))))
    (first
      | (go_at_call 16; refine (from_any _ _ _ _).mono ?_; rintro e w6 ⟨rfl, hb6⟩))
  go_split_ands
  go_wp2
  go_ret
  exact ⟨rfl, by assumption⟩
end Go.Proofs.YtldflhledobfnaaDoor
