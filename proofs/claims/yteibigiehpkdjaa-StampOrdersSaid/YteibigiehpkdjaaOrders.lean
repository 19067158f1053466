/- StampOrders: which stamps are right, and how any two stand, is the document's answer. -/
import Derived.Test.YteibigiehpkdjaaStamp
namespace Go.Proofs.Yteibigiehpkdjaa
open Go.RowKit

set_option maxHeartbeats 2000000 in
theorem orders_any (a b c x y z : Int) (hb0 : 0 ≤ b) (hb1 : b ≤ 4294967295) (hc0 : 0 ≤ c) (hc1 : c ≤ 4294967295) (hy0 : 0 ≤ y) (hy1 : y ≤ 4294967295) (hz0 : 0 ≤ z) (hz1 : z ≤ 4294967295) (w : World) :
    Calls Try.prog 3 #[.agg #[.int .i64 a, .int .u32 b, .int .u32 c], .agg #[.int .i64 x, .int .u32 y, .int .u32 z]] w fun e w' => e = .returned (.bool true) ∧ Below w.heap.size w w' := by
  go_enter Try.func3, Try.ntmps3
  go_wp2_with fail
  go_region_held3 (fun w' => w'.cell? ⟨w.heap.size, 0, none⟩ = some (.int .i64 a) ∧ w'.cell? ⟨w.heap.size, 1, none⟩ = some (.int .u32 b) ∧ w'.cell? ⟨w.heap.size, 2, none⟩ = some (.int .u32 c) ∧ w'.cell? ⟨w.heap.size + 1, 0, none⟩ = some (.int .i64 x) ∧ w'.cell? ⟨w.heap.size + 1, 1, none⟩ = some (.int .u32 y) ∧ w'.cell? ⟨w.heap.size + 1, 2, none⟩ = some (.int .u32 z) ∧ Below w.heap.size w w')
    (((try dsimp only); go_split_ands; (repeat' apply And.intro) <;> first | assumption | (apply kept; assumption; assumption) | (apply via; assumption; assumption; apply Below.size; assumption) | (simp; done) | (go_grown; done)))
    (first
      | (go_at_call 12; refine (to_any _ _ _ _).mono ?_; rintro e w1 ⟨rfl, hb⟩)
      | (go_at_call 11; refine (right_any _ _ _ _).mono ?_; rintro e w1 ⟨rfl, hb⟩)
      | (go_at_call 13; refine (rright_any _ _ _ _).mono ?_; rintro e w1 ⟨rfl, hb⟩)
      | (go_at_call 14; refine (compare_any _ _ _ _ _ _ (by assumption) (by assumption) (by assumption) (by assumption) (by assumption) (by assumption) (by assumption) (by assumption) _).mono ?_; rintro e w1 ⟨rfl, hb⟩)
      | (go_at_call 15; refine (order_any _ _ _ _ _ _ _).mono ?_; rintro e w1 ⟨rfl, hb⟩))
  go_split_ands
  go_wp2
  go_ret
  exact ⟨ret_bool (by decide), by go_grown⟩

end Go.Proofs.Yteibigiehpkdjaa
