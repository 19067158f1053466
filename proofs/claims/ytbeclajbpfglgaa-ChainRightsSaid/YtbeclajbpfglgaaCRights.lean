/- ChainRights: its walk. -/
import Derived.Test.YtbeclajbpfglgaaChT
namespace Go.Proofs.Ytbeclajbpfglgaa
open Go.RowKit Go.BigFrame

set_option maxRecDepth 100000 in
set_option maxHeartbeats 3200000 in
theorem crights_any (v : Ve) (hv : Vok v) (w : World) : Calls Try.prog 3 #[agV v] w (Ok0 w) := by
  have hx := hv.xs
  have HA := Lib.hid cawake_any
  have HT := Lib.hid (tov_any v)
  have HR := Lib.hid (vright_any v)
  have HQ := Lib.hid (fun w => vrright_any v w hx)
  clear hx hv
  have HH : ∀ r : Bool, rightV v = r → Calls Try.prog 3 #[agV v] w (Ok0 w) := fun r hr => by
    rw [hr] at HR HQ
    clear hr
    go_enter Try.func3, Try.ntmps3
    go_wp2_with fail
    cases r
    all_goals
      go_region_held3 (fun w' => w'.cell? ⟨w.heap.size, 0, none⟩ = some (.int .i64 v.w) ∧ w'.cell? ⟨w.heap.size, 1, none⟩ = some (.int .u32 v.t) ∧ w'.cell? ⟨w.heap.size, 2, none⟩ = some (.int .u32 v.m) ∧ w'.cell? ⟨w.heap.size, 3, none⟩ = some (.int .i64 v.k) ∧ w'.cell? ⟨w.heap.size, 4, none⟩ = some (.int .i64 v.n) ∧ w'.cell? ⟨w.heap.size, 5, none⟩ = some (.string v.x) ∧ Below w.heap.size w w')
        (((try dsimp only); go_split_ands; (repeat' apply And.intro) <;> first | assumption | (apply kept; assumption; assumption) | (apply via; assumption; assumption; apply Below.size; assumption) | (simp; done) | (go_grown; done)))
        (first
          | (go_at_call 8; refine (HA.out _).mono ?_; rintro e w1 ⟨rfl, hb⟩)
          | (go_at_call 10; refine (HT.out _).mono ?_; rintro e w1 ⟨rfl, hb⟩)
          | (go_at_call 9; refine (HR.out _).mono ?_; rintro e w1 ⟨rfl, hb⟩)
          | (go_at_call 11; refine (HQ.out _).mono ?_; rintro e w1 ⟨rfl, hb⟩))
      go_split_ands
      go_wp2
      go_ret
      exact ⟨rfl, by go_grown⟩
  exact HH _ rfl
end Go.Proofs.Ytbeclajbpfglgaa
