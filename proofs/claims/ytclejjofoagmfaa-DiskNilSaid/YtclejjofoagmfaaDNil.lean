/- The law DiskNil: its walk. -/
import Derived.Test.YtclejjofoagmfaaDkW
namespace Go.Proofs.Ytclejjofoagmfaa
open Go.RowKit Go.Maps Go.BigFrame

set_option maxRecDepth 100000 in
set_option maxHeartbeats 3200000 in
theorem dnil_any (n : Int) (A1 : Option Addr) (m1 c1 : Nat) (A2 : Option Addr) (m2 c2 : Nat) (w : World) : Calls Try.prog 6 #[.int .i64 n, .slice A1 m1 c1, .slice A2 m2 c2] w (Ok0 w) := by
  have HL := Lib.hid (fun w => dlook_nil w n)
  go_enter Try.func6, Try.ntmps6
  go_wp2_with (first
    | (go_at_call 20; refine (read_err (.pointer none) 2 (by decide) (HL.out _)).mono ?_; rintro e w' ⟨rfl, rfl⟩)
    | (go_at_call 22; refine segs_nil.mono ?_; rintro e w' ⟨rfl, rfl⟩)
    | (go_at_call 11; refine (dawake_any _).mono ?_; rintro e w1 ⟨rfl, b1⟩)
    | (go_at_call 16; refine dapp_nil.mono ?_; rintro e w' ⟨rfl, rfl⟩)
    | (go_at_call 17; refine (sync_err (.pointer none) 2 (by decide) (HL.out _)).mono ?_; rintro e w' ⟨rfl, rfl⟩)
    | (go_at_call 21; refine (drop_err (.pointer none) 2 (by decide) (HL.out _)).mono ?_; rintro e w' ⟨rfl, rfl⟩)
    | (go_at_call 18; refine fuse_nil.mono ?_; rintro e w' ⟨rfl, rfl⟩)
    | (go_at_call 19; refine (crash_nil _ _ _).mono ?_; rintro e w' ⟨rfl, rfl⟩)
    | (go_at_call 23; refine used_nil.mono ?_; rintro e w' ⟨rfl, rfl⟩)
    | (go_at_call 24; refine down_nil.mono ?_; rintro e w' ⟨rfl, rfl⟩)
    | fail)
  go_ret
  exact ⟨rfl, b1⟩
end Go.Proofs.Ytclejjofoagmfaa
