/- bits.Len64, by the shelf's law; and how many bytes a number has. -/
import Derived.Test.YtignhpobeemjhaaDoorRows
import Derived.Test.YtignhpobeemjhaaDoorBase
import Derived.Shelf.Lay
import Derived.Shelf.Small.Bits
namespace Go.Proofs.YtignhpobeemjhaaDoor
open Go.RowKit
open Go.Shelf
shelf_lay Lays.n129 Nm 129 at Tryd as lays129

theorem len64_any (x : Nat) (w : World) (h1 : x ≤ 18446744073709551615) :
    Calls Tryd.prog 72 #[.int .u64 (x : Int)] w fun e w' => e = .returned (.int .i64 (Lib.bitLen x)) ∧ w = w' := (Any.bits_Len64 lays129 x w (by omega) (by omega)).mono fun _ _ h => ⟨h.1, h.2.symm⟩
end Go.Proofs.YtignhpobeemjhaaDoor
