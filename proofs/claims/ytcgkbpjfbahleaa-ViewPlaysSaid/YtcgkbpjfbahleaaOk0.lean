/- The post of a law: true, and only new memory was made. -/
import Derived.Test.YtcgkbpjfbahleaaBase
namespace Go.Proofs.Ytcgkbpjfbahleaa
open Go.RowKit

def Ok0 (w : World) (e : Ending) (w' : World) : Prop := e = .returned (.bool true) ∧ Below w.heap.size w w'
end Go.Proofs.Ytcgkbpjfbahleaa
