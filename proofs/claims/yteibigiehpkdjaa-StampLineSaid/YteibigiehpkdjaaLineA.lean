/- StampLine: the first statement: three struct variables. -/
import Derived.Test.YteibigiehpkdjaaStamp
import Derived.Test.YteibigiehpkdjaaLets
namespace Go.Proofs.Yteibigiehpkdjaa
open Go.RowKit


/-- The three boxes of the arguments. -/
def Args3 (w : World) (a1 b1 c1 a2 b2 c2 a3 b3 c3 : Int) (wx : World) : Prop := At3 wx w.heap.size (a1, b1, c1) ∧ At3 wx (w.heap.size + 1) (a2, b2, c2) ∧ At3 wx (w.heap.size + 1 + 1) (a3, b3, c3) ∧ Below w.heap.size w wx
theorem Args3.below {w : World} {a1 b1 c1 a2 b2 c2 a3 b3 c3 : Int} {wx w' : World} (h : Args3 w a1 b1 c1 a2 b2 c2 a3 b3 c3 wx) (hb : Below wx.heap.size wx w') : Args3 w a1 b1 c1 a2 b2 c2 a3 b3 c3 w' :=
  ⟨h.1.below hb, h.2.1.below hb, h.2.2.1.below hb, h.2.2.2.trans (hb.mono h.2.2.2.size)⟩
theorem Args3.store {w : World} {a1 b1 c1 a2 b2 c2 a3 b3 c3 : Int} {wx : World} {b : Nat} {y : Int × Int × Int} (h : Args3 w a1 b1 c1 a2 b2 c2 a3 b3 c3 wx) (hb : w.heap.size + 3 ≤ b) : Args3 w a1 b1 c1 a2 b2 c2 a3 b3 c3 (store3 wx b y) :=
  ⟨h.1.store_other (by omega), h.2.1.store_other (by omega), h.2.2.1.store_other (by omega),
    ((h.2.2.2.setCell (p := ⟨b, 0, none⟩) (by show w.heap.size ≤ b; omega) _).setCell (p := ⟨b, 1, none⟩) (by show w.heap.size ≤ b; omega) _).setCell (p := ⟨b, 2, none⟩) (by show w.heap.size ≤ b; omega) _⟩

def Cut3 (w : World) (a1 b1 c1 a2 b2 c2 a3 b3 c3 : Int) (s7 s8 s9 : Value) (wx : World) : Prop :=
  ∃ p q r : Nat, s7 = .pointer (some ⟨p, 0, none⟩) ∧ s8 = .pointer (some ⟨q, 0, none⟩) ∧ s9 = .pointer (some ⟨r, 0, none⟩) ∧ At3 wx p (a1, b1, c1) ∧ At3 wx q (a2, b2, c2) ∧ At3 wx r (a3, b3, c3) ∧ Below w.heap.size w wx

end Go.Proofs.Yteibigiehpkdjaa
