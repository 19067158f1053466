/- A call's own bytes; what is known of an operation's value. -/
import Derived.Test.YtpckbbjlihhpdaaByW
namespace Go.Proofs.Ytpckbbjlihhpdaa
open Go.RowKit

/-- Bytes in new memory. -/
def NewB (w : World) (l : List UInt8) (e : Ending) (w' : World) : Prop := ∃ A c, e = .returned (.slice A l.length c) ∧ Ob w' w.heap.size (.slice A l.length c) l ∧ Below w.heap.size w w'
/-- A value as it is, or a slice of the call's own that holds these bytes. -/
def Hb (w : World) : Value ⊕ List UInt8 → Value → World → Prop
  | .inl x, v, _ => v = x
  | .inr l, v, wx => ∃ A c, v = .slice A l.length c ∧ Ob wx w.heap.size (.slice A l.length c) l
theorem Hb.mono {w : World} {p : Value ⊕ List UInt8} {v : Value} {wx w1 : World} (h : Hb w p v wx) (hb : Below wx.heap.size wx w1) : Hb w p v w1 := by
  cases p with
  | inl x => exact h
  | inr l => obtain ⟨A, c, e, ho⟩ := h; exact ⟨A, c, e, ho.below hb⟩
end Go.Proofs.Ytpckbbjlihhpdaa
