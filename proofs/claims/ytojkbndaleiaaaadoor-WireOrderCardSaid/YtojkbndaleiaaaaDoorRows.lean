/-
  NARROWER THAN 'FOR EVERY INPUT', by the rows' own cells (each row's printed sentence says how): WireLays: laid · WireBack: laid · WireOrder: laid · WireStops: laid · WireNil: laid.
  DERIVED. THE GIVEN ROWS OF THIS SEAT. 5 by the template 'for every input the law returns true; each argument reads behind the call as it read before'; 0 by the template 'total and deterministic' (their statements: YtojkbndaleiaaaaDoorTotals.lean).
  GIVEN WITH THE SEED: the statements are not yours to turn. If you find one false, say at which input.
  Laid BY PROGRAM, IN A SANDBOX (cutbox-rows.mjs): the forced cells as the released guide's own fill.sh prints them over the translation 0ca375924fc6a99d… (all of the seat's roots in one cut). By AI agents, Wed Nov 11 2026. No macro, syntax, notation, axiom, sorry.
-/
import Derived.Test.YtojkbndaleiaaaaDoorChecked
import GoSem.Claim
import GoSem.ClaimJoined
import GoSem.ClaimMapViews
import Derived.JoinedTies
import Derived.KernelRfl
namespace Go.Proofs.YtojkbndaleiaaaaDoor
/- THE CELL 'sum', in the pinned program and in every row, IS THE sha256 OF THE DUMP (.gsa) THAT YtojkbndaleiaaaaDoorProg.lean LOADS. Nothing in Lean hashes anything: it is a label: what it is worth is what the hold of that sum in a sandbox is worth. -/
noncomputable def Tryd.pinned : Pinned := { name := "ytojkbndaleiaaaadoor", sum := "0ca375924fc6a99d73520e2792f5edc1e09276e27d09d43f184cb3c73c093bcc", checked := Tryd.checked }
namespace Rows
def none {H : Type} : Left H := { results := [], args := [] }

/- WHAT THE LISTED PACKAGE-LEVEL VARIABLES READ AS WHEN THE CALL BEGINS. Each datum BY PROGRAM (the guide's laid-datum.mjs) off the statement by which the dump's own 'gosem.cut.vars' lays the variable. In a bare row this is a premise. The card (YtojkbndaleiaaaaDoorCards.lean) ties it to the program's text. -/
def laid_slackwater_stamp_widths {H : Type} : DataW H := .agg [.lit (.int .i64 8), .lit (.int .i64 4), .lit (.int .i64 4)]

/-- 'slackwaterlaw03.WireLays': WHATEVER THE INPUT: true; the input reads as it did. -/
def wireLaysSpec : ChangeSpec := { name := "wireLays", fn := fun _ => fun
  | [d] => { results := [.lit (.bool true)], args := [d] }
  | _ => none }
def wireLaysRow : OpenClaim := { program := "ytojkbndaleiaaaadoor", sum := "0ca375924fc6a99d73520e2792f5edc1e09276e27d09d43f184cb3c73c093bcc", func := "slackwater/slackwaterlaw03.WireLays", spec := "wireLays", named := ["slackwater/stamp.widths"], apart := false, laid := [("slackwater/stamp.widths", laid_slackwater_stamp_widths)] }
def WireLaysSaid : Prop := wireLaysRow.holds Tryd.pinned (OpenSpec.ofChange wireLaysSpec)

/-- ITS FALSE NEIGHBOUR: 'it returns false'. Refute it at one input. -/
def wireLaysWrong : ChangeSpec := { name := "wireLays", fn := fun _ => fun
  | [d] => { results := [.lit (.bool false)], args := [d] }
  | _ => none }
def WireLaysWrongFalsely : Prop := wireLaysRow.holds Tryd.pinned (OpenSpec.ofChange wireLaysWrong)

/-- 'slackwaterlaw03.WireBack': WHATEVER THE INPUT: true; the input reads as it did. -/
def wireBackSpec : ChangeSpec := { name := "wireBack", fn := fun _ => fun
  | [d] => { results := [.lit (.bool true)], args := [d] }
  | _ => none }
def wireBackRow : OpenClaim := { program := "ytojkbndaleiaaaadoor", sum := "0ca375924fc6a99d73520e2792f5edc1e09276e27d09d43f184cb3c73c093bcc", func := "slackwater/slackwaterlaw03.WireBack", spec := "wireBack", named := ["slackwater/stamp.widths"], apart := false, laid := [("slackwater/stamp.widths", laid_slackwater_stamp_widths)] }
def WireBackSaid : Prop := wireBackRow.holds Tryd.pinned (OpenSpec.ofChange wireBackSpec)

/-- ITS FALSE NEIGHBOUR: 'it returns false'. Refute it at one input. -/
def wireBackWrong : ChangeSpec := { name := "wireBack", fn := fun _ => fun
  | [d] => { results := [.lit (.bool false)], args := [d] }
  | _ => none }
def WireBackWrongFalsely : Prop := wireBackRow.holds Tryd.pinned (OpenSpec.ofChange wireBackWrong)

/-- 'slackwaterlaw03.WireOrder': WHATEVER THE INPUT: true; the input reads as it did. -/
def wireOrderSpec : ChangeSpec := { name := "wireOrder", fn := fun _ => fun
  | [d1, d2] => { results := [.lit (.bool true)], args := [d1, d2] }
  | _ => none }
def wireOrderRow : OpenClaim := { program := "ytojkbndaleiaaaadoor", sum := "0ca375924fc6a99d73520e2792f5edc1e09276e27d09d43f184cb3c73c093bcc", func := "slackwater/slackwaterlaw03.WireOrder", spec := "wireOrder", named := ["slackwater/stamp.widths"], apart := false, laid := [("slackwater/stamp.widths", laid_slackwater_stamp_widths)] }
def WireOrderSaid : Prop := wireOrderRow.holds Tryd.pinned (OpenSpec.ofChange wireOrderSpec)

/-- ITS FALSE NEIGHBOUR: 'it returns false'. Refute it at one input. -/
def wireOrderWrong : ChangeSpec := { name := "wireOrder", fn := fun _ => fun
  | [d1, d2] => { results := [.lit (.bool false)], args := [d1, d2] }
  | _ => none }
def WireOrderWrongFalsely : Prop := wireOrderRow.holds Tryd.pinned (OpenSpec.ofChange wireOrderWrong)

/-- 'slackwaterlaw03.WireStops': WHATEVER THE INPUT: true; the input reads as it did. -/
def wireStopsSpec : ChangeSpec := { name := "wireStops", fn := fun _ => fun
  | [d1, d2, d3] => { results := [.lit (.bool true)], args := [d1, d2, d3] }
  | _ => none }
def wireStopsRow : OpenClaim := { program := "ytojkbndaleiaaaadoor", sum := "0ca375924fc6a99d73520e2792f5edc1e09276e27d09d43f184cb3c73c093bcc", func := "slackwater/slackwaterlaw03.WireStops", spec := "wireStops", named := ["slackwater/stamp.widths"], apart := false, laid := [("slackwater/stamp.widths", laid_slackwater_stamp_widths)] }
def WireStopsSaid : Prop := wireStopsRow.holds Tryd.pinned (OpenSpec.ofChange wireStopsSpec)

/-- ITS FALSE NEIGHBOUR: 'it returns false'. Refute it at one input. -/
def wireStopsWrong : ChangeSpec := { name := "wireStops", fn := fun _ => fun
  | [d1, d2, d3] => { results := [.lit (.bool false)], args := [d1, d2, d3] }
  | _ => none }
def WireStopsWrongFalsely : Prop := wireStopsRow.holds Tryd.pinned (OpenSpec.ofChange wireStopsWrong)

/-- 'slackwaterlaw03.WireNil': WHATEVER THE INPUT: true; the input reads as it did. -/
def wireNilSpec : ChangeSpec := { name := "wireNil", fn := fun _ => fun
  | [d1, d2, d3] => { results := [.lit (.bool true)], args := [d1, d2, d3] }
  | _ => none }
def wireNilRow : OpenClaim := { program := "ytojkbndaleiaaaadoor", sum := "0ca375924fc6a99d73520e2792f5edc1e09276e27d09d43f184cb3c73c093bcc", func := "slackwater/slackwaterlaw03.WireNil", spec := "wireNil", named := ["slackwater/stamp.widths"], apart := false, laid := [("slackwater/stamp.widths", laid_slackwater_stamp_widths)] }
def WireNilSaid : Prop := wireNilRow.holds Tryd.pinned (OpenSpec.ofChange wireNilSpec)

/-- ITS FALSE NEIGHBOUR: 'it returns false'. Refute it at one input. -/
def wireNilWrong : ChangeSpec := { name := "wireNil", fn := fun _ => fun
  | [d1, d2, d3] => { results := [.lit (.bool false)], args := [d1, d2, d3] }
  | _ => none }
def WireNilWrongFalsely : Prop := wireNilRow.holds Tryd.pinned (OpenSpec.ofChange wireNilWrong)

/- THE SECOND FORM. 'bulk': how many values and letters a reading holds, each counted each time it is reached (what is shared counts as often as it is met; a slice's spare places count too). A statement '..UptoSaid' is the law's where the arguments, and the package variables that the reading takes, are together of bulk at most 1048576: NARROWER than '..Said'. Prove '..Said' where nothing that the law and all that it calls make is longer than what came in: it says more and counts as full. Else prove '..UptoSaid'. A law counts once. -/
mutual
def uptoBulk {H : Type} : DataW H → Nat
  | .lit (.string bytes) => bytes.length + 1
  | .lit _ => 1
  | .nil => 1
  | .ptr d => uptoBulk d + 1
  | .slice elems spare => uptoBulkAll elems + uptoBulkAll spare + 1
  | .agg parts => uptoBulkAll parts + 1
  | .iface _ d => uptoBulk d + 1
  | .map entries => uptoBulkEntries entries + 1
  | .held _ => 1
def uptoBulkAll {H : Type} : List (DataW H) → Nat
  | [] => 0
  | d :: r => uptoBulk d + uptoBulkAll r
def uptoBulkEntries {H : Type} : List (Lit × DataW H) → Nat
  | [] => 0
  | x :: r => uptoBulkEntry x + uptoBulkEntries r
def uptoBulkEntry {H : Type} : Lit × DataW H → Nat
  | (.string bytes, d) => bytes.length + uptoBulk d + 1
  | (_, d) => uptoBulk d + 1
 end
def uptoSmall : (H : Type) → List (DataW H) → Bool := fun _ ds => decide (uptoBulkAll ds ≤ 1048576)
def OpenSpec.upto (s : _root_.Go.ChangeSpec) : _root_.Go.OpenSpec := { _root_.Go.OpenSpec.ofChange s with cond := some uptoSmall }

/-- 'slackwaterlaw03.WireLays', WHERE WHAT IT READS IS OF BULK AT MOST 1048576: true; the input reads as it did. -/
def wireLaysUptoRow : OpenClaim := { program := "ytojkbndaleiaaaadoor", sum := "0ca375924fc6a99d73520e2792f5edc1e09276e27d09d43f184cb3c73c093bcc", func := "slackwater/slackwaterlaw03.WireLays", spec := "wireLays", named := ["slackwater/stamp.widths"], apart := false, laid := [("slackwater/stamp.widths", laid_slackwater_stamp_widths)], narrowed := true }
def WireLaysUptoSaid : Prop := wireLaysUptoRow.holds Tryd.pinned (OpenSpec.upto wireLaysSpec)

/-- 'slackwaterlaw03.WireBack', WHERE WHAT IT READS IS OF BULK AT MOST 1048576: true; the input reads as it did. -/
def wireBackUptoRow : OpenClaim := { program := "ytojkbndaleiaaaadoor", sum := "0ca375924fc6a99d73520e2792f5edc1e09276e27d09d43f184cb3c73c093bcc", func := "slackwater/slackwaterlaw03.WireBack", spec := "wireBack", named := ["slackwater/stamp.widths"], apart := false, laid := [("slackwater/stamp.widths", laid_slackwater_stamp_widths)], narrowed := true }
def WireBackUptoSaid : Prop := wireBackUptoRow.holds Tryd.pinned (OpenSpec.upto wireBackSpec)

/-- 'slackwaterlaw03.WireOrder', WHERE WHAT IT READS IS OF BULK AT MOST 1048576: true; the input reads as it did. -/
def wireOrderUptoRow : OpenClaim := { program := "ytojkbndaleiaaaadoor", sum := "0ca375924fc6a99d73520e2792f5edc1e09276e27d09d43f184cb3c73c093bcc", func := "slackwater/slackwaterlaw03.WireOrder", spec := "wireOrder", named := ["slackwater/stamp.widths"], apart := false, laid := [("slackwater/stamp.widths", laid_slackwater_stamp_widths)], narrowed := true }
def WireOrderUptoSaid : Prop := wireOrderUptoRow.holds Tryd.pinned (OpenSpec.upto wireOrderSpec)

/-- 'slackwaterlaw03.WireStops', WHERE WHAT IT READS IS OF BULK AT MOST 1048576: true; the input reads as it did. -/
def wireStopsUptoRow : OpenClaim := { program := "ytojkbndaleiaaaadoor", sum := "0ca375924fc6a99d73520e2792f5edc1e09276e27d09d43f184cb3c73c093bcc", func := "slackwater/slackwaterlaw03.WireStops", spec := "wireStops", named := ["slackwater/stamp.widths"], apart := false, laid := [("slackwater/stamp.widths", laid_slackwater_stamp_widths)], narrowed := true }
def WireStopsUptoSaid : Prop := wireStopsUptoRow.holds Tryd.pinned (OpenSpec.upto wireStopsSpec)

/-- 'slackwaterlaw03.WireNil', WHERE WHAT IT READS IS OF BULK AT MOST 1048576: true; the input reads as it did. -/
def wireNilUptoRow : OpenClaim := { program := "ytojkbndaleiaaaadoor", sum := "0ca375924fc6a99d73520e2792f5edc1e09276e27d09d43f184cb3c73c093bcc", func := "slackwater/slackwaterlaw03.WireNil", spec := "wireNil", named := ["slackwater/stamp.widths"], apart := false, laid := [("slackwater/stamp.widths", laid_slackwater_stamp_widths)], narrowed := true }
def WireNilUptoSaid : Prop := wireNilUptoRow.holds Tryd.pinned (OpenSpec.upto wireNilSpec)

end Rows
end Go.Proofs.YtojkbndaleiaaaaDoor
