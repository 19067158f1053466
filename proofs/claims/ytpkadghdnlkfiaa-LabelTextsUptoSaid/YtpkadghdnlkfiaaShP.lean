/- The shelf's contract of strings.HasPrefix, laid at this program. -/
import Derived.Shelf.Strings.Prefix
import Derived.Test.YtpkadghdnlkfiaaProg
namespace Go.Proofs.Ytpkadghdnlkfiaa
open Go.Shelf Go.RowKit
def sh_lays99_ren : Go.Shelf.Ren := ⟨fun | 99 => 52 | 206 => 68 | n => n, fun | 9 => 9 | 4 => 4 | 3 => 3 | n => n, fun | n => n⟩
theorem sh_lays99 : Go.Proofs.Lays.n99 Try.prog sh_lays99_ren := {
  mixed := by kernel_rfl
  f99 := Try.func52.trans (congrArg some (by kernel_rfl))
  f206 := Try.func68.trans (congrArg some (by kernel_rfl))
  t3 := Try.underlying3
  a3 := Try.isAgg3
  z3 := Try.sizeOf3
  v3 := Try.zeroValue3
  t4 := Try.underlying4
  a4 := Try.isAgg4
  z4 := Try.sizeOf4
  v4 := Try.zeroValue4
  t9 := Try.underlying9
  a9 := Try.isAgg9
  z9 := Try.sizeOf9
  v9 := Try.zeroValue9 }
theorem hasPrefix_any (s p : ByteArray) (w : World) : Calls Try.prog 52 #[.string s, .string p] w fun e w' => e = .returned (.bool (Lib.hasPrefix s.data.toList p.data.toList)) ∧ w = w' :=
  (Any.strings_HasPrefix sh_lays99 s p w).mono fun _ _ h => ⟨h.1, h.2.symm⟩
end Go.Proofs.Ytpkadghdnlkfiaa
