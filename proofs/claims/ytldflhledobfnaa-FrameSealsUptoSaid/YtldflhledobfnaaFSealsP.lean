/- FrameSeals is proved in its second form: whatever the kind and the bytes, together at most 1048576 values, the law returns true, and the arguments read as they did. -/
import Derived.Test.YtldflhledobfnaaRow
import Derived.Test.YtldflhledobfnaaFSeals
namespace Go.Proofs.Ytldflhledobfnaa
open Go.ChangeShapes Go.WideShapes Go.ChangeAt Go.RowKit

set_option maxRecDepth 100000 in
theorem seals_lifted (os : Os) (started : os.Started) (H : Type) (enc : TypeId × Value → H) (F : Stop.Interp) :
    ReturnsInHanded {} Try.checked os 4 .any ((Rows.OpenSpec.upto Rows.frameSealsSpec).pre6 enc Try.prog Try.f4 Rows.frameSealsUptoRow.domain false) (((Rows.OpenSpec.upto Rows.frameSealsSpec).at F).post enc Try.prog Try.f4 false true false false) := by
  refine returnsInHanded_of_cond (C := Try.checked) (s := Rows.OpenSpec.upto Rows.frameSealsSpec) (k := Rows.uptoSmall) rfl own started (by kernel_rfl) Try.func4
    (OpenSpec.witness (enc := enc) (C := Try.checked) (s := Rows.OpenSpec.upto Rows.frameSealsSpec) (k := Rows.uptoSmall) rfl false ⟨#[], #[.int .u8 0, .slice none 0 0, .slice none 0 0], []⟩ 8 (by kernel_rfl) (by kernel_rfl) (by kernel_rfl)
      (x := ([.lit (.int .u8 0), .nil, .nil], [], [])) (by kernel_rfl) rfl (by kernel_rfl)) ?_
  intro W base args ds gs before hval0 hW _ hk0 _
  have hval : ∀ (j : Nat) t v, Try.f4.params[j]? = some t → args[j]? = some v → Value.okWide Try.prog W .any base t v := hval0
  have hW' := hW
  obtain ⟨p, q, hA0, hV, rfl, hfz, hnd⟩ := hW
  have hA : DataW.TrodAll enc Try.prog W 0 (fun _ => true) true Try.f4.params.toList args.toList ds p := hA0
  rw [Try.params4] at hA hval
  obtain ⟨v0, vs0, d0, ds0, p0, q0, hargs, hds, hps, h0, r0⟩ := trodAll_cons hA
  obtain ⟨v1, vs1, d1, ds1, p1, q1, ha1, hd1, hp1, h1, r1⟩ := trodAll_cons r0
  subst ha1 hd1 hp1
  obtain ⟨v2, vs2, d2, ds2, p2, q2, ha2, hd2, hp2, h2, r2⟩ := trodAll_cons r1
  subst ha2 hd2 hp2
  obtain ⟨e1, e2, e3⟩ := trodAll_nil r2
  subst e1 e2 e3
  subst hds hps
  obtain rfl : args = #[v0, v1, v2] := by cases args; simp_all
  obtain ⟨rfl, rfl⟩ := trodVars_none hV
  obtain ⟨k, rfl, rfl, rfl, kw⟩ := open_int Try.underlying5 (hval 0 _ v0 rfl rfl) h0
  have kr : 0 ≤ k ∧ k ≤ 255 := by simpa [Lit.wf, IntKind.min, IntKind.max, IntKind.signed, IntKind.bits] using kw
  obtain ⟨pA, pc, p, rfl, ph, pb, pd⟩ := open_bs (hval 1 _ v1 rfl rfl) h1
  obtain ⟨qA, qc, q, rfl, qh, qb, qd⟩ := open_bs (hval 2 _ v2 rfl rfl) h2
  have hk : Rows.uptoBulkAll (H := H) _ ≤ 1048576 := of_decide_eq_true hk0
  simp only [Rows.uptoBulkAll, List.append_nil] at hk
  obtain ⟨kn, rfl⟩ := Int.eq_ofNat_of_zero_le kr.1
  have hkk : ((kn : Nat) : Int) = ((UInt8.ofNat kn).toNat : Int) := by simp; omega
  refine ((show Calls Try.prog 4 _ W (fun e w' => e = .returned (.bool true) ∧ Below W.heap.size W w') from by
    rw [hkk]
    rcases Nat.lt_or_ge 1048576 p.length with h | h
    · exact seals_long (UInt8.ofNat kn) W.heap.size pA pc p _ W ph h
    · exact seals_any (UInt8.ofNat kn) W.heap.size pA pc p qA qc q W ph qh (Nat.le_refl _) h (by omega))).mono fun e W' ⟨he, hg⟩ => ?_
  subst he
  exact ⟨_, rfl, law_post (s := Rows.frameSealsSpec) hW' rfl rfl (by kernel_rfl) ⟨rfl, rfl, rfl⟩ hg⟩

theorem seals_holds : Rows.FrameSealsUptoSaid :=
  OpenClaim.holds_of_cond 4 Try.f4 rfl rfl rfl rfl rfl rfl rfl ⟨rfl, rfl, rfl, rfl, rfl⟩ rfl rfl rfl rfl rfl (by kernel_rfl) Try.func4 (by kernel_rfl)
    (of_decide_eq_true (by kernel_rfl)) (by unfold Func.isWrapper; first | (rw [if_pos (by decide +kernel)]; kernel_rfl) | (rw [if_neg (by decide +kernel)]; exact ⟨rfl, rfl⟩))
    (fun os started H enc _ F => seals_lifted os started H enc F)

end Go.Proofs.Ytldflhledobfnaa
