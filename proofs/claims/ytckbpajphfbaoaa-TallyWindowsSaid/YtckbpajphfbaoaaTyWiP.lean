/- TallyWindows is proved: whatever the op, the samples and the span, the law returns true, and what came in reads as it did. -/
import Derived.Test.YtckbpajphfbaoaaRow0
import Derived.Test.YtckbpajphfbaoaaTyWi
import Derived.Test.YtckbpajphfbaoaaTyO
namespace Go.Proofs.Ytckbpajphfbaoaa
open Go.ChangeShapes Go.WideShapes Go.ChangeAt Go.RowKit

set_option maxRecDepth 100000 in
theorem tywi_lifted (os : Os) (started : os.Started) (H : Type) (enc : TypeId × Value → H) :
    ReturnsInHanded {} Try.checked os 4 .any (Rows.tallyWindowsSpec.pre6 enc Try.prog Try.f4 Rows.tallyWindowsRow.domain false) (Rows.tallyWindowsSpec.post enc Try.prog Try.f4 false true false false) := by
  refine returnsInHanded_of_change_sized (C := Try.checked) own started (by kernel_rfl) Try.func4
    (ChangeSpec.witness6 (enc := enc) (C := Try.checked) false ⟨#[], #[.int .i64 0, .slice none 0 0, .int .i64 0, .int .i64 0, .int .i64 0], []⟩ 8 (by kernel_rfl) (by kernel_rfl) (by kernel_rfl) (by kernel_rfl)) ?_
  intro W base args ds gs before hval0 hW hcnd hsz0 _
  have hval : ∀ (j : Nat) t v, Try.f4.params[j]? = some t → args[j]? = some v → Value.okWide Try.prog W .any base t v := hval0
  have hW' := hW
  obtain ⟨p, q, hA0, hV, rfl, hfz, hnd⟩ := hW
  have hA : DataW.TrodAll enc Try.prog W 0 (fun _ => true) true Try.f4.params.toList args.toList ds p := hA0
  rw [Try.params4] at hA hval hsz0
  obtain ⟨v0, vs0, d0, ds0, p0, q0, hargs, hds, hps, h0, r0⟩ := trodAll_cons hA
  obtain ⟨v1, vs1, d1, ds1, p1, q1, ha1, hd1, hp1, h1, r1⟩ := trodAll_cons r0
  subst ha1 hd1 hp1
  obtain ⟨v2, vs2, d2, ds2, p2, q2, ha2, hd2, hp2, h2, r2⟩ := trodAll_cons r1
  subst ha2 hd2 hp2
  obtain ⟨v3, vs3, d3, ds3, p3, q3, ha3, hd3, hp3, h3, r3⟩ := trodAll_cons r2
  subst ha3 hd3 hp3
  obtain ⟨v4, vs4, d4, ds4, p4, q4, ha4, hd4, hp4, h4, r4⟩ := trodAll_cons r3
  subst ha4 hd4 hp4
  obtain ⟨e1, e2, e3⟩ := trodAll_nil r4
  subst e1 e2 e3
  subst hds hps
  obtain rfl : args = #[v0, v1, v2, v3, v4] := by cases args; simp_all
  obtain ⟨rfl, rfl⟩ := trodVars_none hV
  obtain ⟨o, rfl, rfl, rfl, ow⟩ := open_int Try.underlying3 (hval 0 _ v0 rfl rfl) h0
  have or : -9223372036854775808 ≤ o ∧ o ≤ 9223372036854775807 := by simpa [Lit.wf, IntKind.min, IntKind.max, IntKind.signed, IntKind.bits] using ow
  obtain ⟨lA, lc, l, rfl, lh, lo, lb, ld⟩ := open_smps (hval 1 _ v1 rfl rfl) h1
  obtain ⟨a, rfl, rfl, rfl, aw⟩ := open_int Try.underlying2 (hval 2 _ v2 rfl rfl) h2
  have ar : -9223372036854775808 ≤ a ∧ a ≤ 9223372036854775807 := by simpa [Lit.wf, IntKind.min, IntKind.max, IntKind.signed, IntKind.bits] using aw
  obtain ⟨b, rfl, rfl, rfl, bw⟩ := open_int Try.underlying2 (hval 3 _ v3 rfl rfl) h3
  have br : -9223372036854775808 ≤ b ∧ b ≤ 9223372036854775807 := by simpa [Lit.wf, IntKind.min, IntKind.max, IntKind.signed, IntKind.bits] using bw
  obtain ⟨c, rfl, rfl, rfl, cw⟩ := open_int Try.underlying2 (hval 4 _ v4 rfl rfl) h4
  have cr : -9223372036854775808 ≤ c ∧ c ≤ 9223372036854775807 := by simpa [Lit.wf, IntKind.min, IntKind.max, IntKind.signed, IntKind.bits] using cw
  have lw : l.length * 16 ≤ 140737488351232 := by
    rcases ld with rfl | ⟨es, sp, rfl, he⟩
    · simp
    · have h2 : (DataW.weightsEach Try.prog (3 :: 22 :: [2, 2, 2]) (.lit (.int .i64 o) :: .slice es sp :: [_, _, _])).all (· ≤ reachBytes) = true := hsz0
      have := smp_sized1 h2
      omega
  refine (tywindows_any o lA lc l a b c W lh lo (by omega) or ar br cr).mono fun e W' ⟨he, hg⟩ => ?_
  subst he
  exact ⟨_, rfl, law_post (s := Rows.tallyWindowsSpec) hW' rfl rfl (by kernel_rfl) ⟨rfl, rfl, rfl⟩ hg⟩

theorem tywi_holds : Rows.TallyWindowsSaid :=
  OpenClaim.holds_of_wide 4 Try.f4 rfl rfl rfl rfl rfl rfl rfl ⟨rfl, rfl, rfl, rfl, rfl⟩ rfl rfl rfl rfl rfl (by kernel_rfl) Try.func4 (by kernel_rfl)
    (of_decide_eq_true (by kernel_rfl)) (by unfold Func.isWrapper; first | (rw [if_pos (by decide +kernel)]; kernel_rfl) | (rw [if_neg (by decide +kernel)]; exact ⟨rfl, rfl⟩))
    (fun os started H enc _ => tywi_lifted os started H enc)

end Go.Proofs.Ytckbpajphfbaoaa
