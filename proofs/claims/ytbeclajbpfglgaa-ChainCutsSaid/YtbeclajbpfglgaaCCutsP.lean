/- ChainCuts is proved: whatever the versions and the stamps, the law returns true, and what came in reads as it did. -/
import Derived.Test.YtbeclajbpfglgaaRow0
import Derived.Test.YtbeclajbpfglgaaCCuts
import Derived.Test.YtbeclajbpfglgaaChO
namespace Go.Proofs.Ytbeclajbpfglgaa
open Go.ChangeShapes Go.WideShapes Go.ChangeAt Go.RowKit

set_option maxRecDepth 100000 in
theorem ccuts_lifted (os : Os) (started : os.Started) (H : Type) (enc : TypeId × Value → H) :
    ReturnsInHanded {} Try.checked os 6 .any (Rows.chainCutsSpec.pre6 enc Try.prog Try.f6 Rows.chainCutsRow.domain false) (Rows.chainCutsSpec.post enc Try.prog Try.f6 false true false false) := by
  refine returnsInHanded_of_change (C := Try.checked) own started (by kernel_rfl) Try.func6
    (ChangeSpec.witness6 (enc := enc) (C := Try.checked) false ⟨#[], #[.slice none 0 0, .slice none 0 0, .agg #[.int .i64 0, .int .u32 0, .int .u32 0], .agg #[.int .i64 0, .int .u32 0, .int .u32 0]], []⟩ 8 (by kernel_rfl) (by kernel_rfl) (by kernel_rfl) (by kernel_rfl)) ?_
  intro W base args ds gs before hval0 hW hcnd _
  have hval : ∀ (j : Nat) t v, Try.f6.params[j]? = some t → args[j]? = some v → Value.okWide Try.prog W .any base t v := hval0
  have hW' := hW
  obtain ⟨p, q, hA0, hV, rfl, hfz, hnd⟩ := hW
  have hA : DataW.TrodAll enc Try.prog W 0 (fun _ => true) true Try.f6.params.toList args.toList ds p := hA0
  rw [Try.params6] at hA hval
  obtain ⟨v0, vs0, d0, ds0, p0, q0, hargs, hds, hps, h0, r0⟩ := trodAll_cons hA
  obtain ⟨v1, vs1, d1, ds1, p1, q1, ha1, hd1, hp1, h1, r1⟩ := trodAll_cons r0
  subst ha1 hd1 hp1
  obtain ⟨v2, vs2, d2, ds2, p2, q2, ha2, hd2, hp2, h2, r2⟩ := trodAll_cons r1
  subst ha2 hd2 hp2
  obtain ⟨v3, vs3, d3, ds3, p3, q3, ha3, hd3, hp3, h3, r3⟩ := trodAll_cons r2
  subst ha3 hd3 hp3
  obtain ⟨e1, e2, e3⟩ := trodAll_nil r3
  subst e1 e2 e3
  subst hds hps
  obtain rfl : args = #[v0, v1, v2, v3] := by cases args; simp_all
  obtain ⟨rfl, rfl⟩ := trodVars_none hV
  obtain ⟨lA, lc, l, rfl, lh, lo⟩ := open_vers (hval 0 _ v0 rfl rfl) h0
  obtain ⟨mA, mc, m, rfl, mh, mo⟩ := open_vers (hval 1 _ v1 rfl rfl) h1
  obtain ⟨ta, tb, tc, rfl, th, tk⟩ := open_sta (hval 2 _ v2 rfl rfl) h2
  obtain ⟨sa, sb, sc, rfl, sh, sk⟩ := open_sta (hval 3 _ v3 rfl rfl) h3
  refine (ccuts_any lA lc l mA mc m ta tb tc sa sb sc W lh lo mh mo th tk sh sk).mono fun e W' ⟨he, hg⟩ => ?_
  subst he
  exact ⟨_, rfl, law_post (s := Rows.chainCutsSpec) hW' rfl rfl (by kernel_rfl) ⟨rfl, rfl, rfl⟩ hg⟩

theorem ccuts_holds : Rows.ChainCutsSaid :=
  OpenClaim.holds_of_wide 6 Try.f6 rfl rfl rfl rfl rfl rfl rfl ⟨rfl, rfl, rfl, rfl, rfl⟩ rfl rfl rfl rfl rfl (by kernel_rfl) Try.func6 (by kernel_rfl)
    (of_decide_eq_true (by kernel_rfl)) (by unfold Func.isWrapper; first | (rw [if_pos (by decide +kernel)]; kernel_rfl) | (rw [if_neg (by decide +kernel)]; exact ⟨rfl, rfl⟩))
    (fun os started H enc _ => ccuts_lifted os started H enc)

end Go.Proofs.Ytbeclajbpfglgaa
