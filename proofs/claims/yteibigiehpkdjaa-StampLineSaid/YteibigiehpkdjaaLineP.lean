/- StampLine is proved: for every three stamps the law returns true, and the arguments read as they did. -/
import Derived.Test.YteibigiehpkdjaaLine
import Derived.Test.YteibigiehpkdjaaArgs
namespace Go.Proofs.Yteibigiehpkdjaa
open Go.ChangeShapes Go.WideShapes Go.ChangeAt Go.RowKit Go.Joins

set_option maxRecDepth 100000 in
theorem line_lifted (os : Os) (started : os.Started) (H : Type) (enc : TypeId × Value → H) :
    ReturnsInHanded {} Try.checked os 4 .any (Rows.stampLineSpec.pre6 enc Try.prog Try.f4 Rows.stampLineRow.domain false) (Rows.stampLineSpec.post enc Try.prog Try.f4 false true false false) := by
  refine returnsInHanded_of_change (C := Try.checked) own started (by kernel_rfl) Try.func4
    (ChangeSpec.witness6 (enc := enc) (C := Try.checked) false ⟨#[], #[.agg #[.int .i64 0, .int .u32 0, .int .u32 0], .agg #[.int .i64 0, .int .u32 0, .int .u32 0], .agg #[.int .i64 0, .int .u32 0, .int .u32 0]], []⟩ 8 (by kernel_rfl) (by kernel_rfl) (by kernel_rfl) (by kernel_rfl)) ?_
  intro W base args ds gs before hval0 hW hcnd _
  have hval : ∀ (j : Nat) t v, Try.f4.params[j]? = some t → args[j]? = some v → Value.okWide Try.prog W .any base t v := hval0
  have hW' := hW
  obtain ⟨p, q, hA0, hV, rfl, hfz, hnd⟩ := hW
  have hA : DataW.TrodAll enc Try.prog W 0 (fun _ => true) true Try.f4.params.toList args.toList ds p := hA0
  rw [Try.params4] at hA hval
  obtain ⟨v0, v1, v2, d0, d1, d2, p0, p1, p2, rfl, rfl, rfl, h0, h1, h2⟩ := trodAll_three hA
  obtain ⟨rfl, rfl⟩ := trodVars_none hV
  obtain ⟨a1, b1, c1, rfl, rfl, _, ⟨q00, q01⟩, ⟨r00, r01⟩, _, s0⟩ := open_st (hval 0 _ v0 rfl rfl) h0
  obtain ⟨a2, b2, c2, rfl, rfl, _, ⟨q10, q11⟩, ⟨r10, r11⟩, _, s1⟩ := open_st (hval 1 _ v1 rfl rfl) h1
  obtain ⟨a3, b3, c3, rfl, rfl, _, ⟨q20, q21⟩, ⟨r20, r21⟩, _, s2⟩ := open_st (hval 2 _ v2 rfl rfl) h2
  clear hA0 hval0
  simp only [List.append_nil] at hW'
  refine (line_any a1 b1 c1 a2 b2 c2 a3 b3 c3 q00 q01 r00 r01 q10 q11 r10 r11 q20 q21 r20 r21 W).mono fun e W' ⟨he, hg⟩ => ?_
  subst he
  exact ⟨_, rfl, _, _, _, [], [], [], hW', trodAll_mk1 (shut_bool Try.underlying4 _), trodAll_mk3 (s0 _ _) (s1 _ _) (s2 _ _), rfl, hg.frame _, fun h => by cases h⟩

theorem line_holds : Rows.StampLineSaid :=
  OpenClaim.holds_of_wide 4 Try.f4 rfl rfl rfl rfl rfl rfl rfl ⟨rfl, rfl, rfl, rfl, rfl⟩ rfl rfl rfl rfl rfl (by kernel_rfl) Try.func4 (by kernel_rfl)
    (of_decide_eq_true (by kernel_rfl)) (by unfold Func.isWrapper; first | (rw [if_pos (by decide +kernel)]; kernel_rfl) | (rw [if_neg (by decide +kernel)]; exact ⟨rfl, rfl⟩))
    (fun os started H enc _ => line_lifted os started H enc)

end Go.Proofs.Yteibigiehpkdjaa
