/- FrameTurns is proved: whatever the pieces, the place and the turn, the law returns true, and the arguments read as they did. -/
import Derived.Test.YtldflhledobfnabArgP
import Derived.Test.YtldflhledobfnabFTurns
namespace Go.Proofs.Ytldflhledobfnab
open Go.ChangeShapes Go.WideShapes Go.ChangeAt Go.RowKit

set_option maxRecDepth 100000 in
theorem turns_lifted (os : Os) (started : os.Started) (H : Type) (enc : TypeId × Value → H) :
    ReturnsInHanded {} Try.checked os 3 .any (Rows.frameTurnsSpec.pre6 enc Try.prog Try.f3 Rows.frameTurnsRow.domain false) (Rows.frameTurnsSpec.post enc Try.prog Try.f3 false true false false) := by
  refine returnsInHanded_of_change (C := Try.checked) own started (by kernel_rfl) Try.func3
    (ChangeSpec.witness6 (enc := enc) (C := Try.checked) false ⟨#[], #[.slice none 0 0, .int .i64 0, .int .u8 0], []⟩ 8 (by kernel_rfl) (by kernel_rfl) (by kernel_rfl) (by kernel_rfl)) ?_
  intro W base args ds gs before hval0 hW hcnd _
  have hval : ∀ (j : Nat) t v, Try.f3.params[j]? = some t → args[j]? = some v → Value.okWide Try.prog W .any base t v := hval0
  have hW' := hW
  obtain ⟨p, q, hA0, hV, rfl, hfz, hnd⟩ := hW
  have hA : DataW.TrodAll enc Try.prog W 0 (fun _ => true) true Try.f3.params.toList args.toList ds p := hA0
  rw [Try.params3] at hA hval
  obtain ⟨v0, vs0, d0, ds0, p0, q0, hargs, hds, hps, h0, r0⟩ := trodAll_cons hA
  obtain ⟨v1, vs1, d1, ds1, p1, q1, ha1, hd1, hp1, h1, r1⟩ := trodAll_cons r0
  subst ha1 hd1 hp1
  obtain ⟨v2, vs2, d2, ds2, p2, q2, ha2, hd2, hp2, h2, r2⟩ := trodAll_cons r1
  subst ha2 hd2 hp2
  obtain ⟨e1, e2, e3⟩ := trodAll_nil r2
  subst e1 e2 e3
  subst hds hps
  obtain rfl : args = #[v0, v1, v2] := by cases args; simp_all
  obtain ⟨rfl, rfl⟩ := trodVars_none hV
  obtain ⟨lA, lc, l, rfl, lh, lb⟩ := open_ps (hval 0 _ v0 rfl rfl) h0
  obtain ⟨ai, rfl, rfl, rfl, aiw⟩ := open_int Try.underlying3 (hval 1 _ v1 rfl rfl) h1
  have air : -9223372036854775808 ≤ ai ∧ ai ≤ 9223372036854775807 := by simpa [Lit.wf, IntKind.min, IntKind.max, IntKind.signed, IntKind.bits] using aiw
  obtain ⟨t, rfl, rfl, rfl, tw⟩ := open_int Try.underlying5 (hval 2 _ v2 rfl rfl) h2
  have tr : 0 ≤ t ∧ t ≤ 255 := by simpa [Lit.wf, IntKind.min, IntKind.max, IntKind.signed, IntKind.bits] using tw
  obtain ⟨tn, rfl⟩ := Int.eq_ofNat_of_zero_le tr.1
  have htt : ((tn : Nat) : Int) = ((UInt8.ofNat tn).toNat : Int) := by simp; omega
  refine ((show Calls Try.prog 3 _ W (fun e w' => e = .returned (.bool true) ∧ Below W.heap.size W w') from by
    have hlm := Nat.le_trans lh.le lh.max
    by_cases h0 : tn = 0
    · exact turns_none _ _ _ _ _ W hlm (.inl (by omega))
    · rcases Nat.lt_or_ge 12 l.length with h | h
      · exact turns_none _ _ _ _ _ W hlm (.inr h)
      · rw [htt]
        exact turns_any W.heap.size lA lc l ai (UInt8.ofNat tn) W lh (Nat.le_refl _) h (fun e => h0 (by have := congrArg UInt8.toNat e; simp at this; omega)))).mono fun e W' ⟨he, hg⟩ => ?_
  subst he
  exact ⟨_, rfl, law_post (s := Rows.frameTurnsSpec) hW' rfl rfl (by kernel_rfl) ⟨rfl, rfl, rfl⟩ hg⟩

theorem turns_holds : Rows.FrameTurnsSaid :=
  OpenClaim.holds_of_wide 3 Try.f3 rfl rfl rfl rfl rfl rfl rfl ⟨rfl, rfl, rfl, rfl, rfl⟩ rfl rfl rfl rfl rfl (by kernel_rfl) Try.func3 (by kernel_rfl)
    (of_decide_eq_true (by kernel_rfl)) (by unfold Func.isWrapper; first | (rw [if_pos (by decide +kernel)]; kernel_rfl) | (rw [if_neg (by decide +kernel)]; exact ⟨rfl, rfl⟩))
    (fun os started H enc _ => turns_lifted os started H enc)

end Go.Proofs.Ytldflhledobfnab
