/- StampBytes is proved: whatever the stamp and the bytes, the law returns true, and they read as they did. -/
import Derived.Test.YtldflhledobfnaaDoorDoor
import Derived.Test.YtldflhledobfnaaDoorSBytes
namespace Go.Proofs.YtldflhledobfnaaDoor
open Go.ChangeShapes Go.WideShapes Go.ChangeAt Go.RowKit

set_option maxRecDepth 100000 in
theorem sb_contract (H : Type) (enc : TypeId × Value → H) (W : World) (base : Nat) (args : Array Value) (ds gs : List (DataW H)) (before : List MemPlace)
    (hval : ∀ (j : Nat) t v, Tryd.f3.params[j]? = some t → args[j]? = some v → Value.okWide Tryd.prog W .any base t v)
    (hW : DataW.Whole enc Tryd.prog Tryd.f3.params.toList Rows.stampBytesSpec.vars false W args.toList ds gs before) (hL : laidMetH Tryd.prog Rows.stampBytesRow.laid W) :
    Calls Tryd.prog 3 args W fun e W' => ∃ v, e = .returned v ∧ Rows.stampBytesSpec.post enc Tryd.prog Tryd.f3 false true false false W args v W' := by
  have hW' := hW
  obtain ⟨p, q, hA0, hV, rfl, hfz, hnd⟩ := hW
  have hA : DataW.TrodAll enc Tryd.prog W 0 (fun _ => true) true Tryd.f3.params.toList args.toList ds p := hA0
  rw [Tryd.params3] at hA hval
  obtain ⟨v0, vs0, d0, ds0, p0, q0, hargs, hds, hps, h0, r0⟩ := trodAll_cons hA
  obtain ⟨v1, vs1, d1, ds1, p1, q1, ha1, hd1, hp1, h1, r1⟩ := trodAll_cons r0
  subst ha1 hd1 hp1
  obtain ⟨e1, e2, e3⟩ := trodAll_nil r1
  subst e1 e2 e3
  subst hds hps
  obtain rfl : args = #[v0, v1] := by cases args; simp_all
  obtain ⟨rfl, rfl⟩ := trodVars_none hV
  obtain ⟨a, b, c, rfl, wa, wb, wc⟩ := open_st (hval 0 _ v0 rfl rfl) h0
  obtain ⟨pA, pc, l, rfl, ph, pb, pd⟩ := open_bs (hval 1 _ v1 rfl rfl) h1
  have hw : Wid W := wid_of (rest := []) hL
  refine (sbytes_any a b c W.heap.size pA pc l W wb wc hw ph (Nat.le_refl _) ?_ ?_).mono fun e W' ⟨he, hg⟩ => ?_
  · intro w' hb hw'
    have hm := Nat.le_trans hb.le hb.max
    unfold maxLen at hm
    by_cases h16 : l.length = 16
    · obtain ⟨ad, rfl, -⟩ := hb.get (k := 0) (by omega)
      have := get_full W.heap.size ad pc l w' hb h16 hw'
      rw [← h16] at this
      exact this
    · exact get_short pA pc _ l w' rfl h16 (by omega)
  · intro w' hb
    have hm := Nat.le_trans hb.le hb.max
    unfold maxLen at hm
    by_cases h16 : l.length = 16
    · obtain ⟨ad, rfl, -⟩ := hb.get (k := 0) (by omega)
      have := rget_full W.heap.size ad pc l w' hb h16
      rw [← h16] at this
      exact this
    · exact rget_short pA pc _ l w' rfl h16 (by omega)
  · subst he
    exact ⟨_, rfl, law_post (s := Rows.stampBytesSpec) hW' rfl rfl (by kernel_rfl) ⟨rfl, rfl, rfl⟩ hg⟩

theorem sb_laid_met (os : Os) : laidMet Tryd.prog Rows.stampBytesRow.laid ((laidWorld os).forCall (fun _ _ => 0) ⟨#[], #[.agg #[.int .i64 0, .int .u32 0, .int .u32 0], .slice none 0 0], []⟩).memory :=
  laidMet_of_run' 8 (by kernel_rfl) (by kernel_rfl)
theorem sb_reads (os : Os) {H : Type} (enc : TypeId × Value → H) : ∃ places, DataW.whole enc Tryd.prog ((laidWorld os).forCall (fun _ _ => 0) ⟨#[], #[.agg #[.int .i64 0, .int .u32 0, .int .u32 0], .slice none 0 0], []⟩).memory Tryd.f3.params.toList Rows.stampBytesSpec.vars false #[Value.agg #[.int .i64 0, .int .u32 0, .int .u32 0], Value.slice none 0 0].toList 8 = some ([.agg [.lit (.int .i64 0), .lit (.int .u32 0), .lit (.int .u32 0)], .nil], [], places) :=
  ⟨[], by kernel_rfl⟩

set_option maxRecDepth 100000 in
theorem sb_lifted (os : Os) (started : os.Started) (H : Type) (enc : TypeId × Value → H) (F : Stop.Interp) :
    ReturnsInHanded {} Tryd.checked os 3 .any ((OpenSpec.ofChange Rows.stampBytesSpec).preRow enc Tryd.prog Tryd.f3 Rows.stampBytesRow.domain false Rows.stampBytesRow.laid) (((OpenSpec.ofChange Rows.stampBytesSpec).at F).post enc Tryd.prog Tryd.f3 false true false false) := by
  obtain ⟨places, hx⟩ := sb_reads os enc
  refine returnsInHanded_of_row (C := Tryd.checked) (s := OpenSpec.ofChange Rows.stampBytesSpec) own started (by kernel_rfl) Tryd.func3
    (witness_row_at (enc := enc) (C := Tryd.checked) false (laidWorld os) #[.agg #[.int .i64 0, .int .u32 0, .int .u32 0], .slice none 0 0] rfl (by kernel_rfl) (by kernel_rfl) (by kernel_rfl)
      (OpenSpec.preRow_of_cond 8 hx (by kernel_rfl) (fun k hk => by cases hk) (by kernel_rfl) (sb_laid_met os))) ?_
  intro W base args ds gs before hval hW _ _ _ hL _ _
  exact sb_contract H enc W base args ds gs before hval hW hL

theorem sb_said : Rows.StampBytesSaid :=
  OpenClaim.holds_of_cond 3 Tryd.f3 rfl rfl rfl rfl rfl rfl rfl ⟨rfl, rfl, rfl, rfl, rfl⟩ rfl rfl rfl rfl rfl (by kernel_rfl) Tryd.func3 (by kernel_rfl)
    (of_decide_eq_true (by kernel_rfl)) (by unfold Func.isWrapper; first | (rw [if_pos (by decide +kernel)]; kernel_rfl) | (rw [if_neg (by decide +kernel)]; exact ⟨rfl, rfl⟩))
    (fun os started H enc _ F => by rw [OpenClaim.pre_eq_preRow]; exact sb_lifted os started H enc F)

theorem sb_plain (f : FuncId) (fn : Func) (hf : Tryd.pinned.checked.prog.funcNamed "slackwater/slackwaterlaw01.StampBytes" = some f) (hfn : Tryd.pinned.checked.prog.funcs[f]? = some fn) :
    true = Tryd.pinned.checked.prog.looks [] ∧ ∀ (j : Nat) t, fn.params[j]? = some t → Tryd.pinned.checked.prog.wantsStandIn t = false := by
  obtain rfl : f = 3 := Option.some.inj ((show Tryd.prog.funcNamed "slackwater/slackwaterlaw01.StampBytes" = some 3 by kernel_rfl).symm.trans hf) |>.symm
  obtain rfl : fn = Tryd.f3 := (Option.some.inj (Tryd.func3.symm.trans hfn)).symm
  refine ⟨by kernel_rfl, fun j t ht => ?_⟩
  rw [Tryd.params3] at ht
  have ht' : t = 24 ∨ t = 25 := by simpa using Array.mem_of_getElem? ht
  rcases ht' with rfl | rfl
  · exact (show Tryd.prog.wantsStandIn 24 = false by kernel_rfl)
  · exact (show Tryd.prog.wantsStandIn 25 = false by kernel_rfl)

/-- ████ THE CARD ████ -/
theorem sb_card : Rows.StampBytesCardSaid :=
  Claim7.holds_tied_plain_at .later [] _ _ _ _ sb_said (fun _ h => by cases h) (by kernel_rfl) (fun _ h => by cases h) stampBytes_row_tie rfl ⟨rfl, rfl⟩ (by kernel_rfl) rfl sb_plain (by kernel_rfl)
end Go.Proofs.YtldflhledobfnaaDoor
