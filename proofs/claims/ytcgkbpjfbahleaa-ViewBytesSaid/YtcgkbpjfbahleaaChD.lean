/- ViewBytes is proved: whatever the view and the bytes, the law returns true, and what came in reads as it did. -/
import Derived.Test.YtcgkbpjfbahleaaRows
import Derived.Test.YtcgkbpjfbahleaaChZ
import Derived.ProofKit
import Derived.OpenShut
import Derived.Carry
import Derived.ChangeSlices
import Derived.SizedLaws
import Derived.JoinedCond
import Derived.Deep.CondSized
import Derived.Laws.CopyRow
import Derived.Test.YtcgkbpjfbahleaaChC
import Derived.Test.YtcgkbpjfbahleaaChB
import Derived.Test.YtcgkbpjfbahleaaChA
import Derived.Deep.Strs
import Derived.Lib.SmallJoins
namespace Go.Proofs.Ytcgkbpjfbahleaa
open Go.ChangeShapes Go.WideShapes Go.ChangeAt Go.RowKit

theorem own : ownKnob Try.prog.godebug = none := by kernel_rfl
theorem laid_out : laidOutB Try.prog = true := by kernel_rfl

noncomputable def readOk (t : TypeId) : Bool := Try.prog.readableRec t && decide (t < Try.prog.types.size)
theorem trodAll_stays {H : Type} {enc : TypeId × Value → H} {W W' : World} (hb : Below W.heap.size W W') (ts : List TypeId) (hts : ts.all readOk = true)
    {vs : List Value} {ds : List (DataW H)} {ps : List MemPlace} (h : DataW.TrodAll enc Try.prog W 0 (fun _ => true) true ts vs ds ps) (hlt : ∀ x ∈ ps, x.block < W.heap.size) : DataW.TrodAll enc Try.prog W' 0 (fun b => decide (b < W.heap.size)) true ts vs ds ps := by
  induction ts generalizing vs ds ps with
  | nil =>
    obtain ⟨rfl, rfl, rfl⟩ := trodAll_nil h
    exact trodAll_mk0
  | cons t ts ih =>
    obtain ⟨v, vs', d, ds', p, q, rfl, rfl, rfl, h1, h2⟩ := trodAll_cons h
    rw [List.all_cons, Bool.and_eq_true] at hts
    have hr := hts.1
    unfold readOk at hr
    rw [Bool.and_eq_true, decide_eq_true_eq] at hr
    exact trodAll_cons_mk (Below.trod laid_out hr.1 hr.2 h1 hb fun x hx => hlt x (List.mem_append_left _ hx)) (ih hts.2 h2 fun x hx => hlt x (List.mem_append_right _ hx))

theorem law_post {H : Type} {enc : TypeId × Value → H} {f : Func} {s : ChangeSpec} {apart : Bool} {W W' : World} {args : Array Value} {ds gs : List (DataW H)} {before : List MemPlace}
    (hW : DataW.Whole enc Try.prog f.params.toList s.vars apart W args.toList ds gs before) (hs : s.vars = []) (hres : f.resultTypes = #[4])
    (hts : f.params.toList.all readOk = true) (hfn : (s.fn H (ds ++ gs)).results = [.lit (.bool true)] ∧ (s.fn H (ds ++ gs)).args = ds ∧ (s.fn H (ds ++ gs)).vars = [])
    (hb : Below W.heap.size W W') : s.post enc Try.prog f apart true false false W args (.bool true) W' := by
  have hlt := hW.lt
  have hW' := hW
  obtain ⟨p, q, hA, hV, rfl, hfz, hnd⟩ := hW
  rw [hs] at hV
  obtain ⟨rfl, rfl⟩ := trodVars_none hV
  refine ⟨ds, [], p ++ [], [], p, [], hW', ?_, ?_, ?_, hb.frame _, fun h => by cases h⟩
  · rw [hfn.1, hres]
    exact trodAll_mk1 (shut_bool Try.underlying4 _)
  · rw [hfn.2.1]
    exact trodAll_stays hb _ hts hA fun x hx => hlt x (List.mem_append_left _ hx)
  · rw [hfn.2.2, hs]; rfl

theorem cells_u8 : Try.prog.cellsOf 5 = 1 := by kernel_rfl
theorem len_le_bulk {H : Type} : ∀ (l : List (DataW H)), l.length ≤ Rows.uptoBulkAll l
  | [] => by simp [Rows.uptoBulkAll]
  | x :: r => by
    have h1 : 1 ≤ Rows.uptoBulk x := by
      cases x with
      | lit l => cases l <;> simp [Rows.uptoBulk]
      | nil => simp [Rows.uptoBulk]
      | ptr d => simp [Rows.uptoBulk]
      | slice elems spare => simp [Rows.uptoBulk]
      | agg parts => simp [Rows.uptoBulk]
      | iface t d => simp [Rows.uptoBulk]
      | map entries => simp [Rows.uptoBulk]
      | held h => simp [Rows.uptoBulk]
    have := len_le_bulk r
    simp only [Rows.uptoBulkAll, List.length_cons]; omega

theorem open_bs0 {H : Type} {enc : TypeId × Value → H} {W : World} {base fuel : Nat} {sp : Nat → Bool} {held : Bool} {cs : List Value} {x : DataW H × List MemPlace} (hf : DataW.trod enc Try.prog W base sp held fuel 53 cs = some x) :
    ∃ A cap l, cs = [.slice A l.length cap] ∧ Bs W W.heap.size A cap l ∧ l.length ≤ Rows.uptoBulk x.1 ∧ (l = [] ∨ ∃ es ss, x.1 = .slice es ss ∧ es.length = l.length) := by
  rcases open_ints Try.underlying53 Try.underlying5 cells_u8 hf with ⟨hcs, hx⟩ | ⟨a, len, cap, zs, hcs, _, hl, hm, hz, hx, hcell, hwz⟩
  · subst hcs hx
    exact ⟨none, 0, [], rfl, ⟨Nat.le_refl _, Nat.zero_le _, fun _ => rfl, fun h => absurd h (by simp)⟩, by simp, .inl rfl⟩
  · subst hcs hx
    have hzl : len ≤ zs.length := by rw [hz]; split <;> omega
    have hll : ((zs.take len).map fun n => UInt8.ofNat n.toNat).length = len := by simp; omega
    refine ⟨some a, cap, (zs.take len).map fun n => UInt8.ofNat n.toNat, by rw [hll], ⟨by rw [hll]; exact hl, hm, (fun h => by cases h), fun hn => ⟨a, rfl, ?_, fun k c hk => ?_⟩⟩, ?_, .inr ⟨_, _, rfl, by simp [lits]⟩⟩
    · rw [hll] at hn
      have := World.block_lt_of_cell? W _ (hcell 0 (by omega))
      rwa [block_of_add] at this
    · simp only [List.getElem?_map, List.getElem?_take, Option.map_eq_some_iff] at hk
      obtain ⟨n, hn, rfl⟩ := hk
      split at hn
      · have hkz := (List.getElem?_eq_some_iff.1 hn).1
        have hnz : n ∈ zs := List.mem_of_getElem? hn
        have hb : 0 ≤ n ∧ n ≤ 255 := by simpa [Lit.wf, IntKind.min, IntKind.max, IntKind.signed, IntKind.bits] using hwz n hnz
        rw [hcell k hkz]
        have : zs.getD k 0 = n := by simp [List.getD, hn]
        rw [this]
        have : ((UInt8.ofNat n.toNat).toNat : Int) = n := by simp; omega
        rw [this]
      · cases hn
    · rw [hll]
      have := len_le_bulk (lits (H := H) .u8 (zs.take len))
      simp only [Rows.uptoBulk]
      have e : (lits (H := H) .u8 (zs.take len)).length = len := by simp [lits]; omega
      omega
set_option maxRecDepth 100000 in
theorem open_bs {H : Type} {enc : TypeId × Value → H} {W : World} {base : Nat} {v : Value} {d : DataW H} {p : List MemPlace}
    (hv : Value.okWide Try.prog W .any base 53 v) (h : DataW.Trod enc Try.prog W 0 (fun _ => true) true 53 v d p) :
    ∃ A cap l, v = .slice A l.length cap ∧ Bs W W.heap.size A cap l ∧ l.length ≤ Rows.uptoBulk d ∧ (l = [] ∨ ∃ es sp, d = .slice es sp ∧ es.length = l.length) := by
  obtain ⟨a1, len, cap, rfl⟩ := okWide_slice Try.underlying53 hv
  obtain ⟨fuel, hf⟩ := h
  obtain ⟨A, cap', l, hcs, hb, hk, hd⟩ := open_bs0 hf
  simp [Value.cells] at hcs
  obtain ⟨rfl, rfl, rfl⟩ := hcs
  exact ⟨_, _, l, rfl, hb, hk, hd⟩
end Go.Proofs.Ytcgkbpjfbahleaa
namespace Go.Proofs.Ytcgkbpjfbahleaa
open Go.RowKit

set_option maxHeartbeats 800000 in
theorem run_app0 (w : World) (ty : TypeId) {K K' g : Nat} (hown : So encI 1 w K 3 (.slice (some ⟨g, 0, none⟩) 0 0) []) {A : Option Addr} {cap : Nat} {m : List Int} (hsrc : Sr encI 1 w K' A cap m) (hm : m.length ≤ 1048576) (hbase : K ≤ w.heap.size) :
    ∃ A' cap' w', (Builtin.append_ #[22, 22] ty #[.slice (some ⟨g, 0, none⟩) 0 0, .slice A m.length cap]).run Try.prog w = .ok (.slice A' m.length cap') w' ∧ So encI 1 w' K 3 (.slice A' m.length cap') m ∧ Below w.heap.size w w' := by
  obtain ⟨i0, hi, hz0, hz1, hz2⟩ := info_parts info_i64
  by_cases h0 : m = []
  · subst h0
    rcases A with _ | ad
    · have hc := hsrc.nil rfl
      subst hc
      have hrun := run_append_owned_none (P := Try.prog) w K 22 ty 3 i0 1 Try.underlying22 hi _ _ _ hown
      exact ⟨_, _, w, hrun, hown, Below.refl _ _⟩
    · rcases hown.2 with ⟨he, _⟩ | ⟨g', cap', cur, he, hb, hblk, hn, hc, hs, ht⟩
      · cases he
      · injection he with e1 e2 e3
        injection e1 with e1
        injection e1 with e1
        subst e1 e3
        have hrun := run_append_room (P := Try.prog) (w := w) 22 ty 3 i0 Try.underlying22 hi g 0 0 cur hblk ad 0 cap [] (by simp) (fun j u hj => by simp at hj) (fun u hu => by cases hu) (by omega) (by simp)
        have e9 : (cur.toList.take (0 * i0.size) ++ [] ++ cur.toList.drop (0 * i0.size + ([] : List Value).length)).toArray = cur := by simp
        rw [e9, setRow_self w g cur _ _ hblk] at hrun
        exact ⟨_, _, w, hrun, hown, Below.refl _ _⟩
  · have hl : 0 < m.length := List.length_pos_iff.2 h0
    obtain ⟨ad, rfl, _, hcell⟩ := hsrc.at_ hl
    obtain ⟨A', cap', w', hr, h2, _, _⟩ := run_appE (P := Try.prog) (enc := encI) Try.underlying22 info_i64 (by kernel_rfl) (by decide) encI_len encI_one w ty hown hsrc (by unfold maxLen; simp; omega) (by simp; omega) hbase
    have hfl : (m.flatMap encI).length = m.length * i0.size := by rw [flatMap_len encI_len, hz1]
    have hgrow := run_append_grow (P := Try.prog) (w := w) 22 ty 3 i0 (.int .i64 0) Try.underlying22 hi hz0 ⟨g, 0, none⟩ 0 0 [] (by simp) (fun j v hj => by simp at hj) ad m.length cap (m.flatMap encI) hfl (fun j u hj => by
      obtain ⟨i, x, q, e1, e2, e3⟩ := flatMap_split encI_len m j u hj
      rw [e3]
      exact hcell i x e1 q u e2) (by omega) (by omega) (by rw [hz2]; exact growslice_fits (by omega) (by omega))
    rw [List.length_nil] at hr
    rw [hr] at hgrow
    injection hgrow with e1 e2
    refine ⟨A', cap', w', by rw [hr]; simp, by simpa using h2, ?_⟩
    rw [e2]
    exact (show Below w.heap.size w w.drew from ⟨rfl, rfl, rfl, Nat.le_refl _, fun _ _ => rfl⟩).alloc (Nat.le_refl _) _
end Go.Proofs.Ytcgkbpjfbahleaa
namespace Go.Proofs.Ytcgkbpjfbahleaa
open Go.RowKit Go.BigFrame

theorem putV_len (e p : Int) (ms : List Int) : (putV e p ms).length ≤ 27 + 9 * ms.length := by
  have h1 := kN_le (zz e)
  have h2 := kN_le (zz p)
  have h3 := kN_le ms.length
  have h4 := numsB_len ms
  unfold putV
  rw [List.length_append, List.length_append, List.length_append, numB_length, numB_length, numB_length]
  omega
theorem step_app0 {ops : Array Oper} {o : Oper} {a : Act} {w : World} {Kk : Act → World → Prop} {Q : Exit → Act → World → Prop} {E : Prop} {tm : Array Value} (hgd : o.guard = none) (s x : Operand)
    (ho : o.op = .call { callee := .builtin .append, args := #[s, x], argTypes := #[22, 22] })
    (K g : Nat) (hs : a.eval s = .slice (some ⟨g, 0, none⟩) 0 0) (hown : So encI 1 w K 3 (.slice (some ⟨g, 0, none⟩) 0 0) []) (A : Option Addr) (cap : Nat) (m : List Int) (hx : a.eval x = .slice A m.length cap) (K' : Nat) (hsrc : Sr encI 1 w K' A cap m)
    (hm : m.length ≤ 1048576) (hbase : K ≤ w.heap.size)
    (h : ∀ A' cap' w', So encI 1 w' K 3 (.slice A' m.length cap') m → Below w.heap.size w w' → Kk (a.put o.dst (.slice A' m.length cap')) w') :
    if Region.wanted o (yielded ops tm) = true then Oper.wp Try.prog o a w Kk Q else E := by
  have hw : Region.wanted o (yielded ops tm) = true := by simp [Region.wanted, hgd]
  rw [if_pos hw]
  obtain ⟨A', cap', w', hr, h2, h3⟩ := run_app0 w o.type hown hsrc hm hbase
  unfold Oper.wp execOp
  simp only [ho, resolve, invoke, builtin, Sem.run_bind, Sem.run_pure, Result.andThen_ok, List.map_toArray, List.map_cons, List.map_nil, hs, hx, hr]
  exact h A' cap' w' h2 h3
inductive Vt where
  | v (u : Value)
  | z
  | s
  | t
def TV (ms : List Int) (e p : Int) (K : Nat) : Vt → Value → World → Prop
  | .v x, u, _ => u = x
  | .z, u, w => ∃ g, u = .slice (some ⟨g, 0, none⟩) 0 0 ∧ So encI 1 w K 3 (.slice (some ⟨g, 0, none⟩) 0 0) []
  | .s, u, w => ∃ A c, u = .slice A ms.length c ∧ So encI 1 w K 3 (.slice A ms.length c) ms
  | .t, u, w => ∃ A c, u = .agg #[.int .i64 e, .int .i64 p, .slice A ms.length c] ∧ So encI 1 w K 3 (.slice A ms.length c) ms
theorem TV.mono {ms : List Int} {e p : Int} {K : Nat} {x : Vt} {u : Value} {w w' : World} (h : TV ms e p K x u w) (hb : Below w.heap.size w w') : TV ms e p K x u w' := by
  cases x with
  | v y => exact h
  | z => obtain ⟨g, e, r⟩ := h; exact ⟨g, e, r.below hb⟩
  | s => obtain ⟨A, c, e, r⟩ := h; exact ⟨A, c, e, r.below hb⟩
  | t => obtain ⟨A, c, e, r⟩ := h; exact ⟨A, c, e, r.below hb⟩
def ToE (w : World) (e p : Int) (ms : List Int) (w' : World) : Prop :=
  ∃ A c, w'.cell? ⟨w.heap.size + 1, 0, none⟩ = some (.int .i64 e) ∧ w'.cell? ⟨w.heap.size + 1, 1, none⟩ = some (.int .i64 p) ∧ w'.cell? ⟨w.heap.size + 1, 2, none⟩ = some (.slice A ms.length c) ∧ So encI 1 w' w.heap.size 3 (.slice A ms.length c) ms ∧ Below w.heap.size w w'
def ToP (w : World) (e p : Int) (ms : List Int) (en : Ending) (w' : World) : Prop := ∃ A c, en = .returned (.agg #[.int .i64 e, .int .i64 p, .slice A ms.length c]) ∧ So encI 1 w' w.heap.size 3 (.slice A ms.length c) ms ∧ Below w.heap.size w w'
set_option maxRecDepth 100000 in
set_option maxHeartbeats 3200000 in
theorem lto_any (e p : Int) (K0 : Nat) (A : Option Addr) (cap : Nat) (ms : List Int) (w : World) (hs : Sr encI 1 w K0 A cap ms) (hK : K0 ≤ w.heap.size) (hl : ms.length ≤ 1048576) :
    Calls Try.prog 24 #[.agg #[.int .i64 e, .int .i64 p, .slice A ms.length cap]] w (ToP w e p ms) := by
  have HS : Hid (∀ W, Below w.heap.size w W → Sr encI 1 W K0 A cap ms) := Lib.hid fun W h => hs.below (h.mono hK)
  clear hs
  have HB0 : Hid (Below w.heap.size w ((w.alloc (.cells #[.int .i64 e, .int .i64 p, .slice A ms.length cap] 29)).alloc (.cells #[.int .i64 0, .int .i64 0, .slice none 0 0] 37))) := Lib.hid (by go_grown)
  obtain ⟨W0, hW0⟩ : ∃ W0, W0 = (w.alloc (.cells #[.int .i64 e, .int .i64 p, .slice A ms.length cap] 29)).alloc (.cells #[.int .i64 0, .int .i64 0, .slice none 0 0] 37) := ⟨_, rfl⟩
  have x0 : W0.cell? ⟨w.heap.size, 0, none⟩ = some (.int .i64 e) := by rw [hW0]; simp [go_sem]
  have x1 : W0.cell? ⟨w.heap.size, 1, none⟩ = some (.int .i64 p) := by rw [hW0]; simp [go_sem]
  have x2 : W0.cell? ⟨w.heap.size, 2, none⟩ = some (.slice A ms.length cap) := by rw [hW0]; simp [go_sem]
  have z0 : W0.cell? ⟨w.heap.size + 1, 0, none⟩ = some (.int .i64 0) := by rw [hW0]; simp [go_sem]
  have z1 : W0.cell? ⟨w.heap.size + 1, 1, none⟩ = some (.int .i64 0) := by rw [hW0]; simp [go_sem]
  have z2 : W0.cell? ⟨w.heap.size + 1, 2, none⟩ = some (.slice none 0 0) := by rw [hW0]; simp [go_sem]
  have zf : ∀ j, W0.frozen? ⟨w.heap.size + 1, j, none⟩ = false := fun j => by rw [hW0]; simp [go_sem]
  have hz0 : W0.heap.size = w.heap.size + 2 := by rw [hW0]; simp
  have hza : w.heap.size < W0.heap.size := by omega
  have hz2 : w.heap.size + 1 < W0.heap.size := by omega
  rw [← hW0] at HB0
  have HW := Lib.hid hW0
  have HZ0 := Lib.hid hz0
  clear hW0 hz0
  go_enter Try.func24, Try.ntmps24
  go_upto_region 1 with fail
  rw [← HW.out]
  clear HW
  apply region_VS (TV ms e p W0.heap.size) (Below W0.heap.size W0) (fun w' => ToE w e p ms w') 9 [.v (.pointer (some ⟨w.heap.size, 0, none⟩)), .v (.int .i64 e), .v (.pointer (some ⟨w.heap.size, 1, none⟩)), .v (.int .i64 p), .z, .v (.pointer (some ⟨w.heap.size, 2, none⟩)), .v (.slice A ms.length cap), .s, .t, .v undef] (.v undef)
  case mono => exact fun p v w0 w1 h hb => TV.mono h hb
  case hl => kernel_rfl
  case hm => kernel_rfl
  case hf => kernel_rfl
  case hQ => exact (by intro c x y w e h; exact And.intro (e.symm.trans (And.left h)) (And.right h))
  case hF => intro vs; simp only [putAll, Act.put, List.setIfInBounds_toArray, List.set_cons_zero, List.set_cons_succ, Nat.reduceAdd]; rfl
  case h0 => exact ⟨rfl, rfl, rfl, Nat.le_refl _, fun _ _ => rfl⟩
  case hstep =>
    repeat' (first | exact AllOps.nil | apply AllOps.cons)
    · intro vs wx hG hd K hK
      replace hK : ∀ (uu : Value) (w' : World), Below wx.heap.size wx w' → ((Below W0.heap.size W0)) w' → (TV ms e p W0.heap.size) (.v (.pointer (some ⟨w.heap.size, 0, none⟩))) uu w' → K _ w' := hK
      simp only [Act.put, List.setIfInBounds_toArray, List.set_cons_zero, List.set_cons_succ] at hK ⊢
      have HK := Lib.hid hK
      have HG := Lib.hid hG
      clear hK hd
      clear hG
      go_simp
      exact HK.out _ _ (Below.refl _ _) HG.out rfl
    · intro vs wx hG hd K hK
      have e0 : vs 0 = .pointer (some ⟨w.heap.size, 0, none⟩) := hd.get (j := 0) (by simp [depsOf, Region.binds])
      replace hK : ∀ (uu : Value) (w' : World), Below wx.heap.size wx w' → ((Below W0.heap.size W0)) w' → (TV ms e p W0.heap.size) (.v (.int .i64 e)) uu w' → K _ w' := hK
      simp only [Act.put, List.setIfInBounds_toArray, List.set_cons_zero, List.set_cons_succ, e0] at hK ⊢
      have HK := Lib.hid hK
      have HG := Lib.hid hG
      clear hK hd e0
      have q0 := HG.out.cell (p := ⟨w.heap.size, 0, none⟩) hza
      rw [x0] at q0
      have q1 := HG.out.cell (p := ⟨w.heap.size, 1, none⟩) hza
      rw [x1] at q1
      have q2 := HG.out.cell (p := ⟨w.heap.size, 2, none⟩) hza
      rw [x2] at q2
      clear hG
      go_simp
      exact HK.out _ _ (Below.refl _ _) HG.out rfl
    · intro vs wx hG hd K hK
      replace hK : ∀ (uu : Value) (w' : World), Below wx.heap.size wx w' → ((Below W0.heap.size W0)) w' → (TV ms e p W0.heap.size) (.v (.pointer (some ⟨w.heap.size, 1, none⟩))) uu w' → K _ w' := hK
      simp only [Act.put, List.setIfInBounds_toArray, List.set_cons_zero, List.set_cons_succ] at hK ⊢
      have HK := Lib.hid hK
      have HG := Lib.hid hG
      clear hK hd
      clear hG
      go_simp
      exact HK.out _ _ (Below.refl _ _) HG.out rfl
    · intro vs wx hG hd K hK
      have e2 : vs 2 = .pointer (some ⟨w.heap.size, 1, none⟩) := hd.get (j := 2) (by simp [depsOf, Region.binds])
      replace hK : ∀ (uu : Value) (w' : World), Below wx.heap.size wx w' → ((Below W0.heap.size W0)) w' → (TV ms e p W0.heap.size) (.v (.int .i64 p)) uu w' → K _ w' := hK
      simp only [Act.put, List.setIfInBounds_toArray, List.set_cons_zero, List.set_cons_succ, e2] at hK ⊢
      have HK := Lib.hid hK
      have HG := Lib.hid hG
      clear hK hd e2
      have q0 := HG.out.cell (p := ⟨w.heap.size, 0, none⟩) hza
      rw [x0] at q0
      have q1 := HG.out.cell (p := ⟨w.heap.size, 1, none⟩) hza
      rw [x1] at q1
      have q2 := HG.out.cell (p := ⟨w.heap.size, 2, none⟩) hza
      rw [x2] at q2
      clear hG
      go_simp
      exact HK.out _ _ (Below.refl _ _) HG.out rfl
    · intro vs wx hG hd K hK
      replace hK : ∀ (uu : Value) (w' : World), Below wx.heap.size wx w' → ((Below W0.heap.size W0)) w' → (TV ms e p W0.heap.size) (.z) uu w' → K _ w' := hK
      simp only [Act.put, List.setIfInBounds_toArray, List.set_cons_zero, List.set_cons_succ] at hK ⊢
      have HK := Lib.hid hK
      have HG := Lib.hid hG
      clear hK hd
      clear hG
      have so := lit_so (α := Int) (enc := encI) (k := 1) wx W0.heap.size 3 wx.heap.size rfl HG.out.size #[] 0 [] encI_len rfl rfl (by decide)
      go_simp
      exact HK.out _ _ ((Below.refl _ _).alloc (Nat.le_refl _) _) (HG.out.alloc HG.out.size _) ⟨_, rfl, so⟩
    · intro vs wx hG hd K hK
      replace hK : ∀ (uu : Value) (w' : World), Below wx.heap.size wx w' → ((Below W0.heap.size W0)) w' → (TV ms e p W0.heap.size) (.v (.pointer (some ⟨w.heap.size, 2, none⟩))) uu w' → K _ w' := hK
      simp only [Act.put, List.setIfInBounds_toArray, List.set_cons_zero, List.set_cons_succ] at hK ⊢
      have HK := Lib.hid hK
      have HG := Lib.hid hG
      clear hK hd
      clear hG
      go_simp
      exact HK.out _ _ (Below.refl _ _) HG.out rfl
    · intro vs wx hG hd K hK
      have e5 : vs 5 = .pointer (some ⟨w.heap.size, 2, none⟩) := hd.get (j := 5) (by simp [depsOf, Region.binds])
      replace hK : ∀ (uu : Value) (w' : World), Below wx.heap.size wx w' → ((Below W0.heap.size W0)) w' → (TV ms e p W0.heap.size) (.v (.slice A ms.length cap)) uu w' → K _ w' := hK
      simp only [Act.put, List.setIfInBounds_toArray, List.set_cons_zero, List.set_cons_succ, e5] at hK ⊢
      have HK := Lib.hid hK
      have HG := Lib.hid hG
      clear hK hd e5
      have q0 := HG.out.cell (p := ⟨w.heap.size, 0, none⟩) hza
      rw [x0] at q0
      have q1 := HG.out.cell (p := ⟨w.heap.size, 1, none⟩) hza
      rw [x1] at q1
      have q2 := HG.out.cell (p := ⟨w.heap.size, 2, none⟩) hza
      rw [x2] at q2
      clear hG
      go_simp
      exact HK.out _ _ (Below.refl _ _) HG.out rfl
    · intro vs wx hG hd K hK
      obtain ⟨g4, e4, r4⟩ : ∃ g, vs 4 = .slice (some ⟨g, 0, none⟩) 0 0 ∧ So encI 1 wx W0.heap.size 3 (.slice (some ⟨g, 0, none⟩) 0 0) [] := hd.get (j := 4) (by simp [depsOf, Region.binds])
      have e6 : vs 6 = .slice A ms.length cap := hd.get (j := 6) (by simp [depsOf, Region.binds])
      replace hK : ∀ (uu : Value) (w' : World), Below wx.heap.size wx w' → ((Below W0.heap.size W0)) w' → (TV ms e p W0.heap.size) (.s) uu w' → K _ w' := hK
      simp only [Act.put, List.setIfInBounds_toArray, List.set_cons_zero, List.set_cons_succ, e4, e6] at hK ⊢
      have HK := Lib.hid hK
      have HG := Lib.hid hG
      clear hK hd e4 e6
      clear hG
      apply step_app0 (K := W0.heap.size) (g := g4) (A := A) (cap := cap) (m := ms) (K' := K0) (s := .tmp 7) (x := .tmp 9)
      case hgd => rfl
      case ho => rfl
      case hs => rfl
      case hx => rfl
      case hown => exact r4
      case hsrc => exact HS.out _ (HB0.out.trans (HG.out.mono HB0.out.size))
      case hm => exact hl
      case hbase => exact HG.out.size
      intro A9 c9 w9 so9 hb
      simp only [Act.put, List.setIfInBounds_toArray, List.set_cons_zero, List.set_cons_succ]
      exact HK.out _ _ hb (HG.out.trans (hb.mono HG.out.size)) ⟨A9, c9, rfl, so9⟩
    · intro vs wx hG hd K hK
      have e1 : vs 1 = .int .i64 e := hd.get (j := 1) (by simp [depsOf, Region.binds])
      have e3 : vs 3 = .int .i64 p := hd.get (j := 3) (by simp [depsOf, Region.binds])
      obtain ⟨A7, c7, e7, r7⟩ : ∃ A' c', vs 7 = .slice A' ms.length c' ∧ So encI 1 wx W0.heap.size 3 (.slice A' ms.length c') ms := hd.get (j := 7) (by simp [depsOf, Region.binds])
      replace hK : ∀ (uu : Value) (w' : World), Below wx.heap.size wx w' → ((Below W0.heap.size W0)) w' → (TV ms e p W0.heap.size) (.t) uu w' → K _ w' := hK
      simp only [Act.put, List.setIfInBounds_toArray, List.set_cons_zero, List.set_cons_succ, e1, e3, e7] at hK ⊢
      have HK := Lib.hid hK
      have HG := Lib.hid hG
      clear hK hd e1 e3 e7
      clear hG
      go_simp
      exact HK.out _ _ (Below.refl _ _) HG.out ⟨_, _, rfl, r7⟩
    · intro vs wx hG hd K hK
      obtain ⟨A8, c8, e8, r8⟩ : ∃ A' c', vs 8 = .agg #[.int .i64 e, .int .i64 p, .slice A' ms.length c'] ∧ So encI 1 wx W0.heap.size 3 (.slice A' ms.length c') ms := hd.get (j := 8) (by simp [depsOf, Region.binds])
      replace hK : ∀ (uu : Value) (w' : World), (fun w' => ToE w e p ms w') w' → K _ w' := hK
      simp only [Act.put, e8] at hK ⊢
      have HK := Lib.hid hK
      have HG := Lib.hid hG
      clear hK hd e8
      have y0 := HG.out.cell (p := ⟨w.heap.size + 1, 0, none⟩) hz2
      rw [z0] at y0
      have y1 := HG.out.cell (p := ⟨w.heap.size + 1, 1, none⟩) hz2
      rw [z1] at y1
      have y2 := HG.out.cell (p := ⟨w.heap.size + 1, 2, none⟩) hz2
      rw [z2] at y2
      have yf : ∀ j, wx.frozen? ⟨w.heap.size + 1, j, none⟩ = false := fun j => (HG.out.frozen (p := ⟨w.heap.size + 1, j, none⟩) hz2).trans (zf j)
      have hne : ∀ k, (Value.slice A8 ms.length c8).ownBlock = some k → ¬ k = w.heap.size + 1 := fun k ek h => by have := (r8.lt k ek).1; have := HZ0.out; omega
      have HR := Lib.hid r8
      have HN := Lib.hid hne
      have HYF := Lib.hid yf
      clear r8 hG hne
      go_simp
      refine HK.out undef _ ⟨A8, c8, ?_, ?_, ?_, ?_, ?_⟩
      · simp [go_sem, y0]
      · simp [go_sem, y1]
      · simp [go_sem, y2]
      · exact (((HR.out.tn (Tn.setCell _ (w.heap.size + 1) 0 _) HN.out).tn (Tn.setCell _ (w.heap.size + 1) 1 _) HN.out).tn (Tn.setCell _ (w.heap.size + 1) 2 _) HN.out).more (by have := HZ0.out; omega)
      · exact (((HB0.out.trans (HG.out.mono HB0.out.size)).setCell (Nat.le_succ _) _).setCell (Nat.le_succ _) _).setCell (Nat.le_succ _) _
  case hend =>
    intro vs W hE
    obtain ⟨A8, c8, z0, z1, z2, so, hb⟩ := hE
    have HSO := Lib.hid so
    have HBW := Lib.hid hb
    clear so hb
    go_wp2_with fail
    exact bodyPost_ret (v := .agg #[.int .i64 e, .int .i64 p, .slice A8 ms.length c8]) (by simp [results, Try.results24, go_sem, z0, z1, z2]) rfl ⟨A8, c8, rfl, HSO.out, HBW.out⟩
theorem lfrom_any (e p : Int) (A : Option Addr) (n cap : Nat) (w : World) :
    Calls Try.prog 13 #[.agg #[.int .i64 e, .int .i64 p, .slice A n cap]] w fun r w' => r = .returned (.agg #[.int .i64 e, .int .i64 p, .slice A n cap]) ∧ Below w.heap.size w w' := by
  go_enter Try.func13, Try.ntmps13
  go_wp2_with fail
  exact bodyPost_ret (v := .agg #[.int .i64 e, .int .i64 p, .slice A n cap]) (by simp [results, Try.results13, go_sem]) rfl ⟨rfl, by go_grown⟩
end Go.Proofs.Ytcgkbpjfbahleaa
namespace Go.Proofs.Ytcgkbpjfbahleaa
open Go.RowKit Go.BigFrame

inductive Vu where
  | v (u : Value)
  | t
  | s
/-- What is known of an operation's value. -/
def HU (e p : Int) (ms : List Int) (K : Nat) : Vu → Value → World → Prop
  | .v x, u, _ => u = x
  | .t, u, w => ∃ A c, u = .agg #[.int .i64 e, .int .i64 p, .slice A ms.length c] ∧ So encI 1 w K 3 (.slice A ms.length c) ms
  | .s, u, w => ∃ A n c, u = .slice A n c ∧ n = (putV e p ms).length ∧ Ob w K (.slice A n c) (putV e p ms)
theorem HU.tn {e p : Int} {ms : List Int} {K b : Nat} {y : Vu} {u : Value} {w w' : World} (h : HU e p ms K y u w) (t : Tn (· = b) w w') (hb : b < K) : HU e p ms K y u w' := by
  cases y with
  | v x => exact h
  | t =>
    obtain ⟨A, c, e1, r⟩ := h
    exact ⟨A, c, e1, r.tn t fun k e2 h2 => by have := (r.lt k e2).1; omega⟩
  | s =>
    obtain ⟨A, n, c, e1, e2, r⟩ := h
    exact ⟨A, n, c, e1, e2, t.ob r fun k e3 h3 => by have := (r.lt k e3).1; omega⟩
theorem HU.mono {e p : Int} {ms : List Int} {K : Nat} {y : Vu} {u : Value} {w w' : World} (h : HU e p ms K y u w) (hb : Below w.heap.size w w') : HU e p ms K y u w' := by
  cases y with
  | v x => exact h
  | t =>
    obtain ⟨A, c, e1, r⟩ := h
    exact ⟨A, c, e1, r.below hb⟩
  | s =>
    obtain ⟨A, n, c, e1, e2, r⟩ := h
    exact ⟨A, n, c, e1, e2, (Tn.ofNew (P := fun _ => False) hb).ob r fun _ _ => id⟩
/-- Where it stands: nothing of the readers' blocks is anything else's. -/
structure Gh (V W : World) (b0 b1 : Nat) (v1 : Value) (b2 b3 bx by9 Kx : Nat) : Prop where
  w2 : b2 < W.heap.size
  w3 : b3 < W.heap.size
  v2 : V.heap.size ≤ b2
  h23 : b2 < b3
  x3 : b3 < Kx
  n0 : b0 ≠ b2 ∧ b0 ≠ b3
  n1 : b1 ≠ b2 ∧ b1 ≠ b3
  nx : bx ≠ b2 ∧ bx ≠ b3
  ny : by9 ≠ b2 ∧ by9 ≠ b3
  nv : ∀ k, v1.ownBlock = some k → k ≠ b2 ∧ k ≠ b3
/-- What the last statement finds: the view's box at b0, the writer at b1, the readers at b2 and b3, what was taken off at bx and by9. -/
structure Gb (V W : World) (e p : Int) (ms : List Int) (A : Option Addr) (cap b0 b1 : Nat) (v1 : Value) (b2 K2 b3 : Nat) (B : List UInt8) (G : Gv) (A5 : Option Addr) (c5 bx : Nat) (A6 : Option Addr) (c6 by9 Kx : Nat) (y z : Bool) (wx : World) : Prop where
  size : W.heap.size ≤ wx.heap.size
  bl : Below V.heap.size V wx
  c0 : wx.cell? ⟨b0, 0, none⟩ = some (.int .i64 e)
  c1 : wx.cell? ⟨b0, 1, none⟩ = some (.int .i64 p)
  c2 : wx.cell? ⟨b0, 2, none⟩ = some (.slice A ms.length cap)
  x0 : wx.cell? ⟨bx, 0, none⟩ = some (.int .i64 G.e)
  x1 : wx.cell? ⟨bx, 1, none⟩ = some (.int .i64 G.p)
  x2 : wx.cell? ⟨bx, 2, none⟩ = some (.slice A5 G.ms.length c5)
  y0 : wx.cell? ⟨by9, 0, none⟩ = some (.int .i64 G.e)
  y1 : wx.cell? ⟨by9, 1, none⟩ = some (.int .i64 G.p)
  y2 : wx.cell? ⟨by9, 2, none⟩ = some (.slice A6 G.ms.length c6)
  sm : Sr encI 1 wx V.heap.size A cap ms
  wr : Wr wx 0 b1 v1 (putV e p ms)
  s5 : So encI 1 wx Kx 3 (.slice A5 G.ms.length c5) G.ms
  s6 : So encI 1 wx Kx 3 (.slice A6 G.ms.length c6) G.ms
  rd : y = false → Rd wx K2 b2 G.l G.r
  mx : z = false → Mx V.heap.size wx b3 B G.l G.r
section
variable {V W wx w' : World} {e p : Int} {ms : List Int} {A : Option Addr} {cap b0 b1 : Nat} {v1 : Value} {b2 K2 b3 : Nat} {B : List UInt8} {G : Gv} {A5 : Option Addr} {c5 bx : Nat} {A6 : Option Addr} {c6 by9 Kx : Nat} {y z y' z' : Bool}
theorem Gb.tn {P : Nat → Prop} (h : Gb V W e p ms A cap b0 b1 v1 b2 K2 b3 B G A5 c5 bx A6 c6 by9 Kx y z wx) (t : Tn P wx w') (hV : ∀ k, k < wx.heap.size → P k → V.heap.size ≤ k) (p0 : ¬ P b0) (p1 : ¬ P b1) (px : ¬ P bx) (py : ¬ P by9) (pv : ∀ k, v1.ownBlock = some k → ¬ P k) (pk : ∀ k, k < wx.heap.size → P k → k < Kx)
    (hr : y' = false → Rd w' K2 b2 G.l G.r) (hm : z' = false → Mx V.heap.size w' b3 B G.l G.r) : Gb V W e p ms A cap b0 b1 v1 b2 K2 b3 B G A5 c5 bx A6 c6 by9 Kx y' z' w' :=
  ⟨Nat.le_trans h.size t.size, h.bl.trans (t.below h.bl.size hV), t.cell h.c0 p0, t.cell h.c1 p0, t.cell h.c2 p0, t.cell h.x0 px, t.cell h.x1 px, t.cell h.x2 px, t.cell h.y0 py, t.cell h.y1 py, t.cell h.y2 py, h.sm.below (t.below h.bl.size hV), h.wr.tn t p1 pv, h.s5.tn t (fun k e9 q => by have := h.s5.lt k e9; have := pk k this.2 q; omega), h.s6.tn t (fun k e9 q => by have := h.s6.lt k e9; have := pk k this.2 q; omega), hr, hm⟩
theorem Gb.below (h : Gb V W e p ms A cap b0 b1 v1 b2 K2 b3 B G A5 c5 bx A6 c6 by9 Kx y z wx) (hb : Below wx.heap.size wx w') : Gb V W e p ms A cap b0 b1 v1 b2 K2 b3 B G A5 c5 bx A6 c6 by9 Kx y z w' :=
  h.tn (Tn.ofNew (P := fun _ => False) hb) (fun _ _ => False.elim) id id id id (fun _ _ => id) (fun _ _ => False.elim) (fun e => (h.rd e).below hb) (fun e => (h.mx e).below hb)
theorem Gb.end1 (h : Gb V W e p ms A cap b0 b1 v1 b2 K2 b3 B G A5 c5 bx A6 c6 by9 Kx y z wx) (g : Gh V W b0 b1 v1 b2 b3 bx by9 Kx) (t : Tn (· = b2) wx w') : Gb V W e p ms A cap b0 b1 v1 b2 K2 b3 B G A5 c5 bx A6 c6 by9 Kx true z w' :=
  h.tn t (fun k _ e => by have := g.v2; omega) g.n0.1 g.n1.1 g.nx.1 g.ny.1 (fun k e => (g.nv k e).1) (fun k _ e => by have := g.x3; have := g.h23; omega) (fun e => by cases e) (fun e => (h.mx e).tnK t (by have := g.h23; omega) (fun k hk e => by have := g.v2; omega))
theorem Gb.end2 (h : Gb V W e p ms A cap b0 b1 v1 b2 K2 b3 B G A5 c5 bx A6 c6 by9 Kx y z wx) (g : Gh V W b0 b1 v1 b2 b3 bx by9 Kx) (t : Tn (· = b3) wx w') : Gb V W e p ms A cap b0 b1 v1 b2 K2 b3 B G A5 c5 bx A6 c6 by9 Kx y true w' :=
  h.tn t (fun k _ e => by have := g.v2; have := g.h23; omega) g.n0.2 g.n1.2 g.nx.2 g.ny.2 (fun k e => (g.nv k e).2) (fun k _ e => by have := g.x3; omega) (fun e => (h.rd e).tn t (fun k hk e9 => by have := g.h23; omega)) (fun e => by cases e)
end

set_option maxRecDepth 100000 in
set_option maxHeartbeats 6400000 in
theorem viewbytes_any (e p : Int) (he : -9223372036854775808 ≤ e ∧ e ≤ 9223372036854775807) (hp : -9223372036854775808 ≤ p ∧ p ≤ 9223372036854775807) (A : Option Addr) (cap : Nat) (ms : List Int) (V : World) (hs : Sr encI 1 V V.heap.size A cap ms)
    (hr : ∀ x ∈ ms, -9223372036854775808 ≤ x ∧ x ≤ 9223372036854775807) (bA : Option Addr) (bc : Nat) (B : List UInt8) (hb : Bs V V.heap.size bA bc B) (hB : B.length ≤ 140737488355328) :
    Calls Try.prog 5 #[.agg #[.int .i64 e, .int .i64 p, .slice A ms.length cap], .slice bA B.length bc] V (Ok0 V) := by
  have hE := Lib.hid he
  have hP := Lib.hid hp
  have hR := Lib.hid hr
  have HB0 := Lib.hid hb
  have HS0 := Lib.hid hs
  have hle := hs.le
  have hlb := hb.le
  have hBV : Below V.heap.size V (V.alloc (.cells #[.int .i64 e, .int .i64 p, .slice A ms.length cap] 29)) := (Below.refl _ _).alloc (Nat.le_refl _) _
  obtain ⟨W1, hW1⟩ : ∃ W1, W1 = V.alloc (.cells #[.int .i64 e, .int .i64 p, .slice A ms.length cap] 29) := ⟨_, rfl⟩
  have q0 : W1.cell? ⟨V.heap.size, 0, none⟩ = some (.int .i64 e) := by rw [hW1]; simp [go_sem]
  have q1 : W1.cell? ⟨V.heap.size, 1, none⟩ = some (.int .i64 p) := by rw [hW1]; simp [go_sem]
  have q2 : W1.cell? ⟨V.heap.size, 2, none⟩ = some (.slice A ms.length cap) := by rw [hW1]; simp [go_sem]
  have z1 : W1.heap.size = V.heap.size + 1 := by rw [hW1]; simp
  rw [← hW1] at hBV
  have HBV := Lib.hid hBV
  have HZ1 := Lib.hid z1
  have HW := Lib.hid hW1
  clear hW1 z1 hBV he hp hr hb hs
  go_enter Try.func5, Try.ntmps5
  go_upto_region 1 with fail
  rw [← HW.out]
  clear HW
  by_cases h5 : 50 < ms.length
  · have hd : decide ((50 : Int) < (ms.length : Int)) = true := by simp; omega
    go_wp2_with fail
    go_at_call 9
    refine (awake_any _).mono ?_
    rintro en w2 ⟨rfl, hb2⟩
    have HB2 := Lib.hid (HBV.out.trans (hb2.mono HBV.out.size))
    clear hb2
    go_wp2_with fail
    go_ret
    exact ⟨rfl, HB2.out⟩
  · have hd : decide ((50 : Int) < (ms.length : Int)) = false := by simp; omega
    have hml : ms.length ≤ 1048576 := by omega
    have hzW : V.heap.size < W1.heap.size := by have := HZ1.out; omega
    have HML := Lib.hid hml
    have HH5 := Lib.hid h5
    clear h5
    go_wp2_with fail
    go_at_call 22
    refine (new_any _).mono ?_
    rintro en w2 ⟨rfl, hw2⟩
    have hb2 : Below W1.heap.size W1 w2 := by rw [hw2]; exact (Below.refl _ _).alloc (Nat.le_refl _) _
    have hwr2 : Wr w2 0 W1.heap.size (.slice none 0 0) [] := by rw [hw2]; exact wr_new W1 0 (Nat.zero_le _)
    have hz2 : w2.heap.size = W1.heap.size + 1 := by rw [hw2]; simp
    have k0 := hb2.cell (p := ⟨V.heap.size, 0, none⟩) hzW
    have k1 := hb2.cell (p := ⟨V.heap.size, 1, none⟩) hzW
    have k2 := hb2.cell (p := ⟨V.heap.size, 2, none⟩) hzW
    rw [q0] at k0
    rw [q1] at k1
    rw [q2] at k2
    have HQ2 : Hid (w2.cell? ⟨V.heap.size, 0, none⟩ = some (.int .i64 e) ∧ w2.cell? ⟨V.heap.size, 1, none⟩ = some (.int .i64 p) ∧ w2.cell? ⟨V.heap.size, 2, none⟩ = some (.slice A ms.length cap)) := Lib.hid ⟨k0, k1, k2⟩
    have HB2 := Lib.hid (HBV.out.trans (hb2.mono HBV.out.size))
    have HWR2 := Lib.hid hwr2
    have HZ2 := Lib.hid hz2
    clear hw2 hb2 hwr2 hz2 q0 q1 q2
    go_wp2_with fail
    go_at_call 24
    refine (lto_any e p V.heap.size A cap ms w2 (HS0.out.below HB2.out) HB2.out.size hml).mono ?_
    rintro en w3 ⟨A3, c3, rfl, so3, hb3⟩
    have HW3 : Hid (Wr w3 0 W1.heap.size (.slice none 0 0) []) := Lib.hid (HWR2.out.below hb3)
    have HS3 := Lib.hid so3
    have HB3 := Lib.hid hb3
    clear so3 hb3 k0 k1 k2
    go_wp2_with fail
    go_at_call 23
    refine (vput_any e p hE.out hP.out w3.heap.size A3 ms.length c3 ms w3 rfl (HS3.out.sr encI_len).1 (Nat.le_refl _) hR.out hml 0 W1.heap.size (.slice none 0 0) [] HW3.out (by simp) (fun hl ad ea => by
      obtain ⟨g, eg⟩ := own_some HS3.out hl
      rw [eg] at ea
      injection ea with ea
      subst ea
      have h9 := (HS3.out.lt g (by rw [eg]; rfl)).1
      have := HZ2.out
      exact ⟨by show g ≠ _; omega, by simp [Value.ownBlock]⟩)).mono ?_
    rintro en w4 ⟨rfl, v4, hz4⟩
    rw [List.nil_append] at hz4
    have t4 : Below W1.heap.size w3 w4 := hz4.tn.below (by have := HZ2.out; have := HB3.out.size; omega) (fun k _ e9 => by rcases e9 with e9 | e9; exact Nat.le_of_eq e9.symm; simp [Value.ownBlock] at e9)
    have HB34 : Hid (Below W1.heap.size w2 w4) := Lib.hid ((HB3.out.mono (by have := HZ2.out; omega)).trans t4)
    have HV4 : Hid (Below V.heap.size V w4) := Lib.hid (HB2.out.trans (HB34.out.mono (by omega)))
    have HQ4 : Hid (w4.cell? ⟨V.heap.size, 0, none⟩ = some (.int .i64 e) ∧ w4.cell? ⟨V.heap.size, 1, none⟩ = some (.int .i64 p) ∧ w4.cell? ⟨V.heap.size, 2, none⟩ = some (.slice A ms.length cap)) := Lib.hid ⟨(HB34.out.cell (p := ⟨V.heap.size, 0, none⟩) hzW).trans HQ2.out.1, (HB34.out.cell (p := ⟨V.heap.size, 1, none⟩) hzW).trans HQ2.out.2.1, (HB34.out.cell (p := ⟨V.heap.size, 2, none⟩) hzW).trans HQ2.out.2.2⟩
    have HW4 : Hid (Wr w4 0 W1.heap.size v4 (putV e p ms)) := Lib.hid hz4.wr
    have hzb : W1.heap.size < w4.heap.size := World.block_lt_of_cell? w4 _ hz4.wr.cell
    have HZB := Lib.hid hzb
    clear hz4 t4 HQ2 HWR2 HW3 HS3 HB34 hzb
    go_wp2_with fail
    go_at_call 25
    refine (read_any bA bc B w4 ((HB0.out.below HV4.out).more HV4.out.size) hB).mono ?_
    rintro en w5 ⟨b2, rfl, rd5, hb5, hb2⟩
    have r6 : Rd (w5.alloc (.cells #[.slice bA B.length bc, .int .i64 0, .int .i64 0] 62)) b2 b2 B 0 := rd5.alloc _
    have hb6 : Below w4.heap.size w4 (w5.alloc (.cells #[.slice bA B.length bc, .int .i64 0, .int .i64 0] 62)) := hb5.alloc hb5.size _
    have z6 : (w5.alloc (.cells #[.slice bA B.length bc, .int .i64 0, .int .i64 0] 62)).heap.size = w5.heap.size + 1 := by simp
    have h25 : b2 < w5.heap.size := rd5.lt
    obtain ⟨w6, hw6⟩ : ∃ w6, w6 = w5.alloc (.cells #[.slice bA B.length bc, .int .i64 0, .int .i64 0] 62) := ⟨_, rfl⟩
    have m0 : w6.cell? ⟨w5.heap.size, 0, none⟩ = some (.slice bA B.length bc) := by rw [hw6]; simp [go_sem]
    have m1 : w6.cell? ⟨w5.heap.size, 1, none⟩ = some (.int .i64 0) := by rw [hw6]; simp [go_sem]
    have m2 : w6.cell? ⟨w5.heap.size, 2, none⟩ = some (.int .i64 0) := by rw [hw6]; simp [go_sem]
    have mf : ∀ j, w6.frozen? ⟨w5.heap.size, j, none⟩ = false := fun j => by rw [hw6]; simp [go_sem]
    rw [← hw6] at r6 hb6 z6
    have HR6 := Lib.hid r6
    have HB6 := Lib.hid hb6
    have HZ6 := Lib.hid z6
    have H25 : Hid (b2 < w5.heap.size ∧ w4.heap.size ≤ b2) := Lib.hid ⟨h25, hb2⟩
    have HM6 : Hid (Mr V.heap.size w6 w5.heap.size B 0 0) := Lib.hid ⟨⟨bA, bc, m0, HB0.out.below (HV4.out.trans (hb6.mono HV4.out.size))⟩, m1, m2, mf, Nat.zero_le _, by have := HV4.out.size; omega⟩
    have HW6 := Lib.hid hw6
    clear rd5 hb5 hb2 r6 hb6 z6 h25 hw6 m0 m1 m2 mf
    obtain ⟨G, hG⟩ : ∃ G, G = getV B 0 := ⟨_, rfl⟩
    have HGV := Lib.hid hG
    clear hG
    go_wp2_with fail
    rw [← HW6.out]
    clear HW6
    go_at_call 26
    refine (vget_any2 b2 b2 B 0 w6 HR6.out).mono ?_
    unfold VGetP
    rw [← HGV.out]
    rintro en w7 ⟨A7, n7, c7, rfl, rfl, so7, rd7, tn7⟩
    have HX7 : Hid (Mx V.heap.size w7 w5.heap.size B B 0) := Lib.hid ⟨0, HM6.out.tnK tn7 (by have := H25.out.1; omega) (fun k hk e9 => by have := H25.out.2; have := HV4.out.size; omega), fun _ => rfl⟩
    have HS7 := Lib.hid so7
    have HR7 := Lib.hid rd7
    have HT7 := Lib.hid tn7
    clear so7 rd7 tn7 HM6 HR6
    go_wp2_with fail
    go_at_call 27
    refine (rget_any2 w5.heap.size B B 0 w7 HX7.out).mono ?_
    unfold RGetP
    rw [← HGV.out]
    rintro en w8 ⟨A8, n8, c8, rfl, rfl, so8, mx8, tn8⟩
    have HS8 := Lib.hid so8
    have HM8 := Lib.hid mx8
    have HT8 := Lib.hid tn8
    clear so8 mx8 tn8
    go_upto_region 7 with fail
    obtain ⟨W9, hW9⟩ : ∃ W9, W9 = (w8.alloc (.cells #[.int .i64 G.e, .int .i64 G.p, .slice A7 G.ms.length c7] 37)).alloc (.cells #[.int .i64 G.e, .int .i64 G.p, .slice A8 G.ms.length c8] 29) := ⟨_, rfl⟩
    rw [← hW9]
    obtain ⟨E9, hE9⟩ : ∃ E9, E9 = (if G.r = 0 ∧ 0 < G.l.length then (10 : Int) else G.r) := ⟨_, rfl⟩
    have HE9 := Lib.hid hE9
    have h58 : w6.heap.size ≤ w8.heap.size := Nat.le_trans HT7.out.size HT8.out.size
    have z9 : W9.heap.size = w8.heap.size + 2 := by rw [hW9]; simp
    have HGH : Hid (Gh V W9 V.heap.size W1.heap.size v4 b2 w5.heap.size w8.heap.size (w8.heap.size + 1) w6.heap.size) := Lib.hid (by
      have a1 := HZ1.out
      have a2 := HZB.out
      have a3 := H25.out
      have a4 := HZ6.out
      refine ⟨by omega, by omega, by omega, by omega, by omega, by omega, by omega, by omega, by omega, fun k ek => ?_⟩
      have := (HW4.out.ob.lt k ek).2
      omega)
    have T9 : Below w8.heap.size w8 W9 := by rw [hW9]; exact ((Below.refl _ _).alloc (Nat.le_refl _) _).alloc (by simp) _
    have T69 : Tn (fun k => k = b2 ∨ k = w5.heap.size) w6 W9 := ((HT7.out.mono fun _ _ h => .inl h).then (HT8.out.mono fun _ _ h => .inr h)).then (Tn.ofNew T9)
    have T49 : Tn (fun k => k = b2 ∨ k = w5.heap.size) w4 W9 := (Tn.ofNew HB6.out).then T69
    have HG0 : Hid (Gb V W9 e p ms A cap V.heap.size W1.heap.size v4 b2 b2 w5.heap.size B G A7 c7 w8.heap.size A8 c8 (w8.heap.size + 1) w6.heap.size false false W9) := Lib.hid (by
      have g := HGH.out
      have hbl : Below V.heap.size V W9 := HV4.out.trans (T49.below HV4.out.size (fun k _ e9 => by have := g.v2; have := g.h23; omega))
      exact ⟨Nat.le_refl _, hbl, T49.cell HQ4.out.1 (by have := g.n0; show ¬ (V.heap.size = b2 ∨ V.heap.size = w5.heap.size); omega), T49.cell HQ4.out.2.1 (by have := g.n0; show ¬ (V.heap.size = b2 ∨ V.heap.size = w5.heap.size); omega), T49.cell HQ4.out.2.2 (by have := g.n0; show ¬ (V.heap.size = b2 ∨ V.heap.size = w5.heap.size); omega), by rw [hW9]; simp [go_sem], by rw [hW9]; simp [go_sem], by rw [hW9]; simp [go_sem], by rw [hW9]; simp [go_sem], by rw [hW9]; simp [go_sem], by rw [hW9]; simp [go_sem], HS0.out.below hbl, HW4.out.tn T49 (by have := g.n1; omega) (fun k ek => by have := g.nv k ek; omega),
        (HS7.out.tn HT8.out (fun k ek => by have := (HS7.out.lt k ek).1; have := g.x3; omega)).below T9, (HS8.out.more HT7.out.size).below T9, fun _ => (HR7.out.tn HT8.out (fun k hk e9 => by have := g.h23; omega)).below T9, fun _ => HM8.out.below T9⟩)
    have hmlp := putV_len e p ms
    clear hE9 hW9 z9 T9 T69 T49 h58 HS7 HS8 HR7 HM8 HT7 HT8 HW4 HQ4 HB6 HB3 HX7
    apply region_GP (HU e p ms W9.heap.size) (fun y z wx => Gb V W9 e p ms A cap V.heap.size W1.heap.size v4 b2 b2 w5.heap.size B G A7 c7 w8.heap.size A8 c8 (w8.heap.size + 1) w6.heap.size y z wx) 26 28 [.v (.bool true), .v (.bool true), .v (.agg #[.int .i64 e, .int .i64 p, .slice A ms.length cap]), .t, .v (.bool (rightV e p ms)), .v (.agg #[.int .i64 e, .int .i64 p, .slice A ms.length cap]), .v (.bool (rightV e p ms)), .v (.bool true), .v (.bool true), .v (.bool true), .v (.pointer (some ⟨W1.heap.size, 0, none⟩)), .s, .v (.string (strB (putV e p ms))), .v (.agg #[.int .i64 e, .int .i64 p, .slice A ms.length cap]), .s, .v (.string (strB (putV e p ms))), .v (.bool true), .v (.bool true), .v (.bool true), .v (.agg #[.int .i64 G.e, .int .i64 G.p, .slice A7 G.ms.length c7]), .v (.agg #[.int .i64 G.e, .int .i64 G.p, .slice A7 G.ms.length c7]), .v (.agg #[.int .i64 G.e, .int .i64 G.p, .slice A8 G.ms.length c8]), .v (.bool true), .v (.bool true), .v (.bool true), .v (.pointer (some ⟨b2, 0, none⟩)), .v (.int .i64 E9), .v (.pointer (some ⟨w5.heap.size, 0, none⟩)), .v (.int .i64 E9), .v (.bool true), .v (.bool true), .v (.bool true)] (.v undef)
    case hm => kernel_rfl
    case hf => kernel_rfl
    case hp => kernel_rfl
    case hQ => exact (by intro c x y w e h; exact And.intro (e.symm.trans (And.left h)) (And.right h))
    case hF => intro vs; simp only [putAll, Act.put, List.setIfInBounds_toArray, List.set_cons_zero, List.set_cons_succ, Nat.reduceAdd]; rfl
    case h0 => exact HG0.out.below ⟨rfl, rfl, rfl, Nat.le_refl _, fun _ _ => rfl⟩
    case hstep =>
      repeat' (first | exact AllOps.nil | apply AllOps.cons)
      · intro vs yb zb wx hG hd hbp hcp K hK
        replace hK : ∀ (uu : Value) (w' : World), ((fun y z wx => Gb V W9 e p ms A cap V.heap.size W1.heap.size v4 b2 b2 w5.heap.size B G A7 c7 w8.heap.size A8 c8 (w8.heap.size + 1) w6.heap.size y z wx)) yb zb w' → (∀ y u, HU e p ms W9.heap.size y u wx → HU e p ms W9.heap.size y u w') → HU e p ms W9.heap.size (.v (.bool true)) uu w' → K _ w' := hK
        simp only [Act.put, List.setIfInBounds_toArray, List.set_cons_zero, List.set_cons_succ] at hK ⊢
        have HK := Lib.hid hK
        have HG := Lib.hid hG
        clear hK hd
        have HGS := Lib.hid HG.out.size
        go_simp
        go_at_call 9
        refine (awake_any wx).mono ?_
        rintro en w9 ⟨rfl, hb⟩
        exact HK.out _ _ (HG.out.below hb) (fun y u h9 => HU.mono h9 hb) (rfl)
      · intro vs yb zb wx hG hd hbp hcp K hK
        have e0 : vs 0 = .bool true := hd.get (j := 0) (by simp [depsOf, Region.binds])
        replace hK : ∀ (uu : Value) (w' : World), ((fun y z wx => Gb V W9 e p ms A cap V.heap.size W1.heap.size v4 b2 b2 w5.heap.size B G A7 c7 w8.heap.size A8 c8 (w8.heap.size + 1) w6.heap.size y z wx)) yb zb w' → (∀ y u, HU e p ms W9.heap.size y u wx → HU e p ms W9.heap.size y u w') → HU e p ms W9.heap.size (.v (.bool true)) uu w' → K _ w' := hK
        simp only [Act.put, List.setIfInBounds_toArray, List.set_cons_zero, List.set_cons_succ, e0] at hK ⊢
        have HK := Lib.hid hK
        have HG := Lib.hid hG
        clear hK hd e0
        clear hG
        go_simp
        exact HK.out _ _ HG.out (fun _ _ h9 => h9) rfl
      · intro vs yb zb wx hG hd hbp hcp K hK
        have e1 : vs 1 = .bool true := hd.get (j := 1) (by simp [depsOf, Region.binds])
        replace hK : ∀ (uu : Value) (w' : World), ((fun y z wx => Gb V W9 e p ms A cap V.heap.size W1.heap.size v4 b2 b2 w5.heap.size B G A7 c7 w8.heap.size A8 c8 (w8.heap.size + 1) w6.heap.size y z wx)) yb zb w' → (∀ y u, HU e p ms W9.heap.size y u wx → HU e p ms W9.heap.size y u w') → HU e p ms W9.heap.size (.v (.agg #[.int .i64 e, .int .i64 p, .slice A ms.length cap])) uu w' → K _ w' := hK
        simp only [Act.put, List.setIfInBounds_toArray, List.set_cons_zero, List.set_cons_succ, e1] at hK ⊢
        have HK := Lib.hid hK
        have HG := Lib.hid hG
        clear hK hd e1
        have q0 := HG.out.c0
        have q1 := HG.out.c1
        have q2 := HG.out.c2
        have qx0 := HG.out.x0
        have qx1 := HG.out.x1
        have qx2 := HG.out.x2
        have qy0 := HG.out.y0
        have qy1 := HG.out.y1
        have qy2 := HG.out.y2
        clear hG
        go_simp
        exact HK.out _ _ HG.out (fun _ _ h9 => h9) rfl
      · intro vs yb zb wx hG hd hbp hcp K hK
        have e1 : vs 1 = .bool true := hd.get (j := 1) (by simp [depsOf, Region.binds])
        have e2 : vs 2 = .agg #[.int .i64 e, .int .i64 p, .slice A ms.length cap] := hd.get (j := 2) (by simp [depsOf, Region.binds])
        replace hK : ∀ (uu : Value) (w' : World), ((fun y z wx => Gb V W9 e p ms A cap V.heap.size W1.heap.size v4 b2 b2 w5.heap.size B G A7 c7 w8.heap.size A8 c8 (w8.heap.size + 1) w6.heap.size y z wx)) yb zb w' → (∀ y u, HU e p ms W9.heap.size y u wx → HU e p ms W9.heap.size y u w') → HU e p ms W9.heap.size (.t) uu w' → K _ w' := hK
        simp only [Act.put, List.setIfInBounds_toArray, List.set_cons_zero, List.set_cons_succ, e1, e2] at hK ⊢
        have HK := Lib.hid hK
        have HG := Lib.hid hG
        clear hK hd e1 e2
        have HGS := Lib.hid HG.out.size
        have HSM := Lib.hid HG.out.sm
        have HVS := Lib.hid HG.out.bl.size
        clear hG
        go_simp
        go_at_call 24
        refine (lto_any e p V.heap.size A cap ms wx HSM.out HVS.out hml).mono ?_
        rintro en w9 ⟨A9, c9, rfl, so9, hb⟩
        exact HK.out _ _ (HG.out.below hb) (fun y u h9 => HU.mono h9 hb) (⟨A9, c9, rfl, so9.more HGS.out⟩)
      · intro vs yb zb wx hG hd hbp hcp K hK
        have e1 : vs 1 = .bool true := hd.get (j := 1) (by simp [depsOf, Region.binds])
        obtain ⟨A3, d3, e3, r3⟩ : ∃ A' c', vs 3 = .agg #[.int .i64 e, .int .i64 p, .slice A' ms.length c'] ∧ So encI 1 wx W9.heap.size 3 (.slice A' ms.length c') ms := hd.get (j := 3) (by simp [depsOf, Region.binds])
        replace hK : ∀ (uu : Value) (w' : World), ((fun y z wx => Gb V W9 e p ms A cap V.heap.size W1.heap.size v4 b2 b2 w5.heap.size B G A7 c7 w8.heap.size A8 c8 (w8.heap.size + 1) w6.heap.size y z wx)) yb zb w' → (∀ y u, HU e p ms W9.heap.size y u wx → HU e p ms W9.heap.size y u w') → HU e p ms W9.heap.size (.v (.bool (rightV e p ms))) uu w' → K _ w' := hK
        simp only [Act.put, List.setIfInBounds_toArray, List.set_cons_zero, List.set_cons_succ, e1, e3] at hK ⊢
        have HK := Lib.hid hK
        have HG := Lib.hid hG
        clear hK hd e1 e3
        clear hG
        go_simp
        go_at_call 19
        refine (vright_any e p wx.heap.size A3 _ d3 ms wx rfl (r3.sr encI_len).1 (Nat.le_refl _)).mono ?_
        rintro en w9 ⟨rfl, hb⟩
        exact HK.out _ _ (HG.out.below hb) (fun y u h9 => HU.mono h9 hb) (rfl)
      · intro vs yb zb wx hG hd hbp hcp K hK
        have e1 : vs 1 = .bool true := hd.get (j := 1) (by simp [depsOf, Region.binds])
        replace hK : ∀ (uu : Value) (w' : World), ((fun y z wx => Gb V W9 e p ms A cap V.heap.size W1.heap.size v4 b2 b2 w5.heap.size B G A7 c7 w8.heap.size A8 c8 (w8.heap.size + 1) w6.heap.size y z wx)) yb zb w' → (∀ y u, HU e p ms W9.heap.size y u wx → HU e p ms W9.heap.size y u w') → HU e p ms W9.heap.size (.v (.agg #[.int .i64 e, .int .i64 p, .slice A ms.length cap])) uu w' → K _ w' := hK
        simp only [Act.put, List.setIfInBounds_toArray, List.set_cons_zero, List.set_cons_succ, e1] at hK ⊢
        have HK := Lib.hid hK
        have HG := Lib.hid hG
        clear hK hd e1
        have q0 := HG.out.c0
        have q1 := HG.out.c1
        have q2 := HG.out.c2
        have qx0 := HG.out.x0
        have qx1 := HG.out.x1
        have qx2 := HG.out.x2
        have qy0 := HG.out.y0
        have qy1 := HG.out.y1
        have qy2 := HG.out.y2
        clear hG
        go_simp
        exact HK.out _ _ HG.out (fun _ _ h9 => h9) rfl
      · intro vs yb zb wx hG hd hbp hcp K hK
        have e1 : vs 1 = .bool true := hd.get (j := 1) (by simp [depsOf, Region.binds])
        have e5 : vs 5 = .agg #[.int .i64 e, .int .i64 p, .slice A ms.length cap] := hd.get (j := 5) (by simp [depsOf, Region.binds])
        replace hK : ∀ (uu : Value) (w' : World), ((fun y z wx => Gb V W9 e p ms A cap V.heap.size W1.heap.size v4 b2 b2 w5.heap.size B G A7 c7 w8.heap.size A8 c8 (w8.heap.size + 1) w6.heap.size y z wx)) yb zb w' → (∀ y u, HU e p ms W9.heap.size y u wx → HU e p ms W9.heap.size y u w') → HU e p ms W9.heap.size (.v (.bool (rightV e p ms))) uu w' → K _ w' := hK
        simp only [Act.put, List.setIfInBounds_toArray, List.set_cons_zero, List.set_cons_succ, e1, e5] at hK ⊢
        have HK := Lib.hid hK
        have HG := Lib.hid hG
        clear hK hd e1 e5
        have HGS := Lib.hid HG.out.size
        have HSM := Lib.hid HG.out.sm
        have HVS := Lib.hid HG.out.bl.size
        clear hG
        go_simp
        go_at_call 20
        refine (rright_any e p V.heap.size A _ cap ms wx rfl HSM.out HVS.out).mono ?_
        rintro en w9 ⟨rfl, hb⟩
        exact HK.out _ _ (HG.out.below hb) (fun y u h9 => HU.mono h9 hb) (rfl)
      · intro vs yb zb wx hG hd hbp hcp K hK
        have e1 : vs 1 = .bool true := hd.get (j := 1) (by simp [depsOf, Region.binds])
        have e4 : vs 4 = .bool (rightV e p ms) := hd.get (j := 4) (by simp [depsOf, Region.binds])
        have e6 : vs 6 = .bool (rightV e p ms) := hd.get (j := 6) (by simp [depsOf, Region.binds])
        replace hK : ∀ (uu : Value) (w' : World), ((fun y z wx => Gb V W9 e p ms A cap V.heap.size W1.heap.size v4 b2 b2 w5.heap.size B G A7 c7 w8.heap.size A8 c8 (w8.heap.size + 1) w6.heap.size y z wx)) yb zb w' → (∀ y u, HU e p ms W9.heap.size y u wx → HU e p ms W9.heap.size y u w') → HU e p ms W9.heap.size (.v (.bool true)) uu w' → K _ w' := hK
        simp only [Act.put, List.setIfInBounds_toArray, List.set_cons_zero, List.set_cons_succ, e1, e4, e6] at hK ⊢
        have HK := Lib.hid hK
        have HG := Lib.hid hG
        clear hK hd e1 e4 e6
        clear hG
        generalize rightV e p ms = rb at *
        cases rb
        all_goals
          go_simp
          exact HK.out _ _ HG.out (fun _ _ h9 => h9) rfl
      · intro vs yb zb wx hG hd hbp hcp K hK
        have e1 : vs 1 = .bool true := hd.get (j := 1) (by simp [depsOf, Region.binds])
        have e7 : vs 7 = .bool true := hd.get (j := 7) (by simp [depsOf, Region.binds])
        replace hK : ∀ (uu : Value) (w' : World), ((fun y z wx => Gb V W9 e p ms A cap V.heap.size W1.heap.size v4 b2 b2 w5.heap.size B G A7 c7 w8.heap.size A8 c8 (w8.heap.size + 1) w6.heap.size y z wx)) yb zb w' → (∀ y u, HU e p ms W9.heap.size y u wx → HU e p ms W9.heap.size y u w') → HU e p ms W9.heap.size (.v (.bool true)) uu w' → K _ w' := hK
        simp only [Act.put, List.setIfInBounds_toArray, List.set_cons_zero, List.set_cons_succ, e1, e7] at hK ⊢
        have HK := Lib.hid hK
        have HG := Lib.hid hG
        clear hK hd e1 e7
        clear hG
        go_simp
        exact HK.out _ _ HG.out (fun _ _ h9 => h9) rfl
      · intro vs yb zb wx hG hd hbp hcp K hK
        have e8 : vs 8 = .bool true := hd.get (j := 8) (by simp [depsOf, Region.binds])
        replace hK : ∀ (uu : Value) (w' : World), ((fun y z wx => Gb V W9 e p ms A cap V.heap.size W1.heap.size v4 b2 b2 w5.heap.size B G A7 c7 w8.heap.size A8 c8 (w8.heap.size + 1) w6.heap.size y z wx)) yb zb w' → (∀ y u, HU e p ms W9.heap.size y u wx → HU e p ms W9.heap.size y u w') → HU e p ms W9.heap.size (.v (.bool true)) uu w' → K _ w' := hK
        simp only [Act.put, List.setIfInBounds_toArray, List.set_cons_zero, List.set_cons_succ, e8] at hK ⊢
        have HK := Lib.hid hK
        have HG := Lib.hid hG
        clear hK hd e8
        clear hG
        go_simp
        exact HK.out _ _ HG.out (fun _ _ h9 => h9) rfl
      · intro vs yb zb wx hG hd hbp hcp K hK
        have e9 : vs 9 = .bool true := hd.get (j := 9) (by simp [depsOf, Region.binds])
        replace hK : ∀ (uu : Value) (w' : World), ((fun y z wx => Gb V W9 e p ms A cap V.heap.size W1.heap.size v4 b2 b2 w5.heap.size B G A7 c7 w8.heap.size A8 c8 (w8.heap.size + 1) w6.heap.size y z wx)) yb zb w' → (∀ y u, HU e p ms W9.heap.size y u wx → HU e p ms W9.heap.size y u w') → HU e p ms W9.heap.size (.v (.pointer (some ⟨W1.heap.size, 0, none⟩))) uu w' → K _ w' := hK
        simp only [Act.put, List.setIfInBounds_toArray, List.set_cons_zero, List.set_cons_succ, e9] at hK ⊢
        have HK := Lib.hid hK
        have HG := Lib.hid hG
        clear hK hd e9
        clear hG
        go_simp
        exact HK.out _ _ HG.out (fun _ _ h9 => h9) rfl
      · intro vs yb zb wx hG hd hbp hcp K hK
        have e9 : vs 9 = .bool true := hd.get (j := 9) (by simp [depsOf, Region.binds])
        have e10 : vs 10 = .pointer (some ⟨W1.heap.size, 0, none⟩) := hd.get (j := 10) (by simp [depsOf, Region.binds])
        replace hK : ∀ (uu : Value) (w' : World), ((fun y z wx => Gb V W9 e p ms A cap V.heap.size W1.heap.size v4 b2 b2 w5.heap.size B G A7 c7 w8.heap.size A8 c8 (w8.heap.size + 1) w6.heap.size y z wx)) yb zb w' → (∀ y u, HU e p ms W9.heap.size y u wx → HU e p ms W9.heap.size y u w') → HU e p ms W9.heap.size (.s) uu w' → K _ w' := hK
        simp only [Act.put, List.setIfInBounds_toArray, List.set_cons_zero, List.set_cons_succ, e9, e10] at hK ⊢
        have HK := Lib.hid hK
        have HG := Lib.hid hG
        clear hK hd e9 e10
        have HGS := Lib.hid HG.out.size
        have HWR := Lib.hid HG.out.wr
        clear hG
        go_simp
        go_at_call 28
        refine (wbytes_any 0 W1.heap.size v4 (putV e p ms) wx HWR.out (by have := putV_len e p ms; omega)).mono ?_
        rintro en w9 ⟨A9, c9, rfl, so9, hb⟩
        exact HK.out _ _ (HG.out.below hb) (fun y u h9 => HU.mono h9 hb) (⟨A9, _, c9, rfl, rfl, so9.moreB HGS.out⟩)
      · intro vs yb zb wx hG hd hbp hcp K hK
        have e9 : vs 9 = .bool true := hd.get (j := 9) (by simp [depsOf, Region.binds])
        obtain ⟨A11, n11, d11, e11, rfl, r11⟩ : ∃ A' n' c', vs 11 = .slice A' n' c' ∧ n' = (putV e p ms).length ∧ Ob wx W9.heap.size (.slice A' n' c') (putV e p ms) := hd.get (j := 11) (by simp [depsOf, Region.binds])
        replace hK : ∀ (uu : Value) (w' : World), ((fun y z wx => Gb V W9 e p ms A cap V.heap.size W1.heap.size v4 b2 b2 w5.heap.size B G A7 c7 w8.heap.size A8 c8 (w8.heap.size + 1) w6.heap.size y z wx)) yb zb w' → (∀ y u, HU e p ms W9.heap.size y u wx → HU e p ms W9.heap.size y u w') → HU e p ms W9.heap.size (.v (.string (strB (putV e p ms)))) uu w' → K _ w' := hK
        simp only [Act.put, List.setIfInBounds_toArray, List.set_cons_zero, List.set_cons_succ, e9, e11] at hK ⊢
        have HK := Lib.hid hK
        have HG := Lib.hid hG
        clear hK hd e9 e11
        have hq := fun ww (h9 : Ob ww W9.heap.size (.slice A11 (putV e p ms).length d11) (putV e p ms)) => bs_str (w := ww) h9.bs.1 rfl
        have hq1 := hq _ r11
        clear hG hq
        go_simp
        exact HK.out _ _ HG.out (fun _ _ h9 => h9) rfl
      · intro vs yb zb wx hG hd hbp hcp K hK
        have e9 : vs 9 = .bool true := hd.get (j := 9) (by simp [depsOf, Region.binds])
        replace hK : ∀ (uu : Value) (w' : World), ((fun y z wx => Gb V W9 e p ms A cap V.heap.size W1.heap.size v4 b2 b2 w5.heap.size B G A7 c7 w8.heap.size A8 c8 (w8.heap.size + 1) w6.heap.size y z wx)) yb zb w' → (∀ y u, HU e p ms W9.heap.size y u wx → HU e p ms W9.heap.size y u w') → HU e p ms W9.heap.size (.v (.agg #[.int .i64 e, .int .i64 p, .slice A ms.length cap])) uu w' → K _ w' := hK
        simp only [Act.put, List.setIfInBounds_toArray, List.set_cons_zero, List.set_cons_succ, e9] at hK ⊢
        have HK := Lib.hid hK
        have HG := Lib.hid hG
        clear hK hd e9
        have q0 := HG.out.c0
        have q1 := HG.out.c1
        have q2 := HG.out.c2
        have qx0 := HG.out.x0
        have qx1 := HG.out.x1
        have qx2 := HG.out.x2
        have qy0 := HG.out.y0
        have qy1 := HG.out.y1
        have qy2 := HG.out.y2
        clear hG
        go_simp
        exact HK.out _ _ HG.out (fun _ _ h9 => h9) rfl
      · intro vs yb zb wx hG hd hbp hcp K hK
        have e9 : vs 9 = .bool true := hd.get (j := 9) (by simp [depsOf, Region.binds])
        have e13 : vs 13 = .agg #[.int .i64 e, .int .i64 p, .slice A ms.length cap] := hd.get (j := 13) (by simp [depsOf, Region.binds])
        replace hK : ∀ (uu : Value) (w' : World), ((fun y z wx => Gb V W9 e p ms A cap V.heap.size W1.heap.size v4 b2 b2 w5.heap.size B G A7 c7 w8.heap.size A8 c8 (w8.heap.size + 1) w6.heap.size y z wx)) yb zb w' → (∀ y u, HU e p ms W9.heap.size y u wx → HU e p ms W9.heap.size y u w') → HU e p ms W9.heap.size (.s) uu w' → K _ w' := hK
        simp only [Act.put, List.setIfInBounds_toArray, List.set_cons_zero, List.set_cons_succ, e9, e13] at hK ⊢
        have HK := Lib.hid hK
        have HG := Lib.hid hG
        clear hK hd e9 e13
        have HGS := Lib.hid HG.out.size
        have HSM := Lib.hid HG.out.sm
        have HVS := Lib.hid HG.out.bl.size
        clear hG
        go_simp
        go_at_call 29
        refine (rput_any e p hE.out hP.out V.heap.size A _ cap ms wx rfl HSM.out HVS.out hR.out (by omega)).mono ?_
        rintro en w9 ⟨A9, n9, c9, rfl, hn9, so9, hb⟩
        exact HK.out _ _ (HG.out.below hb) (fun y u h9 => HU.mono h9 hb) (⟨A9, n9, c9, rfl, hn9, so9.moreB HGS.out⟩)
      · intro vs yb zb wx hG hd hbp hcp K hK
        have e9 : vs 9 = .bool true := hd.get (j := 9) (by simp [depsOf, Region.binds])
        obtain ⟨A14, n14, d14, e14, rfl, r14⟩ : ∃ A' n' c', vs 14 = .slice A' n' c' ∧ n' = (putV e p ms).length ∧ Ob wx W9.heap.size (.slice A' n' c') (putV e p ms) := hd.get (j := 14) (by simp [depsOf, Region.binds])
        replace hK : ∀ (uu : Value) (w' : World), ((fun y z wx => Gb V W9 e p ms A cap V.heap.size W1.heap.size v4 b2 b2 w5.heap.size B G A7 c7 w8.heap.size A8 c8 (w8.heap.size + 1) w6.heap.size y z wx)) yb zb w' → (∀ y u, HU e p ms W9.heap.size y u wx → HU e p ms W9.heap.size y u w') → HU e p ms W9.heap.size (.v (.string (strB (putV e p ms)))) uu w' → K _ w' := hK
        simp only [Act.put, List.setIfInBounds_toArray, List.set_cons_zero, List.set_cons_succ, e9, e14] at hK ⊢
        have HK := Lib.hid hK
        have HG := Lib.hid hG
        clear hK hd e9 e14
        have hq := fun ww (h9 : Ob ww W9.heap.size (.slice A14 (putV e p ms).length d14) (putV e p ms)) => bs_str (w := ww) h9.bs.1 rfl
        have hq1 := hq _ r14
        clear hG hq
        go_simp
        exact HK.out _ _ HG.out (fun _ _ h9 => h9) rfl
      · intro vs yb zb wx hG hd hbp hcp K hK
        have e9 : vs 9 = .bool true := hd.get (j := 9) (by simp [depsOf, Region.binds])
        have e12 : vs 12 = .string (strB (putV e p ms)) := hd.get (j := 12) (by simp [depsOf, Region.binds])
        have e15 : vs 15 = .string (strB (putV e p ms)) := hd.get (j := 15) (by simp [depsOf, Region.binds])
        replace hK : ∀ (uu : Value) (w' : World), ((fun y z wx => Gb V W9 e p ms A cap V.heap.size W1.heap.size v4 b2 b2 w5.heap.size B G A7 c7 w8.heap.size A8 c8 (w8.heap.size + 1) w6.heap.size y z wx)) yb zb w' → (∀ y u, HU e p ms W9.heap.size y u wx → HU e p ms W9.heap.size y u w') → HU e p ms W9.heap.size (.v (.bool true)) uu w' → K _ w' := hK
        simp only [Act.put, List.setIfInBounds_toArray, List.set_cons_zero, List.set_cons_succ, e9, e12, e15] at hK ⊢
        have HK := Lib.hid hK
        have HG := Lib.hid hG
        clear hK hd e9 e12 e15
        clear hG
        have ds : ∀ s : ByteArray, (s.toList == s.toList) = true := fun s => by simp
        go_simp
        exact HK.out _ _ HG.out (fun _ _ h9 => h9) rfl
      · intro vs yb zb wx hG hd hbp hcp K hK
        have e9 : vs 9 = .bool true := hd.get (j := 9) (by simp [depsOf, Region.binds])
        have e16 : vs 16 = .bool true := hd.get (j := 16) (by simp [depsOf, Region.binds])
        replace hK : ∀ (uu : Value) (w' : World), ((fun y z wx => Gb V W9 e p ms A cap V.heap.size W1.heap.size v4 b2 b2 w5.heap.size B G A7 c7 w8.heap.size A8 c8 (w8.heap.size + 1) w6.heap.size y z wx)) yb zb w' → (∀ y u, HU e p ms W9.heap.size y u wx → HU e p ms W9.heap.size y u w') → HU e p ms W9.heap.size (.v (.bool true)) uu w' → K _ w' := hK
        simp only [Act.put, List.setIfInBounds_toArray, List.set_cons_zero, List.set_cons_succ, e9, e16] at hK ⊢
        have HK := Lib.hid hK
        have HG := Lib.hid hG
        clear hK hd e9 e16
        clear hG
        go_simp
        exact HK.out _ _ HG.out (fun _ _ h9 => h9) rfl
      · intro vs yb zb wx hG hd hbp hcp K hK
        have e17 : vs 17 = .bool true := hd.get (j := 17) (by simp [depsOf, Region.binds])
        replace hK : ∀ (uu : Value) (w' : World), ((fun y z wx => Gb V W9 e p ms A cap V.heap.size W1.heap.size v4 b2 b2 w5.heap.size B G A7 c7 w8.heap.size A8 c8 (w8.heap.size + 1) w6.heap.size y z wx)) yb zb w' → (∀ y u, HU e p ms W9.heap.size y u wx → HU e p ms W9.heap.size y u w') → HU e p ms W9.heap.size (.v (.bool true)) uu w' → K _ w' := hK
        simp only [Act.put, List.setIfInBounds_toArray, List.set_cons_zero, List.set_cons_succ, e17] at hK ⊢
        have HK := Lib.hid hK
        have HG := Lib.hid hG
        clear hK hd e17
        clear hG
        go_simp
        exact HK.out _ _ HG.out (fun _ _ h9 => h9) rfl
      · intro vs yb zb wx hG hd hbp hcp K hK
        have e18 : vs 18 = .bool true := hd.get (j := 18) (by simp [depsOf, Region.binds])
        replace hK : ∀ (uu : Value) (w' : World), ((fun y z wx => Gb V W9 e p ms A cap V.heap.size W1.heap.size v4 b2 b2 w5.heap.size B G A7 c7 w8.heap.size A8 c8 (w8.heap.size + 1) w6.heap.size y z wx)) yb zb w' → (∀ y u, HU e p ms W9.heap.size y u wx → HU e p ms W9.heap.size y u w') → HU e p ms W9.heap.size (.v (.agg #[.int .i64 G.e, .int .i64 G.p, .slice A7 G.ms.length c7])) uu w' → K _ w' := hK
        simp only [Act.put, List.setIfInBounds_toArray, List.set_cons_zero, List.set_cons_succ, e18] at hK ⊢
        have HK := Lib.hid hK
        have HG := Lib.hid hG
        clear hK hd e18
        have q0 := HG.out.c0
        have q1 := HG.out.c1
        have q2 := HG.out.c2
        have qx0 := HG.out.x0
        have qx1 := HG.out.x1
        have qx2 := HG.out.x2
        have qy0 := HG.out.y0
        have qy1 := HG.out.y1
        have qy2 := HG.out.y2
        clear hG
        go_simp
        exact HK.out _ _ HG.out (fun _ _ h9 => h9) rfl
      · intro vs yb zb wx hG hd hbp hcp K hK
        have e18 : vs 18 = .bool true := hd.get (j := 18) (by simp [depsOf, Region.binds])
        have e19 : vs 19 = .agg #[.int .i64 G.e, .int .i64 G.p, .slice A7 G.ms.length c7] := hd.get (j := 19) (by simp [depsOf, Region.binds])
        replace hK : ∀ (uu : Value) (w' : World), ((fun y z wx => Gb V W9 e p ms A cap V.heap.size W1.heap.size v4 b2 b2 w5.heap.size B G A7 c7 w8.heap.size A8 c8 (w8.heap.size + 1) w6.heap.size y z wx)) yb zb w' → (∀ y u, HU e p ms W9.heap.size y u wx → HU e p ms W9.heap.size y u w') → HU e p ms W9.heap.size (.v (.agg #[.int .i64 G.e, .int .i64 G.p, .slice A7 G.ms.length c7])) uu w' → K _ w' := hK
        simp only [Act.put, List.setIfInBounds_toArray, List.set_cons_zero, List.set_cons_succ, e18, e19] at hK ⊢
        have HK := Lib.hid hK
        have HG := Lib.hid hG
        clear hK hd e18 e19
        clear hG
        go_simp
        go_at_call 13
        refine (lfrom_any _ _ _ _ _ wx).mono ?_
        rintro en w9 ⟨rfl, hb⟩
        exact HK.out _ _ (HG.out.below hb) (fun y u h9 => HU.mono h9 hb) (rfl)
      · intro vs yb zb wx hG hd hbp hcp K hK
        have e18 : vs 18 = .bool true := hd.get (j := 18) (by simp [depsOf, Region.binds])
        replace hK : ∀ (uu : Value) (w' : World), ((fun y z wx => Gb V W9 e p ms A cap V.heap.size W1.heap.size v4 b2 b2 w5.heap.size B G A7 c7 w8.heap.size A8 c8 (w8.heap.size + 1) w6.heap.size y z wx)) yb zb w' → (∀ y u, HU e p ms W9.heap.size y u wx → HU e p ms W9.heap.size y u w') → HU e p ms W9.heap.size (.v (.agg #[.int .i64 G.e, .int .i64 G.p, .slice A8 G.ms.length c8])) uu w' → K _ w' := hK
        simp only [Act.put, List.setIfInBounds_toArray, List.set_cons_zero, List.set_cons_succ, e18] at hK ⊢
        have HK := Lib.hid hK
        have HG := Lib.hid hG
        clear hK hd e18
        have q0 := HG.out.c0
        have q1 := HG.out.c1
        have q2 := HG.out.c2
        have qx0 := HG.out.x0
        have qx1 := HG.out.x1
        have qx2 := HG.out.x2
        have qy0 := HG.out.y0
        have qy1 := HG.out.y1
        have qy2 := HG.out.y2
        clear hG
        go_simp
        exact HK.out _ _ HG.out (fun _ _ h9 => h9) rfl
      · intro vs yb zb wx hG hd hbp hcp K hK
        have e18 : vs 18 = .bool true := hd.get (j := 18) (by simp [depsOf, Region.binds])
        have e20 : vs 20 = .agg #[.int .i64 G.e, .int .i64 G.p, .slice A7 G.ms.length c7] := hd.get (j := 20) (by simp [depsOf, Region.binds])
        have e21 : vs 21 = .agg #[.int .i64 G.e, .int .i64 G.p, .slice A8 G.ms.length c8] := hd.get (j := 21) (by simp [depsOf, Region.binds])
        replace hK : ∀ (uu : Value) (w' : World), ((fun y z wx => Gb V W9 e p ms A cap V.heap.size W1.heap.size v4 b2 b2 w5.heap.size B G A7 c7 w8.heap.size A8 c8 (w8.heap.size + 1) w6.heap.size y z wx)) yb zb w' → (∀ y u, HU e p ms W9.heap.size y u wx → HU e p ms W9.heap.size y u w') → HU e p ms W9.heap.size (.v (.bool true)) uu w' → K _ w' := hK
        simp only [Act.put, List.setIfInBounds_toArray, List.set_cons_zero, List.set_cons_succ, e18, e20, e21] at hK ⊢
        have HK := Lib.hid hK
        have HG := Lib.hid hG
        clear hK hd e18 e20 e21
        have HS5 := Lib.hid (HG.out.s5.sr encI_len).1
        have HS6 := Lib.hid (HG.out.s6.sr encI_len).1
        clear hG
        go_simp
        go_at_call 12
        refine (same_any _ _ HS5.out HS6.out (Nat.le_refl _) (Nat.le_refl _)).mono ?_
        rintro en w9 ⟨rfl, hb⟩
        exact HK.out _ _ (HG.out.below hb) (fun y u h9 => HU.mono h9 hb) (rfl)
      · intro vs yb zb wx hG hd hbp hcp K hK
        have e18 : vs 18 = .bool true := hd.get (j := 18) (by simp [depsOf, Region.binds])
        have e22 : vs 22 = .bool true := hd.get (j := 22) (by simp [depsOf, Region.binds])
        replace hK : ∀ (uu : Value) (w' : World), ((fun y z wx => Gb V W9 e p ms A cap V.heap.size W1.heap.size v4 b2 b2 w5.heap.size B G A7 c7 w8.heap.size A8 c8 (w8.heap.size + 1) w6.heap.size y z wx)) yb zb w' → (∀ y u, HU e p ms W9.heap.size y u wx → HU e p ms W9.heap.size y u w') → HU e p ms W9.heap.size (.v (.bool true)) uu w' → K _ w' := hK
        simp only [Act.put, List.setIfInBounds_toArray, List.set_cons_zero, List.set_cons_succ, e18, e22] at hK ⊢
        have HK := Lib.hid hK
        have HG := Lib.hid hG
        clear hK hd e18 e22
        clear hG
        go_simp
        exact HK.out _ _ HG.out (fun _ _ h9 => h9) rfl
      · intro vs yb zb wx hG hd hbp hcp K hK
        have e23 : vs 23 = .bool true := hd.get (j := 23) (by simp [depsOf, Region.binds])
        replace hK : ∀ (uu : Value) (w' : World), ((fun y z wx => Gb V W9 e p ms A cap V.heap.size W1.heap.size v4 b2 b2 w5.heap.size B G A7 c7 w8.heap.size A8 c8 (w8.heap.size + 1) w6.heap.size y z wx)) yb zb w' → (∀ y u, HU e p ms W9.heap.size y u wx → HU e p ms W9.heap.size y u w') → HU e p ms W9.heap.size (.v (.bool true)) uu w' → K _ w' := hK
        simp only [Act.put, List.setIfInBounds_toArray, List.set_cons_zero, List.set_cons_succ, e23] at hK ⊢
        have HK := Lib.hid hK
        have HG := Lib.hid hG
        clear hK hd e23
        clear hG
        go_simp
        exact HK.out _ _ HG.out (fun _ _ h9 => h9) rfl
      · intro vs yb zb wx hG hd hbp hcp K hK
        have e24 : vs 24 = .bool true := hd.get (j := 24) (by simp [depsOf, Region.binds])
        replace hK : ∀ (uu : Value) (w' : World), ((fun y z wx => Gb V W9 e p ms A cap V.heap.size W1.heap.size v4 b2 b2 w5.heap.size B G A7 c7 w8.heap.size A8 c8 (w8.heap.size + 1) w6.heap.size y z wx)) yb zb w' → (∀ y u, HU e p ms W9.heap.size y u wx → HU e p ms W9.heap.size y u w') → HU e p ms W9.heap.size (.v (.pointer (some ⟨b2, 0, none⟩))) uu w' → K _ w' := hK
        simp only [Act.put, List.setIfInBounds_toArray, List.set_cons_zero, List.set_cons_succ, e24] at hK ⊢
        have HK := Lib.hid hK
        have HG := Lib.hid hG
        clear hK hd e24
        clear hG
        go_simp
        exact HK.out _ _ HG.out (fun _ _ h9 => h9) rfl
      · intro vs yb zb wx hG hd hbp hcp K hK
        have e24 : vs 24 = .bool true := hd.get (j := 24) (by simp [depsOf, Region.binds])
        have e25 : vs 25 = .pointer (some ⟨b2, 0, none⟩) := hd.get (j := 25) (by simp [depsOf, Region.binds])
        replace hK : ∀ (uu : Value) (w' : World), ((fun y z wx => Gb V W9 e p ms A cap V.heap.size W1.heap.size v4 b2 b2 w5.heap.size B G A7 c7 w8.heap.size A8 c8 (w8.heap.size + 1) w6.heap.size y z wx)) true zb w' → (∀ y u, HU e p ms W9.heap.size y u wx → HU e p ms W9.heap.size y u w') → HU e p ms W9.heap.size (.v (.int .i64 E9)) uu w' → K _ w' := hK
        simp only [Act.put, List.setIfInBounds_toArray, List.set_cons_zero, List.set_cons_succ, e24, e25] at hK ⊢
        have HK := Lib.hid hK
        have HG := Lib.hid hG
        clear hK hd e24 e25
        have HRD := Lib.hid (HG.out.rd (hbp rfl))
        clear hG
        go_simp
        go_at_call 30
        refine (rend_any b2 b2 G.l G.r wx HRD.out).mono ?_
        rintro en w9 ⟨rfl, hr9⟩
        exact HK.out _ _ (HG.out.end1 HGH.out hr9.tn) (fun y u h9 => HU.tn h9 hr9.tn HGH.out.w2) (by rw [HE9.out]; rfl)
      · intro vs yb zb wx hG hd hbp hcp K hK
        have e24 : vs 24 = .bool true := hd.get (j := 24) (by simp [depsOf, Region.binds])
        replace hK : ∀ (uu : Value) (w' : World), ((fun y z wx => Gb V W9 e p ms A cap V.heap.size W1.heap.size v4 b2 b2 w5.heap.size B G A7 c7 w8.heap.size A8 c8 (w8.heap.size + 1) w6.heap.size y z wx)) yb zb w' → (∀ y u, HU e p ms W9.heap.size y u wx → HU e p ms W9.heap.size y u w') → HU e p ms W9.heap.size (.v (.pointer (some ⟨w5.heap.size, 0, none⟩))) uu w' → K _ w' := hK
        simp only [Act.put, List.setIfInBounds_toArray, List.set_cons_zero, List.set_cons_succ, e24] at hK ⊢
        have HK := Lib.hid hK
        have HG := Lib.hid hG
        clear hK hd e24
        clear hG
        go_simp
        exact HK.out _ _ HG.out (fun _ _ h9 => h9) rfl
      · intro vs yb zb wx hG hd hbp hcp K hK
        have e24 : vs 24 = .bool true := hd.get (j := 24) (by simp [depsOf, Region.binds])
        have e27 : vs 27 = .pointer (some ⟨w5.heap.size, 0, none⟩) := hd.get (j := 27) (by simp [depsOf, Region.binds])
        replace hK : ∀ (uu : Value) (w' : World), ((fun y z wx => Gb V W9 e p ms A cap V.heap.size W1.heap.size v4 b2 b2 w5.heap.size B G A7 c7 w8.heap.size A8 c8 (w8.heap.size + 1) w6.heap.size y z wx)) yb true w' → (∀ y u, HU e p ms W9.heap.size y u wx → HU e p ms W9.heap.size y u w') → HU e p ms W9.heap.size (.v (.int .i64 E9)) uu w' → K _ w' := hK
        simp only [Act.put, List.setIfInBounds_toArray, List.set_cons_zero, List.set_cons_succ, e24, e27] at hK ⊢
        have HK := Lib.hid hK
        have HG := Lib.hid hG
        clear hK hd e24 e27
        have HMX := Lib.hid (HG.out.mx (hcp rfl))
        clear hG
        go_simp
        go_at_call 31
        refine (HMX.out.end_).mono ?_
        rintro en w9 ⟨rfl, ht9⟩
        exact HK.out _ _ (HG.out.end2 HGH.out ht9) (fun y u h9 => HU.tn h9 ht9 HGH.out.w3) (by rw [HE9.out]; rfl)
      · intro vs yb zb wx hG hd hbp hcp K hK
        have e24 : vs 24 = .bool true := hd.get (j := 24) (by simp [depsOf, Region.binds])
        have e26 : vs 26 = .int .i64 E9 := hd.get (j := 26) (by simp [depsOf, Region.binds])
        have e28 : vs 28 = .int .i64 E9 := hd.get (j := 28) (by simp [depsOf, Region.binds])
        replace hK : ∀ (uu : Value) (w' : World), ((fun y z wx => Gb V W9 e p ms A cap V.heap.size W1.heap.size v4 b2 b2 w5.heap.size B G A7 c7 w8.heap.size A8 c8 (w8.heap.size + 1) w6.heap.size y z wx)) yb zb w' → (∀ y u, HU e p ms W9.heap.size y u wx → HU e p ms W9.heap.size y u w') → HU e p ms W9.heap.size (.v (.bool true)) uu w' → K _ w' := hK
        simp only [Act.put, List.setIfInBounds_toArray, List.set_cons_zero, List.set_cons_succ, e24, e26, e28] at hK ⊢
        have HK := Lib.hid hK
        have HG := Lib.hid hG
        clear hK hd e24 e26 e28
        clear hG
        have de : (E9 == E9) = true := by simp
        go_simp
        exact HK.out _ _ HG.out (fun _ _ h9 => h9) rfl
      · intro vs yb zb wx hG hd hbp hcp K hK
        have e24 : vs 24 = .bool true := hd.get (j := 24) (by simp [depsOf, Region.binds])
        have e29 : vs 29 = .bool true := hd.get (j := 29) (by simp [depsOf, Region.binds])
        replace hK : ∀ (uu : Value) (w' : World), ((fun y z wx => Gb V W9 e p ms A cap V.heap.size W1.heap.size v4 b2 b2 w5.heap.size B G A7 c7 w8.heap.size A8 c8 (w8.heap.size + 1) w6.heap.size y z wx)) yb zb w' → (∀ y u, HU e p ms W9.heap.size y u wx → HU e p ms W9.heap.size y u w') → HU e p ms W9.heap.size (.v (.bool true)) uu w' → K _ w' := hK
        simp only [Act.put, List.setIfInBounds_toArray, List.set_cons_zero, List.set_cons_succ, e24, e29] at hK ⊢
        have HK := Lib.hid hK
        have HG := Lib.hid hG
        clear hK hd e24 e29
        clear hG
        go_simp
        exact HK.out _ _ HG.out (fun _ _ h9 => h9) rfl
      · intro vs yb zb wx hG hd hbp hcp K hK
        have e30 : vs 30 = .bool true := hd.get (j := 30) (by simp [depsOf, Region.binds])
        replace hK : ∀ (uu : Value) (w' : World), ((fun y z wx => Gb V W9 e p ms A cap V.heap.size W1.heap.size v4 b2 b2 w5.heap.size B G A7 c7 w8.heap.size A8 c8 (w8.heap.size + 1) w6.heap.size y z wx)) yb zb w' → (∀ y u, HU e p ms W9.heap.size y u wx → HU e p ms W9.heap.size y u w') → HU e p ms W9.heap.size (.v (.bool true)) uu w' → K _ w' := hK
        simp only [Act.put, List.setIfInBounds_toArray, List.set_cons_zero, List.set_cons_succ, e30] at hK ⊢
        have HK := Lib.hid hK
        have HG := Lib.hid hG
        clear hK hd e30
        clear hG
        go_simp
        exact HK.out _ _ HG.out (fun _ _ h9 => h9) rfl
    case hend =>
      intro vs wx hG hv
      have e31 : vs 31 = .bool true := hv 31 (by decide)
      have HB := Lib.hid hG.bl
      clear hG hv
      simp only [e31]
      go_wp2_with fail
      go_ret
      exact ⟨rfl, HB.out⟩

end Go.Proofs.Ytcgkbpjfbahleaa
namespace Go.Proofs.Ytcgkbpjfbahleaa
open Go.ChangeShapes Go.WideShapes Go.ChangeAt Go.RowKit Go.Deep Go.Joins

theorem cells_int : Try.prog.cellsOf 3 = 1 := by kernel_rfl
theorem cells_isl : Try.prog.cellsOf 22 = 1 := by kernel_rfl
theorem open_isr0 {H : Type} {enc : TypeId × Value → H} {W : World} {base fuel : Nat} {sp : Nat → Bool} {held : Bool} {cs : List Value} {x : DataW H × List MemPlace} (hf : DataW.trod enc Try.prog W base sp held fuel 22 cs = some x) :
    ∃ A cap l, cs = [.slice A l.length cap] ∧ Sr encI 1 W W.heap.size A cap l := by
  rcases open_ints Try.underlying22 Try.underlying3 cells_int hf with ⟨hcs, hx⟩ | ⟨a, len, cap, zs, hcs, _, hl, hm, hz, hx, hcell, hwz⟩
  · subst hcs
    exact ⟨none, 0, [], rfl, Sr.none_ _ _⟩
  · subst hcs
    have hzl : len ≤ zs.length := by rw [hz]; split <;> omega
    have hll : (zs.take len).length = len := by simp; omega
    refine ⟨some a, cap, zs.take len, by rw [hll], ⟨by rw [hll]; exact hl, hm, (fun h => by cases h), fun hn => ⟨a, rfl, ?_, fun i x hk j u hu => ?_⟩⟩⟩
    · rw [hll] at hn
      have := World.block_lt_of_cell? W _ (hcell 0 (by omega))
      rwa [el_block_of_add] at this
    · rw [List.getElem?_take] at hk
      split at hk
      · have hkz := (List.getElem?_eq_some_iff.1 hk).1
        obtain rfl : j = 0 := by
          have := (List.getElem?_eq_some_iff.1 hu).1
          rw [encI_len] at this; omega
        have : zs.getD i 0 = x := by simp [List.getD, hk]
        rw [Nat.mul_one, Nat.add_zero, hcell i hkz, this]
        exact hu
      · cases hk
set_option maxRecDepth 100000 in
theorem open_isr {H : Type} {enc : TypeId × Value → H} {W : World} {base : Nat} {v : Value} {d : DataW H} {p : List MemPlace}
    (hv : Value.okWide Try.prog W .any base 22 v) (h : DataW.Trod enc Try.prog W 0 (fun _ => true) true 22 v d p) :
    ∃ A cap l, v = .slice A l.length cap ∧ Sr encI 1 W W.heap.size A cap l := by
  obtain ⟨a1, n, cap, rfl⟩ := okWide_slice Try.underlying22 hv
  obtain ⟨fuel, hf⟩ := h
  obtain ⟨A, cap', l, hcs, hb⟩ := open_isr0 hf
  simp [Value.cells] at hcs
  obtain ⟨rfl, rfl, rfl⟩ := hcs
  exact ⟨_, _, l, rfl, hb⟩
end Go.Proofs.Ytcgkbpjfbahleaa
namespace Go.Proofs.Ytcgkbpjfbahleaa
open Go.ChangeShapes Go.WideShapes Go.ChangeAt Go.RowKit Go.Deep Go.Joins

/-- Each slice of a datum takes at most what memory holds. -/
def Sz {H : Type} (t : TypeId) (d : DataW H) : Prop := (DataW.weights Try.prog t d).all (· ≤ reachBytes) = true
theorem bytes_int : Try.prog.bytesOf 3 = 8 := by kernel_rfl
theorem sz_all {H : Type} {P : Program} {e : TypeId} {p : Nat → Bool} : ∀ {l : List (DataW H)}, (DataW.weightsAll P e l).all p = true → ∀ x ∈ l, (DataW.weights P e x).all p = true
  | [], _, _, hx => by cases hx
  | y :: r, h, x, hx => by
    rw [DataW.weightsAll, List.all_append, Bool.and_eq_true] at h
    rcases List.mem_cons.1 hx with rfl | hx
    · exact h.1
    · exact sz_all h.2 x hx
theorem sz_ints {H : Type} {zs : List Int} {n : Nat} (h : Sz (H := H) 22 (.slice (lits .i64 (zs.take n)) (lits .i64 (zs.drop n)))) : zs.length * 8 ≤ 140737488351232 := by
  unfold Sz at h
  simp only [DataW.weights, Try.underlying22, bytes_int, List.all_cons, Bool.and_eq_true, decide_eq_true_eq] at h
  have h1 := h.1
  unfold reachBytes at h1
  simp only [lits, List.length_map, List.length_take, List.length_drop] at h1
  omega
theorem open_isr0z {H : Type} {enc : TypeId × Value → H} {W : World} {base fuel : Nat} {sp : Nat → Bool} {held : Bool} {cs : List Value} {x : DataW H × List MemPlace} (hf : DataW.trod enc Try.prog W base sp held fuel 22 cs = some x) :
    ∃ A cap l, cs = [.slice A l.length cap] ∧ Sr encI 1 W W.heap.size A cap l ∧ (Sz 22 x.1 → l.length * 8 ≤ 140737488351232) := by
  rcases open_ints Try.underlying22 Try.underlying3 cells_int hf with ⟨hcs, hx⟩ | ⟨a, len, cap, zs, hcs, _, hl, hm, hz, hx, hcell, hwz⟩
  · subst hcs
    exact ⟨none, 0, [], rfl, Sr.none_ _ _, fun _ => by simp⟩
  · subst hcs
    have hzl : len ≤ zs.length := by rw [hz]; split <;> omega
    have hll : (zs.take len).length = len := by simp; omega
    refine ⟨some a, cap, zs.take len, by rw [hll], ⟨by rw [hll]; exact hl, hm, (fun h => by cases h), fun hn => ⟨a, rfl, ?_, fun i x hk j u hu => ?_⟩⟩, fun hs => ?_⟩
    · rw [hll] at hn
      have := World.block_lt_of_cell? W _ (hcell 0 (by omega))
      rwa [el_block_of_add] at this
    · rw [List.getElem?_take] at hk
      split at hk
      · have hkz := (List.getElem?_eq_some_iff.1 hk).1
        obtain rfl : j = 0 := by
          have := (List.getElem?_eq_some_iff.1 hu).1
          rw [encI_len] at this; omega
        have : zs.getD i 0 = x := by simp [List.getD, hk]
        rw [Nat.mul_one, Nat.add_zero, hcell i hkz, this]
        exact hu
      · cases hk
    · rw [hx] at hs
      have h1 := sz_ints hs
      omega
set_option maxRecDepth 100000 in
theorem open_isrz {H : Type} {enc : TypeId × Value → H} {W : World} {base : Nat} {v : Value} {d : DataW H} {p : List MemPlace}
    (hv : Value.okWide Try.prog W .any base 22 v) (h : DataW.Trod enc Try.prog W 0 (fun _ => true) true 22 v d p) :
    ∃ A cap l, v = .slice A l.length cap ∧ Sr encI 1 W W.heap.size A cap l ∧ (Sz 22 d → l.length * 8 ≤ 140737488351232) := by
  obtain ⟨a1, n, cap, rfl⟩ := okWide_slice Try.underlying22 hv
  obtain ⟨fuel, hf⟩ := h
  obtain ⟨A, cap', l, hcs, hb, hz⟩ := open_isr0z hf
  simp [Value.cells] at hcs
  obtain ⟨rfl, rfl, rfl⟩ := hcs
  exact ⟨_, _, l, rfl, hb, hz⟩
end Go.Proofs.Ytcgkbpjfbahleaa
namespace Go.Proofs.Ytcgkbpjfbahleaa
open Go.ChangeShapes Go.WideShapes Go.ChangeAt Go.RowKit Go.Deep Go.Joins

theorem open_isrw {H : Type} {enc : TypeId × Value → H} {W : World} {base fuel : Nat} {sp : Nat → Bool} {held : Bool} {cs : List Value} {x : DataW H × List MemPlace} (hf : DataW.trod enc Try.prog W base sp held fuel 22 cs = some x) :
    ∃ A cap l, cs = [.slice A l.length cap] ∧ Sr encI 1 W W.heap.size A cap l ∧ ∀ y ∈ l, -9223372036854775808 ≤ y ∧ y ≤ 9223372036854775807 := by
  rcases open_ints Try.underlying22 Try.underlying3 cells_int hf with ⟨hcs, hx⟩ | ⟨a, len, cap, zs, hcs, _, hl, hm, hz, hx, hcell, hwz⟩
  · subst hcs
    exact ⟨none, 0, [], rfl, Sr.none_ _ _, fun y hy => by cases hy⟩
  · subst hcs
    have hzl : len ≤ zs.length := by rw [hz]; split <;> omega
    have hll : (zs.take len).length = len := by simp; omega
    refine ⟨some a, cap, zs.take len, by rw [hll], ⟨by rw [hll]; exact hl, hm, (fun h => by cases h), fun hn => ⟨a, rfl, ?_, fun i x hk j u hu => ?_⟩⟩, fun y hy => ?_⟩
    · rw [hll] at hn
      have := World.block_lt_of_cell? W _ (hcell 0 (by omega))
      rwa [el_block_of_add] at this
    · rw [List.getElem?_take] at hk
      split at hk
      · have hkz := (List.getElem?_eq_some_iff.1 hk).1
        obtain rfl : j = 0 := by
          have := (List.getElem?_eq_some_iff.1 hu).1
          rw [encI_len] at this; omega
        have : zs.getD i 0 = x := by simp [List.getD, hk]
        rw [Nat.mul_one, Nat.add_zero, hcell i hkz, this]
        exact hu
      · cases hk
    · have hw := hwz y (List.mem_of_mem_take hy)
      simpa [Lit.wf, IntKind.min, IntKind.max, IntKind.signed, IntKind.bits] using hw
theorem cells_rview : Try.prog.cellsOf 29 = 3 := by kernel_rfl
set_option maxRecDepth 100000 in
theorem open_view {H : Type} {enc : TypeId × Value → H} {W : World} {base : Nat} {v : Value} {d : DataW H} {p : List MemPlace}
    (hv : Value.okWide Try.prog W .any base 29 v) (h : DataW.Trod enc Try.prog W 0 (fun _ => true) true 29 v d p) :
    ∃ (e q : Int) (A : Option Addr) (cap : Nat) (l : List Int), v = .agg #[.int .i64 e, .int .i64 q, .slice A l.length cap] ∧ (-9223372036854775808 ≤ e ∧ e ≤ 9223372036854775807) ∧ (-9223372036854775808 ≤ q ∧ q ≤ 9223372036854775807) ∧ Sr encI 1 W W.heap.size A cap l ∧ ∀ y ∈ l, -9223372036854775808 ≤ y ∧ y ≤ 9223372036854775807 := by
  obtain ⟨c0, c1, c2, y0, y1, y2, m, rfl, rfl, rfl, hy0, hy1, hy2⟩ := open_agg3 Try.underlying29 (by kernel_rfl) cells_rview hv h
  obtain ⟨a, e0, _, wa⟩ := DataW.trod_int Try.underlying3 hy0
  obtain ⟨b, e1, _, wb⟩ := DataW.trod_int Try.underlying3 hy1
  obtain ⟨A, cap, l, e2, hs, hr⟩ := open_isrw hy2
  simp at e0 e1 e2
  subst e0 e1 e2
  exact ⟨a, b, A, cap, l, rfl, by simpa [Lit.wf, IntKind.min, IntKind.max, IntKind.signed, IntKind.bits] using wa, by simpa [Lit.wf, IntKind.min, IntKind.max, IntKind.signed, IntKind.bits] using wb, hs, hr⟩
theorem bytes_u8 : Try.prog.bytesOf 5 = 1 := by kernel_rfl
theorem sz_bs {H : Type} {d : DataW H} {l : List UInt8} (h : Sz 53 d) (hd : l = [] ∨ ∃ es sp, d = .slice es sp ∧ es.length = l.length) : l.length ≤ 140737488355328 := by
  rcases hd with rfl | ⟨es, sp, rfl, he⟩
  · simp
  · unfold Sz at h
    simp only [DataW.weights, Try.underlying53, bytes_u8, List.all_cons, Bool.and_eq_true, decide_eq_true_eq] at h
    have h1 := h.1
    unfold reachBytes at h1
    omega
end Go.Proofs.Ytcgkbpjfbahleaa
namespace Go.Proofs.Ytcgkbpjfbahleaa
open Go.ChangeShapes Go.WideShapes Go.ChangeAt Go.RowKit

set_option maxRecDepth 100000 in
theorem viewbytes_lifted (os : Os) (started : os.Started) (H : Type) (enc : TypeId × Value → H) :
    ReturnsInHanded {} Try.checked os 5 .any (Rows.viewBytesSpec.pre6 enc Try.prog Try.f5 Rows.viewBytesRow.domain false) (Rows.viewBytesSpec.post enc Try.prog Try.f5 false true false false) := by
  refine returnsInHanded_of_change_sized (C := Try.checked) own started (by kernel_rfl) Try.func5
    (ChangeSpec.witness6 (enc := enc) (C := Try.checked) false ⟨#[], #[.agg #[.int .i64 0, .int .i64 0, .slice none 0 0], .slice none 0 0], []⟩ 8 (by kernel_rfl) (by kernel_rfl) (by kernel_rfl) (by kernel_rfl)) ?_
  intro W base args ds gs before hval0 hW hcnd hsz0 _
  have hval : ∀ (j : Nat) t v, Try.f5.params[j]? = some t → args[j]? = some v → Value.okWide Try.prog W .any base t v := hval0
  have hW' := hW
  obtain ⟨p, q, hA0, hV, rfl, hfz, hnd⟩ := hW
  have hA : DataW.TrodAll enc Try.prog W 0 (fun _ => true) true Try.f5.params.toList args.toList ds p := hA0
  rw [Try.params5] at hA hval hsz0
  obtain ⟨v0, vs0, d0, ds0, p0, q0, hargs, hds, hps, h0, r0⟩ := trodAll_cons hA
  obtain ⟨v1, vs1, d1, ds1, p1, q1, ha1, hd1, hp1, h1, r1⟩ := trodAll_cons r0
  subst ha1 hd1 hp1
  obtain ⟨e1, e2, e3⟩ := trodAll_nil r1
  subst e1 e2 e3
  subst hds hps
  obtain rfl : args = #[v0, v1] := by cases args; simp_all
  obtain ⟨rfl, rfl⟩ := trodVars_none hV
  obtain ⟨ve, vp, vA, vc, v, rfl, vr, vq, vh, vw⟩ := open_view (hval 0 _ v0 rfl rfl) h0
  obtain ⟨bA, bc, b, rfl, bh, bb, bd⟩ := open_bs (hval 1 _ v1 rfl rfl) h1
  have h2 : (DataW.weightsEach Try.prog (29 :: 53 :: []) (d0 :: d1 :: [])).all (· ≤ reachBytes) = true := hsz0
  simp only [DataW.weightsEach, List.all_append, Bool.and_eq_true] at h2
  have bz := sz_bs h2.2.1 bd
  refine (viewbytes_any ve vp vr vq vA vc v W vh vw bA bc b bh bz).mono fun e W' ⟨he, hg⟩ => ?_
  subst he
  exact ⟨_, rfl, law_post (s := Rows.viewBytesSpec) hW' rfl rfl (by kernel_rfl) ⟨rfl, rfl, rfl⟩ hg⟩

theorem viewbytes_holds : Rows.ViewBytesSaid :=
  OpenClaim.holds_of_wide 5 Try.f5 rfl rfl rfl rfl rfl rfl rfl ⟨rfl, rfl, rfl, rfl, rfl⟩ rfl rfl rfl rfl rfl (by kernel_rfl) Try.func5 (by kernel_rfl)
    (of_decide_eq_true (by kernel_rfl)) (by unfold Func.isWrapper; first | (rw [if_pos (by decide +kernel)]; kernel_rfl) | (rw [if_neg (by decide +kernel)]; exact ⟨rfl, rfl⟩))
    (fun os started H enc _ => viewbytes_lifted os started H enc)

end Go.Proofs.Ytcgkbpjfbahleaa
