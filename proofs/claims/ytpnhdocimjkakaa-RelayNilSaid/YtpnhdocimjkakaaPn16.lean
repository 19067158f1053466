/- A writer's other methods: Int, Flag, Text, Stamp. -/
import Derived.Test.YtpnhdocimjkakaaPn15
import Derived.Test.YtpnhdocimjkakaaPn6
import Derived.Test.YtpnhdocimjkakaaPn1
import Derived.Lib.Zigzag
import Derived.Lib.AppendStr
import Derived.Deep.RegionLaw
namespace Go.Proofs.Ytpnhdocimjkakaa
open Go.RowKit

/-- A number that may be below 0, as one that may not. -/
def zz (n : Int) : Nat := if 0 ≤ n then (2 * n).toNat else (-2 * n - 1).toNat
theorem zz_le {n : Int} (h0 : -9223372036854775808 ≤ n) (h1 : n ≤ 9223372036854775807) : zz n ≤ 18446744073709551615 := by unfold zz; split <;> omega

theorem ezp {n : Int} (h0 : 0 ≤ n) (h1 : n ≤ 9223372036854775807) : bits .xor .u64 (IntKind.u64.wrap (wrap64 (n * 2))) (n / 9223372036854775808) = ((zz n : Nat) : Int) := by
  have e1 : IntKind.u64.wrap (wrap64 (n * 2)) = (((2 * n).toNat : Nat) : Int) := by
    rw [IntKind.wrap_u64]; unfold wrap64; omega
  have e2 : n / 9223372036854775808 = ((0 : Nat) : Int) := by omega
  rw [e1, e2, bits_xor_u64_nat _ _ (by omega) (by decide), Nat.xor_zero]
  unfold zz
  rw [if_pos h0]
theorem ezn {n : Int} (h0 : -9223372036854775808 ≤ n) (h1 : n < 0) : bits .xor .u64 (IntKind.u64.wrap (wrap64 (n * 2))) (IntKind.u64.wrap (n / 9223372036854775808)) = ((zz n : Nat) : Int) := by
  have e1 : IntKind.u64.wrap (wrap64 (n * 2)) = (((2 * n + 18446744073709551616).toNat : Nat) : Int) := by
    rw [IntKind.wrap_u64]; unfold wrap64; omega
  have e2 : IntKind.u64.wrap (n / 9223372036854775808) = ((2 ^ 64 - 1 : Nat) : Int) := by
    rw [IntKind.wrap_u64]; omega
  rw [e1, e2, bits_xor_u64_nat _ _ (by omega) (by decide), Nat.xor_comm, Lib.xor_ones64 _ (by omega)]
  unfold zz
  rw [if_neg (by omega)]
  omega
theorem Gr.thenTn {w w1 w2 : World} {v v1 : Value} {b : Nat} (h : Gr w w1 v v1) (g : w1.grownBy w2 v1.ownBlock) : Tn (fun k => k = b ∨ v.ownBlock = some k) w w2 :=
  h.tn.thenQ (Tn.ofGrown g) fun k hk e => by
    rcases h.o with e1 | ⟨j, e1, hj⟩
    · exact .inr (by rw [← e1, e])
    · rw [e1] at e; injection e with e; omega
theorem Gr.ne2 {w w' : World} {v v' : Value} {b : Nat} (h : Gr w w' v v') (hne : v.ownBlock ≠ some b) (hb : b < w.heap.size) : v'.ownBlock ≠ some b := by
  rcases h.o with e | ⟨j, e, hj⟩
  · rw [e]; exact hne
  · rw [e]; intro e2; injection e2 with e2; omega
theorem Wst.mk1 {w : World} {K b : Nat} {v : Value} {l : List UInt8} {e : Ending} {w' : World} (h : ∃ v', Wst w K b v l e w' v') : e = .returned (.tuple #[]) ∧ ∃ v', Wst w K b v l e w' v' := by
  obtain ⟨v', h⟩ := h
  exact ⟨h.e, v', h⟩
set_option maxHeartbeats 800000 in
theorem wint_any (n : Int) (h0 : -9223372036854775808 ≤ n) (h1 : n ≤ 9223372036854775807) (K b : Nat) (v : Value) (l : List UInt8) (w : World) (h : Wr w K b v l) (hsz : l.length + 9 ≤ 140737488355328) :
    Calls Try.prog 62 #[.pointer (some ⟨b, 0, none⟩), .int .i64 n] w fun e w' => ∃ v', Wst w K b v (l ++ numB (zz n)) e w' v' := by
  have HN := Lib.hid (wnum_any (zz n) (zz_le h0 h1) K b v l w h hsz)
  clear h
  by_cases hn : 0 ≤ n
  · go_enter Try.func62, Try.ntmps62
    go_wp2_with fail
    rw [ezp hn h1]
    refine HN.out.mono ?_
    intro e w1 he
    obtain ⟨rfl, he⟩ := Wst.mk1 he
    go_wp2_with fail
    go_end0
    exact he
  · go_enter Try.func62, Try.ntmps62
    go_wp2_with fail
    rw [ezn h0 (by omega)]
    refine HN.out.mono ?_
    intro e w1 he
    obtain ⟨rfl, he⟩ := Wst.mk1 he
    go_wp2_with fail
    go_end0
    exact he
theorem info_parts8 : ∃ i0, Try.prog.info? 5 = some i0 ∧ i0.zero = some (.int .u8 0) ∧ i0.size = 1 ∧ i0.bytes = 1 := info_parts info_u8
theorem strCells_bv (s : ByteArray) : Lib.strCells s = s.data.toList.map bv := by
  simp [Lib.strCells]
theorem run_appS (w : World) (ty : TypeId) (K : Nat) (v : Value) (l : List UInt8) (hown : Ob w K v l) (t : ByteArray) (hsz : l.length + t.size ≤ 140737488355328) (hbase : K ≤ w.heap.size) :
    ∃ A' cap' w', (Builtin.append_ #[23, 9] ty #[v, .string t]).run Try.prog w = .ok (.slice A' (l ++ t.data.toList).length cap') w' ∧ Ob w' K (.slice A' (l ++ t.data.toList).length cap') (l ++ t.data.toList) ∧ w.grownBy w' v.ownBlock ∧ OwnOr w v (.slice A' (l ++ t.data.toList).length cap') := by
  obtain ⟨i0, hi, hz, h1, hb⟩ := info_parts8
  have hml : l.length + t.size ≤ maxLen := by unfold maxLen; omega
  have htl : t.data.toList.length = t.size := by simp
  obtain ⟨v', w', hr, ho, hg, hnil⟩ := Lib.run_append_own_string (P := Try.prog) w K 23 9 ty 5 i0 Try.underlying23 Try.underlying9 hi hz h1 hb v l.length (l.map bv) hown t hml hsz hbase
  have ho' : Ob w' K v' (l ++ t.data.toList) := by
    unfold Ob
    rw [List.map_append, List.length_append, htl, ← strCells_bv]
    exact ho
  obtain ⟨A', cap', hv⟩ := ho'.form
  subst hv
  refine ⟨A', cap', w', hr, ho', hg, ?_⟩
  rcases hown.2 with ⟨he, h0⟩ | ⟨g, cap, cur, he, hKg, hblk, hn, hc, hs, ht⟩
  · subst he
    by_cases hm : t.size = 0
    · have := hnil.2 ⟨rfl, hm⟩
      rw [this]
      exact .inl rfl
    · have h2 := run_append_nil_string (P := Try.prog) w 23 9 ty 5 i0 (.int .u8 0) Try.underlying23 Try.underlying9 hi hz t (by omega) (by omega) (by rw [hb]; omega)
      rw [hr] at h2
      injection h2 with h2 _
      rw [h2]
      exact .inr ⟨_, rfl, Nat.le_refl _⟩
  · subst he
    by_cases hroom : l.length + t.size ≤ cap
    · have h2 := Lib.run_append_room_string (P := Try.prog) w 23 9 ty 5 i0 Try.underlying23 Try.underlying9 hi h1 g l.length cap cur hblk t hroom (by omega)
      rw [hr] at h2
      injection h2 with h2 _
      rw [h2]
      exact .inl rfl
    · have holds : ∀ j u, (l.map bv)[j]? = some u → w.cell? ((⟨g, 0, none⟩ : Addr).add j) = some u := World.ownsRow.cells (h := hown) (g := g) rfl
      have h2 := Lib.run_append_grow_string (P := Try.prog) w 23 9 ty 5 i0 (.int .u8 0) Try.underlying23 Try.underlying9 hi hz ⟨g, 0, none⟩ l.length cap (l.map bv) (by simp [h1]) holds t (by omega) (by omega) (by rw [hb]; exact growslice_fits (by omega) (by omega))
      rw [hr] at h2
      injection h2 with h2 _
      rw [h2]
      exact .inr ⟨_, rfl, Nat.le_refl _⟩
/-- append of a text's bytes. -/
theorem wpList_appS {ops : Array Oper} {rest : List Oper} {o : Oper} {a : Act} {Q : Exit → Act → World → Prop} (w : World) (hgd : o.guard = none) (s x : Operand)
    (ho : o.op = .call { callee := .builtin .append, args := #[s, x], argTypes := #[23, 9] })
    (K : Nat) (v : Value) (l : List UInt8) (hs : a.eval s = v) (hown : Ob w K v l) (t : ByteArray) (hx : a.eval x = .string t)
    (hsz : l.length + t.size ≤ 140737488355328) (hbase : K ≤ w.heap.size)
    (h : ∀ A' cap' w', Ob w' K (.slice A' (l ++ t.data.toList).length cap') (l ++ t.data.toList) → w.grownBy w' v.ownBlock → OwnOr w v (.slice A' (l ++ t.data.toList).length cap') → wpList Try.prog ops Q rest (a.put o.dst (.slice A' (l ++ t.data.toList).length cap')) w') : wpList Try.prog ops Q (o :: rest) a w := by
  refine wpList_plain hgd fun _ hK => ?_
  obtain ⟨A', cap', w', hr, h2, h3, h4⟩ := run_appS w o.type K v l hown t hsz hbase
  unfold Oper.wp execOp
  simp only [ho, resolve, invoke, builtin, Sem.run_bind, Sem.run_pure, Result.andThen_ok, List.map_toArray, List.map_cons, List.map_nil, hs, hx, hr]
  exact hK _ _ (h A' cap' w' h2 h3 h4)

set_option maxRecDepth 100000 in
set_option maxHeartbeats 1600000 in
theorem wtext_any (t : ByteArray) (K b : Nat) (v : Value) (l : List UInt8) (w : World) (h : Wr w K b v l) (hsz : l.length + t.size + 9 ≤ 140737488355328) :
    Calls Try.prog 113 #[.pointer (some ⟨b, 0, none⟩), .string t] w fun e w' => ∃ v', Wst w K b v (l ++ numB t.size ++ t.data.toList) e w' v' := by
  obtain ⟨A, c, rfl⟩ := h.ob.form
  have hlt := h.lt
  have hc0 := h.cell
  have hf0 := h.fro
  have hkb := h.kb
  have hnl : (numB t.size).length ≤ 9 := by rw [numB_length]; have := kN_le t.size; omega
  have HX := Lib.hid h
  have HA := Lib.hid (fun w' (ho : Ob w' K (.slice A l.length c) l) (hK : K ≤ w'.heap.size) => appendNum_any t.size (by omega) K A l.length c l w' ho hK (by omega))
  have hml : (l ++ numB t.size).length + t.size ≤ 140737488355328 := by rw [List.length_append]; omega
  clear h
  generalize l ++ numB t.size = m at *
  obtain ⟨n, hn⟩ : ∃ n, n = (m ++ t.data.toList).length := ⟨_, rfl⟩
  have HN := Lib.hid hn
  clear hn
  go_enter Try.func113, Try.ntmps113
  go_wp2_with (first
    | (go_at_call 128; go_loud (refine (HA.out _ HX.out.ob (by omega)).mono ?_; rintro e w1 ⟨A', c', rfl, ho1, hg1⟩; have hk1 := HX.out.kept hg1; have hk1c := hk1.1; have hk1f := hk1.2))
    | (at_builtin; go_loud (refine wpList_appS w1 rfl (.tmp 14) (.tmp 15) rfl K (.slice A' m.length c') m rfl ho1 t rfl hml (by have := hg1.g.size; omega) ?_; rw [← HN.out]; intro A2 c2 w2 ho2 hg2 hor2; have hne : (Value.slice A' m.length c').ownBlock ≠ some b := hg1.ne2 HX.out.ne hlt; have hk2c : w2.cell? ⟨b, 0, none⟩ = some (.slice A l.length c) := (Tn.ofGrown hg2).cell hk1c (fun e => hne e.symm); have hk2f : w2.frozen? ⟨b, 0, none⟩ = false := ((Tn.ofGrown hg2).frozen (p := ⟨b, 0, none⟩) (by have := hg1.g.size; show b < _; omega) (fun e => hne e.symm)).trans hk1f)))
  go_end0
  exact ⟨_, HX.out.put ho2 (hg1.thenTn hg2) hk2c hk2f (OwnOr.trans hg1.o hor2 hg1.g.size)⟩

/-- append of bytes, at a step of a region that draws. -/
theorem step_app {ops : Array Oper} {o : Oper} {a : Act} {w : World} {Kk : Act → World → Prop} {Q : Exit → Act → World → Prop} {E : Prop} (hgd : o.guard = none) (s x : Operand)
    (ho : o.op = .call { callee := .builtin .append, args := #[s, x], argTypes := #[23, 23] })
    (K : Nat) (v : Value) (l : List UInt8) (hs : a.eval s = v) (hown : Ob w K v l) (A : Option Addr) (M cap : Nat) (m : List UInt8) (hx : a.eval x = .slice A M cap) (hM : m.length = M) (K' : Nat) (hsrc : Bs w K' A cap m)
    (N : Nat) (hN : l.length + m.length = N) (hsz : l.length + m.length ≤ 140737488355328) (hbase : K ≤ w.heap.size)
    (h : ∀ A' cap' w', Ob w' K (.slice A' N cap') (l ++ m) → w.grownBy w' v.ownBlock → OwnOr w v (.slice A' N cap') → Kk (a.put o.dst (.slice A' N cap')) w') : if Region.wanted o (yielded ops a.tmps) = true then Oper.wp Try.prog o a w Kk Q else E := by
  subst hN hM
  have hw : Region.wanted o (yielded ops a.tmps) = true := by simp [Region.wanted, hgd]
  rw [if_pos hw]
  obtain ⟨A', cap', w', hr, h2, h3, h4⟩ := run_app w o.type hown hsrc hsz hbase
  unfold Oper.wp execOp
  simp only [ho, resolve, invoke, builtin, Sem.run_bind, Sem.run_pure, Result.andThen_ok, List.map_toArray, List.map_cons, List.map_nil, hs, hx, hr]
  exact h A' cap' w' h2 h3 (h4.imp id fun e => ⟨_, e, Nat.le_refl _⟩)
theorem keptFa {X : World} {p : Addr} {v : Value} {o : Obj} (hc : X.cell? p = some v) (h : X.frozen? p = false) : (X.alloc o).frozen? p = false :=
  ((Tn.alloc (P := fun _ => False) X o).frozen (World.block_lt_of_cell? X p hc) id).trans h

end Go.Proofs.Ytpnhdocimjkakaa
