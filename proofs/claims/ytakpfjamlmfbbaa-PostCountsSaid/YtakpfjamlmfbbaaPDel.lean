/- slices.Delete of one message. -/
import Derived.Test.YtakpfjamlmfbbaaPGet
namespace Go.Proofs.Ytakpfjamlmfbbaa
open Go.RowKit Go.Conc

/-- append where there is room, at a step of a region that draws: the block is known whole. -/
theorem step_roomB {P : Program} {ops : Array Oper} {o : Oper} {a : Act} {w : World} {K : Act → World → Prop} {Q : Exit → Act → World → Prop} {E : Prop}
    (hg : o.guard = none) (s x : Operand) (t : TypeId) (hop : o.op = Op.call { callee := Callee.builtin Builtin.append, args := #[s, x], argTypes := #[t, t] })
    (e : TypeId) (i : TypeInfo) (h1 : P.underlying t = some (.slice e)) (h2 : P.info? e = some i)
    (b n cap : Nat) (cur : Array Value) (hblk : w.heap[b]? = some (.cells cur e (0, 0))) (hs : a.eval s = .slice (some ⟨b, 0, none⟩) n cap)
    (ad : Addr) (m c : Nat) (news : List Value) (hx : a.eval x = .slice (some ad) m c) (hn : news.length = m * i.size) (hc : ∀ j u, news[j]? = some u → w.cell? (ad.add j) = some u) (h1c : ∀ u ∈ news, u.oneCell' = true)
    (hroom : n + m ≤ cap) (hfit : n * i.size + news.length ≤ cur.size)
    (hK : K (a.put o.dst (.slice (some ⟨b, 0, none⟩) (n + m) cap)) (w.setRow b (cur.toList.take (n * i.size) ++ news ++ cur.toList.drop (n * i.size + news.length)).toArray)) :
    if Region.wanted o (yielded ops a.tmps) = true then Oper.wp P o a w K Q else E := by
  have hw : Region.wanted o (yielded ops a.tmps) = true := by simp [Region.wanted, hg]
  rw [if_pos hw]
  have hrun := run_append_room (P := P) (w := w) t o.type e i h1 h2 b n cap cur hblk ad m c news hn hc h1c hroom hfit
  unfold Oper.wp execOp
  simp only [hop, resolve, invoke, builtin, Sem.run_bind, Sem.run_pure, Result.andThen_ok, List.map_toArray, List.map_cons, List.map_nil, hs, hx, hrun]
  exact hK

section
variable {α : Type} {enc : α → List Value} {k : Nat}
theorem flatMap_dropE (henc : ∀ x, (enc x).length = k) : ∀ (l : List α) (j : Nat), (l.drop j).flatMap enc = (l.flatMap enc).drop (j * k)
  | [], j => by simp
  | x :: l, 0 => by simp
  | x :: l, j + 1 => by
    have e1 : (enc x).drop ((j + 1) * k) = [] := List.drop_of_length_le (by rw [henc, Nat.add_mul]; omega)
    have e2 : (j + 1) * k - k = j * k := by rw [Nat.add_mul]; omega
    rw [List.drop_succ_cons, flatMap_dropE henc l j, List.flatMap_cons, List.drop_append, e1, henc, e2, List.nil_append]
theorem flatMap_takeE (henc : ∀ x, (enc x).length = k) : ∀ (l : List α) (j : Nat), (l.take j).flatMap enc = (l.flatMap enc).take (j * k)
  | [], j => by simp
  | x :: l, 0 => by simp
  | x :: l, j + 1 => by
    have e1 : (enc x).take ((j + 1) * k) = enc x := List.take_of_length_le (by rw [henc, Nat.add_mul]; omega)
    have e2 : (j + 1) * k - k = j * k := by rw [Nat.add_mul]; omega
    rw [List.take_succ_cons, List.flatMap_cons, flatMap_takeE henc l j, List.flatMap_cons, List.take_append, e1, henc, e2]
end

theorem Tn.setRow (w : World) (g : Nat) (cs : Array Value) : Tn (· = g) w (w.setRow g cs) :=
  ⟨rfl, rfl, rfl, by simp, fun k _ hn => setRow_other w g k cs hn⟩
set_option maxRecDepth 100000 in
set_option maxHeartbeats 3200000 in
theorem del_any (K g cap i q : Nat) (l : List Mg) (w : World) (hl : l.length = i + q + 1) (so : So encM 3 w K 36 (.slice (some ⟨g, 0, none⟩) (i + q + 1) cap) l) :
    Calls Try.prog 14 #[.slice (some ⟨g, 0, none⟩) (i + q + 1) cap, .int .i64 (i : Int), .int .i64 ((i : Int) + 1)] w
      fun e w' => e = .returned (.slice (some ⟨g, 0, none⟩) (i + q) cap) ∧ So encM 3 w' K 36 (.slice (some ⟨g, 0, none⟩) (i + q) cap) (l.eraseIdx i) ∧ Tn (· = g) w w' := by
  obtain ⟨i0, hi, hz0, hz1, hz2⟩ := info_parts info_msg
  rcases so.2 with ⟨he, _⟩ | ⟨g', cap', cur, he, hKg, hblk, hn, hc, hs, ht⟩
  · cases he
  injection he with e1 e2 e3
  injection e1 with e1
  injection e1 with e1
  subst e1 e3
  have hcells := fun j u hj => so.cells (g := g) rfl j u hj
  obtain ⟨news, hnews⟩ : ∃ news, news = (l.drop (i + 1)).flatMap encM := ⟨_, rfl⟩
  have hnl : news.length = q * 3 := by rw [hnews, flatMap_len encM_length, List.length_drop, hl]; congr 1; omega
  have hone : ∀ u ∈ news, u.oneCell' = true := fun u hu => by
    rw [hnews] at hu
    obtain ⟨x, _, hx⟩ := List.mem_flatMap.1 hu
    exact encM_one x u hx
  obtain ⟨A, hA, hsrc⟩ : ∃ A : Addr, (if cap = i + 1 then some (⟨g, 0, none⟩ : Addr) else some ⟨g, (i + 1) * 3, none⟩) = some A ∧ RowKit.Hid (∀ t u, news[t]? = some u → w.cell? (A.add t) = some u) := by
    by_cases h : cap = i + 1
    · refine ⟨⟨g, 0, none⟩, by simp [h], fun t u hu => ?_⟩
      have : news = [] := List.eq_nil_of_length_eq_zero (by rw [hnl]; omega)
      rw [this] at hu; cases hu
    · refine ⟨⟨g, (i + 1) * 3, none⟩, by simp [h], fun t u hu => ?_⟩
      rw [hnews, flatMap_dropE encM_length, List.getElem?_drop] at hu
      have := hcells _ _ hu
      rw [add0] at this
      rw [Addr.add_lit]
      exact this
  -- the row behind the append, and behind the clear
  obtain ⟨cur1, hcur1⟩ : ∃ c1 : Array Value, c1 = (cur.toList.take (i * 3) ++ news ++ cur.toList.drop (i * 3 + news.length)).toArray := ⟨_, rfl⟩
  have htake : cur.toList.take (i * 3) = (l.take i).flatMap encM := by
    rw [flatMap_takeE encM_length, ← ht, List.take_take]
    congr 1; omega
  have hcs : cur.toList.length = cap * 3 := by rw [Array.length_toList]; exact hs
  have hl1 : (cur.toList.take (i * 3)).length = i * 3 := by rw [List.length_take, hcs]; omega
  have hs1 : cur1.size = cap * 3 := by
    rw [hcur1, List.size_toArray, List.length_append, List.length_append, hl1, hnl, List.length_drop, hcs]
    omega
  obtain ⟨cur2, hcur2⟩ : ∃ c2 : Array Value, c2 = (cur1.toList.take ((i + q) * 3) ++ [Value.int .i64 0, Value.int .i64 0, Value.slice none 0 0] ++ cur1.toList.drop ((i + q) * 3 + 3)).toArray := ⟨_, rfl⟩
  have hc1 : cur1.toList.length = cap * 3 := by rw [Array.length_toList]; exact hs1
  have hs2 : cur2.size = cap * 3 := by
    rw [hcur2, List.size_toArray, List.length_append, List.length_append, List.length_take, List.length_drop, hc1]
    simp; omega
  have ht2 : cur2.toList.take ((i + q) * 3) = (l.eraseIdx i).flatMap encM := by
    have e : cur1.toList.take ((i + q) * 3) = (l.eraseIdx i).flatMap encM := by
      rw [hcur1, List.eraseIdx_eq_take_drop_succ, List.flatMap_append, ← htake, ← hnews]
      show List.take _ (_ ++ _ ++ _) = _
      rw [List.take_append_of_le_length (by rw [List.length_append, hl1, hnl]; omega), List.take_of_length_le (by rw [List.length_append, hl1, hnl]; omega)]
    rw [hcur2, ← e]
    show List.take _ (_ ++ _ ++ _) = _
    rw [List.append_assoc, List.take_append_of_le_length (by rw [List.length_take, hc1]; omega), List.take_take, Nat.min_self]
  have hle : (l.eraseIdx i).length = i + q := by rw [List.length_eraseIdx, if_pos (by omega), hl]; rfl
  have HL := Lib.hid hle
  have HT2 := Lib.hid ht2
  have HS2 := Lib.hid hs2
  have HS := Lib.hid hsrc
  have HNL := Lib.hid hnl
  have HONE := Lib.hid hone
  have HCUR1 := Lib.hid hcur1
  have HB := Lib.hid hblk
  have W1f : ∀ W : World, W.heap[g]? = some (.cells cur 36 (0, 0)) → ∀ ty, (Builtin.clear_ #[40] ty #[.slice (some ⟨g, (i + q) * 3, none⟩) 1 (cap - (i + q))]).run Try.prog (W.setRow g cur1) = .ok (.tuple #[]) ((W.setRow g cur1).setRow g cur2) := fun W hW ty => by
    have hz := run_storeCells_at (P := Try.prog) g ((i + q) * 3) 36 [Value.int .i64 0, Value.int .i64 0, Value.slice none 0 0] 0 cur1 (W.setRow g cur1) (setRow_heap W g cur cur1 _ _ hW) (by rw [hs1]; simp; omega) (by intro v hv; simp at hv; rcases hv with rfl | rfl | rfl <;> rfl)
    have hzv : ∀ w, (zeroValue 36).run Try.prog w = .ok (.agg #[.int .i64 0, .int .i64 0, .slice none 0 0]) w := fun w => by kernel_rfl
    have hzc : (Builtin.zeroCells (Value.cells (.agg #[.int .i64 0, .int .i64 0, .slice none 0 0])) 1).toList = [Value.int .i64 0, Value.int .i64 0, Value.slice none 0 0] := by kernel_rfl
    rw [Nat.add_zero] at hz
    have hz' : (storeCells ⟨g, (i + q) * 3, none⟩ [Value.int .i64 0, Value.int .i64 0, Value.slice none 0 0] 0).run Try.prog (W.setRow g cur1) = .ok () ((W.setRow g cur1).setRow g cur2) := by rw [hz, hcur2]; rfl
    simp [Builtin.clear_, run_underlying Try.underlying40, hzv, hzc, hz']
  have HC := Lib.hid W1f
  have hA' : (if cap = i + 1 then some (⟨g, 0, none⟩ : Addr) else some ⟨g, (i + 1) * 3, none⟩) = some A := hA
  have hcapn : i + q + 1 ≤ cap := by omega
  have hmax : cap ≤ 9223372036854775807 := by unfold maxLen at hc; omega
  have hcm : cap ≤ maxLen := hc
  have HM := Lib.hid hcm
  clear hcm
  have HI := Lib.hid hi
  have HSZ := Lib.hid hs
  have HI1 := Lib.hid hz1
  have HX := Lib.hid hl
  clear hi hz0 hz1 hz2 hl e2 so W1f hA hsrc hnl hone hcur1 hblk ht2 hs2 hs1 hc1 hcur2 htake hl1 hcs ht hs hle hcells hnews hn hc
  go_enter Try.func14, Try.ntmps14
  go_wp2
  have hic : i ≤ cap := by omega
  have hjc : i + 1 ≤ cap := by omega
  have hj0 : (0 : Int) ≤ (i : Int) + 1 := by omega
  have hj1 : (i : Int) ≤ (i : Int) + (q : Int) := by omega
  go_region_law (go_loud (refine step_roomB rfl (.tmp 22) (.tmp 25) 40 rfl 36 i0 Try.underlying40 HI.out g i cap cur HB.out (by simp [Act.eval, Act.put]) A q (cap - (i + 1)) news (by simp [Act.eval, Act.put]) (by rw [HI1.out]; exact HNL.out) HS.out.out HONE.out (by omega) (by rw [HI1.out, HNL.out, HSZ.out]; omega) ?_; rw [HI1.out, ← HCUR1.out]))
  have hcl := HC.out w.drew HB.out
  go_wp2
  go_ret
  have hB2 : ((w.drew.setRow g cur1).setRow g cur2).heap[g]? = some (.cells cur2 36 (0, 0)) := setRow_heap _ g cur1 cur2 _ _ (setRow_heap w.drew g cur cur1 _ _ HB.out)
  refine ⟨rfl, ⟨by rw [flatMap_len encM_length], .inr ⟨g, cap, cur2, by rw [HL.out], hKg, hB2, by rw [HL.out]; omega, HM.out, HS2.out, by rw [HL.out]; exact HT2.out⟩⟩, ?_⟩
  exact ((Tn.drew (P := (· = g)) w).then (Tn.setRow _ g cur1)).then (Tn.setRow _ g cur2)
end Go.Proofs.Ytakpfjamlmfbbaa
