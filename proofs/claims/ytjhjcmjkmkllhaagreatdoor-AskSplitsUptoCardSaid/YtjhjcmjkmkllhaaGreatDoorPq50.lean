/- AskSplits' walk. -/
import Derived.Test.YtjhjcmjkmkllhaaGreatDoorPq49
import Derived.Deep.CutBlock
namespace Go.Proofs.YtjhjcmjkmkllhaaGreatDoor
open Go.RowKit Go.BigFrame

/-- What came in, and the box of the query, seen from the world w. -/
structure Cx (q : Qr) (A : Option Addr) (c K0 KP : Nat) (B : Option Addr) (cap : Nat) (l : List Pz) (w wx : World) : Prop where
  bx : Rwo wx w.heap.size (qc q A c) 24
  rr : Rr wx K0 A c q.rs
  ps : Ps wx KP B cap l
  bl : Below w.heap.size w wx
  hk : K0 ≤ w.heap.size
  hp : KP ≤ w.heap.size
theorem Cx.below {q : Qr} {A : Option Addr} {c K0 KP : Nat} {B : Option Addr} {cap : Nat} {l : List Pz} {w wx wy : World} (h : Cx q A c K0 KP B cap l w wx) (hb : Below wx.heap.size wx wy) : Cx q A c K0 KP B cap l w wy :=
  ⟨h.bx.below hb, h.rr.below (hb.mono (Nat.le_trans h.hk h.bl.size)), h.ps.below (hb.mono (Nat.le_trans h.hp h.bl.size)), h.bl.trans (hb.mono h.bl.size), h.hk, h.hp⟩
theorem So.set2 {α : Type} {enc : α → List Value} {k K : Nat} {w : World} {T S : TypeId} {v x y : Value} {l : List α} {b i j : Nat} {cs : Array Value} (h : So enc k w K T v l) (g : Rwo w b cs S) (hT : T ≠ S) : So enc k ((w.setCell ⟨b, i, none⟩ x).setCell ⟨b, j, none⟩ y) K T v l :=
  have h1 : So enc k (w.setCell ⟨b, i, none⟩ x) K T v l := h.keep (grown_set _ _ _ _) (h.nebox g hT)
  h1.keep (grown_set _ _ _ _) (h1.nebox (g.set i x) hT)
theorem mapD {l : List Pz} {i : Nat} (h : i < l.length) : (l.map Prod.fst).getD i default = l[i].1 := getD_fst h
/-- What is to be known of a list's points. -/
def LOk (l : List Pz) : Prop := l.length ≤ 1048576 ∧ (∀ x ∈ l, x.1.set.length ≤ 1048576) ∧ (l.map Prod.fst).length ≤ 1048576 ∧ ∀ p ∈ l.map Prod.fst, PtOk p
theorem LOk.of {l : List Pz} (hl : l.length ≤ 1048576) (h : ∀ x ∈ l, PtOk x.1) : LOk l := ⟨hl, fun x hx => (h x hx).1, by rw [List.length_map]; exact hl, fun p hp => by
  obtain ⟨x, hx, rfl⟩ := List.mem_map.1 hp
  exact h x hx⟩
theorem skip_eq {l : List Pz} {n : Nat} (a : Int) (h : l.length = n) : skipB (l.map Prod.fst) a = (decide ((200 : Int) < n) || !orderB (l.map Prod.fst) || decide (a < 0) || decide ((n : Int) < a) || (decide (0 < a) && decide (a < (n : Int)) && (cmpL ((l.map Prod.fst).getD (a.toNat - 1) default).set ((l.map Prod.fst).getD a.toNat default).set == 0))) := by
  unfold skipB
  rw [List.length_map, h]
  congr 4
  rw [decide_eq_decide]
  omega
theorem skip_no {l : List Pz} {n1 : Nat} (h : skipB (l.map Prod.fst) (n1 : Int) = false) : l.length ≤ 200 ∧ n1 ≤ l.length ∧ Parts ((l.take n1).map Prod.fst) ((l.drop n1).map Prod.fst) := by
  unfold skipB at h
  simp only [Bool.or_eq_false_iff, decide_eq_false_iff_not, List.length_map] at h
  obtain ⟨⟨⟨⟨h1, _⟩, _⟩, h4⟩, h5⟩ := h
  have h4' : n1 ≤ l.length := by omega
  refine ⟨by omega, h4', fun ha hb he => ?_⟩
  rw [List.length_map, List.length_take] at ha
  rw [List.length_map, List.length_drop] at hb
  have i1 : n1 - 1 < l.length := by omega
  have i2 : n1 < l.length := by omega
  have hh : (decide ((0 : Int) < n1) && decide ((n1 : Int) < l.length) && (cmpL ((l.map Prod.fst).getD (n1 - 1) default).set ((l.map Prod.fst).getD n1 default).set == 0)) = true := by
    rw [decide_eq_true (show (0 : Int) < n1 by omega), decide_eq_true (show (n1 : Int) < l.length by omega), mapD i1, mapD i2]
    simp only [Bool.true_and, beq_iff_eq]
    have e1 : ((l.take n1).map Prod.fst)[((l.take n1).map Prod.fst).length - 1]'(by rw [List.length_map, List.length_take]; omega) = l[n1 - 1].1 := by
      rw [List.getElem_map, List.getElem_take]
      congr 2
      rw [List.length_map, List.length_take]
      omega
    have e2 : ((l.drop n1).map Prod.fst)[0]'(by rw [List.length_map, List.length_drop]; omega) = l[n1].1 := by
      rw [List.getElem_map, List.getElem_drop]
      rfl
    rw [e1, e2] at he
    exact he
  rw [Int.toNat_natCast] at h5
  rw [hh] at h5
  cases h5
set_option maxRecDepth 100000 in
set_option maxHeartbeats 1000000 in
theorem asksplits_any {q : Qr} {A : Option Addr} {c K0 KP : Nat} (B : Option Addr) (n cap : Nat) (l : List Pz) (a : Int) (w : World) (hln : l.length = n) (hp : Ps w KP B cap l) (hKP : KP ≤ w.heap.size) (hr : Rr w K0 A c q.rs) (hK0 : K0 ≤ w.heap.size) (hS : SmR q.rs) (hql0 : q.rs.length ≤ 1048576) (hq : Qok q)
    (hl : l.length ≤ 1048576) (hok : ∀ x ∈ l, PtOk x.1) (hm : Mx w) (he : Errs w) (hpw : Pow w) (hg : Sg w) (hwo : Wo w) :
    Calls Tryz.prog 4 #[qv q A c, .slice B n cap, .int .i64 a] w fun e w' => e = .returned (.bool true) ∧ Below w.heap.size w w' := by
  have HMX : Hid (∀ wx, Below w.heap.size w wx → Mx wx) := Lib.hid fun wx h => Mx.below hm h
  have HAW : Hid (∀ wx, Below w.heap.size w wx → Calls Tryz.prog 9 #[] wx fun e w' => e = .returned (.bool true) ∧ Below wx.heap.size wx w') := Lib.hid fun wx h => awakeQ_any wx (Mx.below hm h) (he.below h) (hpw.below h) (Sg.below hg h) (hwo.below h)
  have hql : Hid (q.rs.length ≤ 1048576) := Lib.hid hql0
  have hSM := Lib.hid hS
  have hqs := Lib.hid hq.s2
  have HOK := Lib.hid hok
  have hle := hp.sr.le
  have hmax := hp.sr.max
  unfold maxLen at hmax
  rw [hln] at hle
  have HLN := Lib.hid hln
  obtain ⟨W0, hW0⟩ : ∃ W0, W0 = w.alloc (.cells (qc q A c) 24) := ⟨_, rfl⟩
  have B0 : Below w.heap.size w W0 := by rw [hW0]; exact (Below.refl _ _).alloc (Nat.le_refl _) _
  have HC0 : Hid (Cx q A c K0 KP B cap l w W0) := Lib.hid ⟨⟨by rw [hW0]; exact heap_alloc_new w _⟩, hr.below (B0.mono hK0), hp.below (B0.mono hKP), B0, hK0, hKP⟩
  have HWW := Lib.hid hW0
  have hlI : l.length ≤ 1048576 := hl
  clear hm he hpw hg hwo hS hql0 hq hok hp hr B0 hW0 hln hl
  go_enter Tryz.func4, Tryz.ntmps4
  go_upto_region 1 with fail
  rw [← HWW.out]
  clear HWW
  go_cut [55] from 14 to 54 (fun v wx => v = .bool (skipB (l.map Prod.fst) a) ∧ Dn W0 wx)
  case first =>
    have HOQ0 : Hid (∀ n', Calls Tryz.prog 5 #[.slice B n cap] (W0.drewN n') fun e w' => e = .returned (.bool (orderB (l.map Prod.fst))) ∧ ∃ m, w' = (W0.drewN n').drewN m) := Lib.hid fun n' => orderQ_any HLN.out ((show Dn W0 (W0.drewN n') from ⟨n', rfl⟩).ps HC0.out.ps)
    have HSK0 := Lib.hid (skip_eq a HLN.out)
    obtain ⟨ob, hob⟩ : ∃ ob, ob = orderB (l.map Prod.fst) := ⟨_, rfl⟩
    rw [← hob] at HOQ0 HSK0
    have HOQ : Hid (∀ n', Calls Tryz.prog 5 #[.slice B n cap] (W0.drewN n') fun e w' => e = .returned (.bool ob) ∧ ∃ m, w' = (W0.drewN n').drewN m) := HOQ0
    have HSK := HSK0
    clear hob HOQ0 HSK0
    cases c1 : decide ((200 : Int) < n) with
    | true =>
      go_big_quiet (first | (go_at_call 5; exact Calls.quiet_of (HOQ.out _)))
      go_wp2_with fail
      go_meet
      exact ⟨by rw [HSK.out, c1]; simp, ⟨_, rfl⟩⟩
    | false =>
    cases ob with
    | false =>
      go_big_quiet (first | (go_at_call 5; exact Calls.quiet_of (HOQ.out _)))
      go_wp2_with fail
      go_meet
      exact ⟨by rw [HSK.out, c1]; simp, ⟨_, rfl⟩⟩
    | true =>
    cases c3 : decide (a < 0) with
    | true =>
      go_big_quiet (first | (go_at_call 5; exact Calls.quiet_of (HOQ.out _)))
      go_wp2_with fail
      go_meet
      exact ⟨by rw [HSK.out, c1, c3]; simp, ⟨_, rfl⟩⟩
    | false =>
    cases c4 : decide ((n : Int) < a) with
    | true =>
      go_big_quiet (first | (go_at_call 5; exact Calls.quiet_of (HOQ.out _)))
      go_wp2_with fail
      go_meet
      exact ⟨by rw [HSK.out, c1, c3, c4]; simp, ⟨_, rfl⟩⟩
    | false =>
    cases c5 : decide (0 < a) with
    | false =>
      go_big_quiet (first | (go_at_call 5; exact Calls.quiet_of (HOQ.out _)))
      go_wp2_with fail
      go_meet
      exact ⟨by rw [HSK.out, c1, c3, c4, c5]; simp, ⟨_, rfl⟩⟩
    | true =>
    cases c6 : decide (a < (n : Int)) with
    | false =>
      go_big_quiet (first | (go_at_call 5; exact Calls.quiet_of (HOQ.out _)))
      go_wp2_with fail
      go_meet
      exact ⟨by rw [HSK.out, c1, c3, c4, c5, c6]; simp, ⟨_, rfl⟩⟩
    | true =>
    obtain ⟨k, rfl⟩ : ∃ k : Nat, a = (k : Int) + 1 := by
      have h9 := of_decide_eq_true c5
      exact ⟨(a - 1).toNat, by omega⟩
    have hkn : k + 1 < n := by have h9 := of_decide_eq_true c6; omega
    have hk1 : (k : Int) + 1 < n := by omega
    have hk9 : k < l.length := by have h9 := HLN.out; omega
    have hk10 : k + 1 < l.length := by have h9 := HLN.out; omega
    obtain ⟨ad, hA, _, gd0, _⟩ := ps_cells HC0.out.ps.sr (i := k) hk9
    obtain ⟨ae, hB, _, ge0, _⟩ := ps_cells HC0.out.ps.sr (i := k + 1) hk10
    subst hA
    cases hB
    have hs1 := HC0.out.ps.st (l[k]'hk9) (List.getElem_mem hk9)
    have hs2 := HC0.out.ps.st (l[k + 1]'hk10) (List.getElem_mem hk10)
    have hX : (cmpL ((l.map Prod.fst).getD (((k : Int) + 1).toNat - 1) default).set ((l.map Prod.fst).getD ((k : Int) + 1).toNat default).set == 0) = (cmpL (l[k]'hk9).1.set (l[k + 1]'hk10).1.set == 0) := by
      rw [show ((k : Int) + 1).toNat = k + 1 by omega, show k + 1 - 1 = k by omega, mapD hk9, mapD hk10]
    rw [hX] at HSK
    clear hX
    generalize (l[k]'hk9) = x at *
    generalize (l[k + 1]'hk10) = y at *
    obtain ⟨p, a1, d1⟩ := x
    obtain ⟨p2, a2, d2⟩ := y
    simp only at gd0 ge0 hs1 hs2 HSK
    have HSQ : Hid (∀ n', Calls Tryz.prog 15 #[.slice a1 p.set.length d1, .slice a2 p2.set.length d2] (W0.drewN n') fun e w' => e = .returned (.bool (cmpL p.set p2.set == 0)) ∧ ∃ m, w' = (W0.drewN n').drewN m) := Lib.hid fun n' =>
      rSameQ_any KP a1 a2 p.set.length p2.set.length d1 d2 p.set p2.set (W0.drewN n') rfl rfl (hs1.drewN n') (hs2.drewN n')
    generalize (cmpL p.set p2.set == 0) = xb at *
    clear hs1 hs2
    cases xb with
    | true =>
      go_big_quiet (first | (go_at_call 5; exact Calls.quiet_of (HOQ.out _)) | (go_at_call 15; exact Calls.quiet_of (HSQ.out _)))
      go_wp2_with fail
      go_meet
      exact ⟨by rw [HSK.out, c1, c3, c4, c5, c6]; simp, ⟨_, rfl⟩⟩
    | false =>
      go_big_quiet (first | (go_at_call 5; exact Calls.quiet_of (HOQ.out _)) | (go_at_call 15; exact Calls.quiet_of (HSQ.out _)))
      go_wp2_with fail
      go_meet
      exact ⟨by rw [HSK.out, c1, c3, c4, c5, c6]; simp, ⟨_, rfl⟩⟩
  case rest =>
    obtain ⟨rfl, hdn⟩ := hcut
    rename World => W1
    have HC1 := Lib.hid (HC0.out.below hdn.below)
    clear hdn HC0
    cases hsk : skipB (l.map Prod.fst) a with
    | true =>
      have HAW1 := Lib.hid (HAW.out W1 HC1.out.bl)
      clear hsk
      go_wp2_with fail
      refine HAW1.out.mono ?_
      rintro e w9 ⟨rfl, b9⟩
      have HB9 := Lib.hid (HC1.out.bl.trans (b9.mono HC1.out.bl.size))
      clear b9
      go_wp2_with fail
      go_ret
      exact ⟨rfl, HB9.out⟩
    | false =>
    obtain ⟨n1, rfl⟩ : ∃ n1 : Nat, a = (n1 : Int) := by
      have h9 := hsk
      unfold skipB at h9
      simp only [Bool.or_eq_false_iff, decide_eq_false_iff_not] at h9
      exact Int.eq_ofNat_of_zero_le (by omega)
    obtain ⟨hl200, hn1, hparts⟩ := skip_no hsk
    rw [HLN.out] at hl200 hn1
    obtain ⟨la, hla⟩ : ∃ la, la = l.take n1 := ⟨_, rfl⟩
    obtain ⟨lb, hlb⟩ : ∃ lb, lb = l.drop n1 := ⟨_, rfl⟩
    have hnl := HLN.out
    have HLA : Hid (la.length = n1) := Lib.hid (by rw [hla, List.length_take]; omega)
    obtain ⟨m2, hm2⟩ : ∃ m2, m2 = n - n1 := ⟨_, rfl⟩
    obtain ⟨cap2, hcap2⟩ : ∃ cap2, cap2 = cap - n1 := ⟨_, rfl⟩
    obtain ⟨B2, hB2⟩ : ∃ B2, B2 = (if cap = n1 then B else B.map (·.add (n1 * 8))) := ⟨_, rfl⟩
    have HLB : Hid (lb.length = m2) := Lib.hid (by rw [hlb, List.length_drop]; omega)
    have HPA : Hid (∀ wx, Ps wx KP B cap l → Ps wx KP B cap la) := Lib.hid fun wx h => by rw [hla]; exact h.to (by omega)
    have HPB : Hid (∀ wx, Ps wx KP B cap l → Ps wx KP B2 cap2 lb) := Lib.hid fun wx h => by rw [hlb, hB2, hcap2]; exact h.from (by omega)
    have hoka : LOk la := LOk.of (by rw [hla, List.length_take]; omega) fun x hx => HOK.out x (List.mem_of_mem_take (hla ▸ hx))
    have hokb : LOk lb := LOk.of (by rw [hlb, List.length_drop]; omega) fun x hx => HOK.out x (List.mem_of_mem_drop (hlb ▸ hx))
    have hokl : LOk l := LOk.of (by omega) HOK.out
    obtain ⟨LA, hLA⟩ : ∃ LA, LA = la.map Prod.fst := ⟨_, rfl⟩
    obtain ⟨LB, hLB⟩ : ∃ LB, LB = lb.map Prod.fst := ⟨_, rfl⟩
    obtain ⟨LP, hLP⟩ : ∃ LP, LP = l.map Prod.fst := ⟨_, rfl⟩
    have HOA : Hid (LA.length ≤ 1048576 ∧ ∀ p ∈ LA, PtOk p) := Lib.hid (by rw [hLA]; exact ⟨hoka.2.2.1, hoka.2.2.2⟩)
    have HOB : Hid (LB.length ≤ 1048576 ∧ ∀ p ∈ LB, PtOk p) := Lib.hid (by rw [hLB]; exact ⟨hokb.2.2.1, hokb.2.2.2⟩)
    have HOL : Hid (LP.length ≤ 1048576 ∧ ∀ p ∈ LP, PtOk p) := Lib.hid (by rw [hLP]; exact ⟨hokl.2.2.1, hokl.2.2.2⟩)
    have HLL : Hid (LA.length + LB.length ≤ 1048576) := Lib.hid (by rw [hLA, hLB, List.length_map, List.length_map, HLA.out, HLB.out]; omega)
    have HPTA : Hid (∀ wx, Cx q A c K0 KP B cap l w wx → Calls Tryz.prog 8 #[.slice B n1 cap] wx (NewPz 52 54 wx LA)) := Lib.hid fun wx h => by
      rw [hLA]
      exact points_any KP B n1 cap la wx HLA.out (HPA.out wx h.ps) (Nat.le_trans h.hp h.bl.size) hoka.1 hoka.2.1
    have HPTB : Hid (∀ wx, Cx q A c K0 KP B cap l w wx → Calls Tryz.prog 8 #[.slice B2 m2 cap2] wx (NewPz 52 54 wx LB)) := Lib.hid fun wx h => by
      rw [hLB]
      exact points_any KP B2 m2 cap2 lb wx HLB.out (HPB.out wx h.ps) (Nat.le_trans h.hp h.bl.size) hokb.1 hokb.2.1
    have HPT : Hid (∀ wx, Cx q A c K0 KP B cap l w wx → Calls Tryz.prog 8 #[.slice B n cap] wx (NewPz 52 54 wx LP)) := Lib.hid fun wx h => by
      rw [hLP]
      exact points_any KP B n cap l wx HLN.out h.ps (Nat.le_trans h.hp h.bl.size) hokl.1 hokl.2.1
    have hst := fun W => slice_toK undDP szDP B n cap n1 (by omega) W
    have hsf := fun W => slice_fromK undDP szDP B n cap n1 (by omega) W
    have happ := runQ_app (q := q) hparts (by rw [← List.map_append, List.take_append_drop, List.length_map]; omega)
    rw [← List.map_append, List.take_append_drop] at happ
    rw [← hla, ← hlb, ← hLA, ← hLB, ← hLP] at happ
    obtain ⟨ea, hea⟩ : ∃ ea, ea = (runQ q LA).1 := ⟨_, rfl⟩
    obtain ⟨eb, heb⟩ : ∃ eb, eb = (runQ q LB).1 := ⟨_, rfl⟩
    obtain ⟨eall, heall⟩ : ∃ eall, eall = (runQ q LP).1 := ⟨_, rfl⟩
    have HALL : Hid ((ea ≠ 0 → eall = ea) ∧ (ea = 0 → eb ≠ 0 → eall = eb) ∧ (ea = 0 → eb = 0 → eall = 0 ∧ Hid ((runQ q LP).2.1 = (runQ q LA).2.1 ++ (runQ q LB).2.1) ∧ Hid ((runQ q LP).2.2 = (runQ q LA).2.2 ++ (runQ q LB).2.2))) := Lib.hid (by
      rw [heall, hea, heb, happ]
      refine ⟨fun h => by rw [if_pos h], fun h1 h2 => by rw [if_neg (by simp [h1]), if_pos h2], fun h1 h2 => ?_⟩
      rw [if_neg (by simp [h1]), if_neg (by simp [h2])]
      exact ⟨rfl, Lib.hid rfl, Lib.hid rfl⟩)
    have HEA := Lib.hid hea
    have HEB := Lib.hid heb
    have HEL := Lib.hid heall
    have HSE : Hid (Value.slice (if cap = n1 then B else Option.map (fun x => x.add (n1 * 8)) B) (n - n1) (cap - n1) = .slice B2 m2 cap2) := Lib.hid (by rw [hB2, hm2, hcap2])
    have HTO := Lib.hid (fun wx (h : Cx q A c K0 KP B cap l w wx) => toQ_any wx h.rr (Nat.le_trans h.hk h.bl.size) hql.out)
    have x0 : W1.cell? ⟨w.heap.size, 0, none⟩ = some (.int .i64 q.op) := HC1.out.bx.cell rfl
    have x1 : W1.cell? ⟨w.heap.size, 1, none⟩ = some (.slice A q.rs.length c) := HC1.out.bx.cell rfl
    have x2 : W1.cell? ⟨w.heap.size, 2, none⟩ = some (.int .i64 q.fr) := HC1.out.bx.cell rfl
    have x3 : W1.cell? ⟨w.heap.size, 3, none⟩ = some (.int .i64 q.to_) := HC1.out.bx.cell rfl
    have x4 : W1.cell? ⟨w.heap.size, 4, none⟩ = some (.int .i64 q.st) := HC1.out.bx.cell rfl
    have x5 : W1.cell? ⟨w.heap.size, 5, none⟩ = some (.bool q.nt) := HC1.out.bx.cell rfl
    have xl := HC1.out.bx.lt
    clear hsk hparts hla hlb hnl hm2 hcap2 hB2 happ hea heb heall hLA hLB hLP hoka hokb hokl
    go_wp2_with fail
    refine (HTO.out W1 HC1.out).mono ?_
    rintro e w2 ⟨A2, c2, rfl, ra2, b2⟩
    have HC2 := Lib.hid (HC1.out.below b2)
    have HRA2 := Lib.hid ra2
    have hz12 : W1.heap.size ≤ w2.heap.size := b2.size
    clear b2 ra2 x0 x1 x2 x3 x4 x5 xl
    go_wp2_with fail
    refine (HPT.out w2 HC2.out).mono ?_
    rintro e w3 ⟨A3, c3, lz, rfl, hlz, pw3, b3⟩
    have HC3 := Lib.hid (HC2.out.below b3)
    have HRA3 := Lib.hid (So.below HRA2.out b3)
    have HRZ := Lib.hid (runZ_any (q := q) (A := A2) (c := c2) (B := w.heap.size) w3 hlz (pw3.more (Nat.le_trans HC1.out.bl.size hz12)) (So.more HRA3.out HC1.out.bl.size) hSM.out (HMX.out w3 HC3.out.bl) hqs.out HOL.out.1 HOL.out.2)
    clear b3 hlz pw3
    go_wp2_with fail
    refine HRZ.out.mono ?_
    rintro e w4 hrn
    obtain ⟨A4, B4, c4, d4, rs4, ns4, rfl, hr4, hn4, rg4, pw4, b4⟩ := hrn
    have HC4 := Lib.hid (HC3.out.below b4)
    rw [← HEL.out]
    obtain ⟨W5, hW5⟩ : ∃ W5, W5 = w4.alloc (.cells (ceA A4 B4 rs4.length ns4.length c4 d4) 30) := ⟨_, rfl⟩
    have hba : Below w4.heap.size w4 W5 := by rw [hW5]; exact (Below.refl _ _).alloc (Nat.le_refl _) _
    obtain ⟨b7, hb7⟩ : ∃ b7, b7 = w4.heap.size := ⟨_, rfl⟩
    have HO75 : Hid (Bo9 q LP w.heap.size b7 W5) := Lib.hid ⟨A4, B4, c4, d4, rs4, ns4, by have := HC4.out.bl.size; omega, ⟨by rw [hW5, hb7]; exact heap_alloc_new w4 _⟩, ⟨hr4, hn4, (rg4.more HC3.out.bl.size).below hba, (pw4.more HC3.out.bl.size).below hba⟩⟩
    have HC5 := Lib.hid (HC4.out.below hba)
    have HW5 := Lib.hid hW5
    have HB7 := Lib.hid hb7
    clear b4 hr4 hn4 rg4 pw4 hW5 hba hb7
    go_upto_region 4 with fail
    rw [← HB7.out, ← HW5.out]
    clear HW5 HB7
    apply region_LL (fun (_ : Nat → Bool) => HL q LA W5.heap.size) (fun wx => Below W5.heap.size W5 wx) (Zx W5.heap.size) (Bx9 q LA W5.heap.size) 10 11 8 [.v (qv q A c), .q, .v (.slice B n cap), .v (.int .i64 (n1 : Nat)), .v ((.slice B n1 cap)), .pz, .rn, .rn, .an, .v (.int .i64 (runQ q LA).1), .v undef, .v undef, .v (.int .i64 (runQ q LA).1)] (.v undef)
    case hm => kernel_rfl
    case hf => kernel_rfl
    case hk => kernel_rfl
    case hQ => exact (by intro c x y w e h; exact And.intro (e.symm.trans (And.left h)) (And.right h))
    case hF => intro vs; simp only [putAll, Act.put, List.setIfInBounds_toArray, List.set_cons_zero, List.set_cons_succ, Nat.reduceAdd]; rfl
    case hsu => exact fun _ _ => rfl
    case h0 => exact ⟨rfl, rfl, rfl, Nat.le_refl _, fun _ _ => rfl⟩
    case hstep =>
      repeat' (first | exact AllOps.nil | apply AllOps.cons)
      · intro lq9 vs wx hli hrs hG hd
        refine ⟨fun _ h => absurd h (by decide), fun _ K9 hK => ?_⟩
        replace hK : ∀ (uu : Value) (w' : World), ((fun wx => Below W5.heap.size W5 wx)) w' → (∀ j u, Nat.beq j 0 = false → Nat.beq j 10 = false → (fun (_ : Nat → Bool) => HL q LA W5.heap.size) lq9 (([.v (qv q A c), .q, .v (.slice B n cap), .v (.int .i64 (n1 : Nat)), .v ((.slice B n1 cap)), .pz, .rn, .rn, .an, .v (.int .i64 (runQ q LA).1), .v undef, .v undef, .v (.int .i64 (runQ q LA).1)] : List _).getD j (.v undef)) u wx → (fun (_ : Nat → Bool) => HL q LA W5.heap.size) (updR lq9 0 true) (([.v (qv q A c), .q, .v (.slice B n cap), .v (.int .i64 (n1 : Nat)), .v ((.slice B n1 cap)), .pz, .rn, .rn, .an, .v (.int .i64 (runQ q LA).1), .v undef, .v undef, .v (.int .i64 (runQ q LA).1)] : List _).getD j (.v undef)) u w') → (∀ g, ((Zx W5.heap.size)) g wx → ((Zx W5.heap.size)) g w') → (lq9 11 = true → ∀ u g, ((Bx9 q LA W5.heap.size)) u g wx → ((Bx9 q LA W5.heap.size)) u g w') → (Nat.beq 0 10 = true → ∃ g, uu = .pointer (some ⟨g, 0, none⟩) ∧ ((Zx W5.heap.size)) g w') → (Nat.beq 0 10 = false → (fun (_ : Nat → Bool) => HL q LA W5.heap.size) (updR lq9 0 true) (.v (qv q A c)) uu w') → K9 _ w' := hK
        simp only [Act.put, List.setIfInBounds_toArray, List.set_cons_zero, List.set_cons_succ] at hK ⊢
        have HK := Lib.hid hK
        have HG := Lib.hid hG
        clear hK hd
        have hbw := HG.out
        have hcx := HC5.out.below hbw
        have x0 : wx.cell? ⟨w.heap.size, 0, none⟩ = some (.int .i64 q.op) := hcx.bx.cell rfl
        have x1 : wx.cell? ⟨w.heap.size, 1, none⟩ = some (.slice A q.rs.length c) := hcx.bx.cell rfl
        have x2 : wx.cell? ⟨w.heap.size, 2, none⟩ = some (.int .i64 q.fr) := hcx.bx.cell rfl
        have x3 : wx.cell? ⟨w.heap.size, 3, none⟩ = some (.int .i64 q.to_) := hcx.bx.cell rfl
        have x4 : wx.cell? ⟨w.heap.size, 4, none⟩ = some (.int .i64 q.st) := hcx.bx.cell rfl
        have x5 : wx.cell? ⟨w.heap.size, 5, none⟩ = some (.bool q.nt) := hcx.bx.cell rfl
        have xl := hcx.bx.lt
        clear hG hcx hbw
        go_simp
        exact HK.out _ _ HG.out (fun _ _ _ _ h9 => h9) (fun _ h9 => h9) (fun _ _ _ h9 => h9) (fun h => absurd h (by decide)) (fun _ => rfl)
      · intro lq9 vs wx hli hrs hG hd
        refine ⟨fun _ h => absurd h (by decide), fun _ K9 hK => ?_⟩
        have e0 : vs 0 = qv q A c := hd.get (j := 0) (by simp [depsOf, Region.binds]) (by decide)
        replace hK : ∀ (uu : Value) (w' : World), ((fun wx => Below W5.heap.size W5 wx)) w' → (∀ j u, Nat.beq j 1 = false → Nat.beq j 10 = false → (fun (_ : Nat → Bool) => HL q LA W5.heap.size) lq9 (([.v (qv q A c), .q, .v (.slice B n cap), .v (.int .i64 (n1 : Nat)), .v ((.slice B n1 cap)), .pz, .rn, .rn, .an, .v (.int .i64 (runQ q LA).1), .v undef, .v undef, .v (.int .i64 (runQ q LA).1)] : List _).getD j (.v undef)) u wx → (fun (_ : Nat → Bool) => HL q LA W5.heap.size) (updR lq9 1 true) (([.v (qv q A c), .q, .v (.slice B n cap), .v (.int .i64 (n1 : Nat)), .v ((.slice B n1 cap)), .pz, .rn, .rn, .an, .v (.int .i64 (runQ q LA).1), .v undef, .v undef, .v (.int .i64 (runQ q LA).1)] : List _).getD j (.v undef)) u w') → (∀ g, ((Zx W5.heap.size)) g wx → ((Zx W5.heap.size)) g w') → (lq9 11 = true → ∀ u g, ((Bx9 q LA W5.heap.size)) u g wx → ((Bx9 q LA W5.heap.size)) u g w') → (Nat.beq 1 10 = true → ∃ g, uu = .pointer (some ⟨g, 0, none⟩) ∧ ((Zx W5.heap.size)) g w') → (Nat.beq 1 10 = false → (fun (_ : Nat → Bool) => HL q LA W5.heap.size) (updR lq9 1 true) (.q) uu w') → K9 _ w' := hK
        simp only [Act.put, List.setIfInBounds_toArray, List.set_cons_zero, List.set_cons_succ, e0] at hK ⊢
        have HK := Lib.hid hK
        have HG := Lib.hid hG
        clear hK hd e0
        have hbw := HG.out
        have hcx := HC5.out.below hbw
        clear hG
        go_simp
        go_at_call 7
        refine (toQ_any wx hcx.rr (Nat.le_trans hcx.hk hcx.bl.size) hql.out).mono ?_
        rintro en w9 ⟨A9, c9, rfl, ra9, hb⟩
        exact HK.out _ _ (hbw.trans (hb.mono hbw.size)) (fun _ _ _ _ h => HL.mono h hb) (fun _ h => Zx.mono h hb) (fun _ _ _ h => Bx9.mono h hb) (fun h => absurd h (by decide)) (fun _ => ⟨A9, c9, rfl, So.more ra9 hbw.size⟩)
      · intro lq9 vs wx hli hrs hG hd
        refine ⟨fun _ h => absurd h (by decide), fun _ K9 hK => ?_⟩
        replace hK : ∀ (uu : Value) (w' : World), ((fun wx => Below W5.heap.size W5 wx)) w' → (∀ j u, Nat.beq j 2 = false → Nat.beq j 10 = false → (fun (_ : Nat → Bool) => HL q LA W5.heap.size) lq9 (([.v (qv q A c), .q, .v (.slice B n cap), .v (.int .i64 (n1 : Nat)), .v ((.slice B n1 cap)), .pz, .rn, .rn, .an, .v (.int .i64 (runQ q LA).1), .v undef, .v undef, .v (.int .i64 (runQ q LA).1)] : List _).getD j (.v undef)) u wx → (fun (_ : Nat → Bool) => HL q LA W5.heap.size) (updR lq9 2 true) (([.v (qv q A c), .q, .v (.slice B n cap), .v (.int .i64 (n1 : Nat)), .v ((.slice B n1 cap)), .pz, .rn, .rn, .an, .v (.int .i64 (runQ q LA).1), .v undef, .v undef, .v (.int .i64 (runQ q LA).1)] : List _).getD j (.v undef)) u w') → (∀ g, ((Zx W5.heap.size)) g wx → ((Zx W5.heap.size)) g w') → (lq9 11 = true → ∀ u g, ((Bx9 q LA W5.heap.size)) u g wx → ((Bx9 q LA W5.heap.size)) u g w') → (Nat.beq 2 10 = true → ∃ g, uu = .pointer (some ⟨g, 0, none⟩) ∧ ((Zx W5.heap.size)) g w') → (Nat.beq 2 10 = false → (fun (_ : Nat → Bool) => HL q LA W5.heap.size) (updR lq9 2 true) (.v (.slice B n cap)) uu w') → K9 _ w' := hK
        simp only [Act.put, List.setIfInBounds_toArray, List.set_cons_zero, List.set_cons_succ] at hK ⊢
        have HK := Lib.hid hK
        have HG := Lib.hid hG
        clear hK hd
        clear hG
        go_simp
        exact HK.out _ _ HG.out (fun _ _ _ _ h9 => h9) (fun _ h9 => h9) (fun _ _ _ h9 => h9) (fun h => absurd h (by decide)) (fun _ => rfl)
      · intro lq9 vs wx hli hrs hG hd
        refine ⟨fun _ h => absurd h (by decide), fun _ K9 hK => ?_⟩
        replace hK : ∀ (uu : Value) (w' : World), ((fun wx => Below W5.heap.size W5 wx)) w' → (∀ j u, Nat.beq j 3 = false → Nat.beq j 10 = false → (fun (_ : Nat → Bool) => HL q LA W5.heap.size) lq9 (([.v (qv q A c), .q, .v (.slice B n cap), .v (.int .i64 (n1 : Nat)), .v ((.slice B n1 cap)), .pz, .rn, .rn, .an, .v (.int .i64 (runQ q LA).1), .v undef, .v undef, .v (.int .i64 (runQ q LA).1)] : List _).getD j (.v undef)) u wx → (fun (_ : Nat → Bool) => HL q LA W5.heap.size) (updR lq9 3 true) (([.v (qv q A c), .q, .v (.slice B n cap), .v (.int .i64 (n1 : Nat)), .v ((.slice B n1 cap)), .pz, .rn, .rn, .an, .v (.int .i64 (runQ q LA).1), .v undef, .v undef, .v (.int .i64 (runQ q LA).1)] : List _).getD j (.v undef)) u w') → (∀ g, ((Zx W5.heap.size)) g wx → ((Zx W5.heap.size)) g w') → (lq9 11 = true → ∀ u g, ((Bx9 q LA W5.heap.size)) u g wx → ((Bx9 q LA W5.heap.size)) u g w') → (Nat.beq 3 10 = true → ∃ g, uu = .pointer (some ⟨g, 0, none⟩) ∧ ((Zx W5.heap.size)) g w') → (Nat.beq 3 10 = false → (fun (_ : Nat → Bool) => HL q LA W5.heap.size) (updR lq9 3 true) (.v (.int .i64 (n1 : Nat))) uu w') → K9 _ w' := hK
        simp only [Act.put, List.setIfInBounds_toArray, List.set_cons_zero, List.set_cons_succ] at hK ⊢
        have HK := Lib.hid hK
        have HG := Lib.hid hG
        clear hK hd
        clear hG
        go_simp
        exact HK.out _ _ HG.out (fun _ _ _ _ h9 => h9) (fun _ h9 => h9) (fun _ _ _ h9 => h9) (fun h => absurd h (by decide)) (fun _ => rfl)
      · intro lq9 vs wx hli hrs hG hd
        refine ⟨fun _ h => absurd h (by decide), fun _ K9 hK => ?_⟩
        have e2 : vs 2 = .slice B n cap := hd.get (j := 2) (by simp [depsOf, Region.binds]) (by decide)
        have e3 : vs 3 = .int .i64 (n1 : Nat) := hd.get (j := 3) (by simp [depsOf, Region.binds]) (by decide)
        replace hK : ∀ (uu : Value) (w' : World), ((fun wx => Below W5.heap.size W5 wx)) w' → (∀ j u, Nat.beq j 4 = false → Nat.beq j 10 = false → (fun (_ : Nat → Bool) => HL q LA W5.heap.size) lq9 (([.v (qv q A c), .q, .v (.slice B n cap), .v (.int .i64 (n1 : Nat)), .v ((.slice B n1 cap)), .pz, .rn, .rn, .an, .v (.int .i64 (runQ q LA).1), .v undef, .v undef, .v (.int .i64 (runQ q LA).1)] : List _).getD j (.v undef)) u wx → (fun (_ : Nat → Bool) => HL q LA W5.heap.size) (updR lq9 4 true) (([.v (qv q A c), .q, .v (.slice B n cap), .v (.int .i64 (n1 : Nat)), .v ((.slice B n1 cap)), .pz, .rn, .rn, .an, .v (.int .i64 (runQ q LA).1), .v undef, .v undef, .v (.int .i64 (runQ q LA).1)] : List _).getD j (.v undef)) u w') → (∀ g, ((Zx W5.heap.size)) g wx → ((Zx W5.heap.size)) g w') → (lq9 11 = true → ∀ u g, ((Bx9 q LA W5.heap.size)) u g wx → ((Bx9 q LA W5.heap.size)) u g w') → (Nat.beq 4 10 = true → ∃ g, uu = .pointer (some ⟨g, 0, none⟩) ∧ ((Zx W5.heap.size)) g w') → (Nat.beq 4 10 = false → (fun (_ : Nat → Bool) => HL q LA W5.heap.size) (updR lq9 4 true) (.v ((.slice B n1 cap))) uu w') → K9 _ w' := hK
        simp only [Act.put, List.setIfInBounds_toArray, List.set_cons_zero, List.set_cons_succ, e2, e3] at hK ⊢
        have HK := Lib.hid hK
        have HG := Lib.hid hG
        clear hK hd e2 e3
        clear hG
        go_simp
        exact HK.out _ _ HG.out (fun _ _ _ _ h9 => h9) (fun _ h9 => h9) (fun _ _ _ h9 => h9) (fun h => absurd h (by decide)) (fun _ => rfl)
      · intro lq9 vs wx hli hrs hG hd
        refine ⟨fun _ h => absurd h (by decide), fun _ K9 hK => ?_⟩
        have e4 : vs 4 = (.slice B n1 cap) := hd.get (j := 4) (by simp [depsOf, Region.binds]) (by decide)
        replace hK : ∀ (uu : Value) (w' : World), ((fun wx => Below W5.heap.size W5 wx)) w' → (∀ j u, Nat.beq j 5 = false → Nat.beq j 10 = false → (fun (_ : Nat → Bool) => HL q LA W5.heap.size) lq9 (([.v (qv q A c), .q, .v (.slice B n cap), .v (.int .i64 (n1 : Nat)), .v ((.slice B n1 cap)), .pz, .rn, .rn, .an, .v (.int .i64 (runQ q LA).1), .v undef, .v undef, .v (.int .i64 (runQ q LA).1)] : List _).getD j (.v undef)) u wx → (fun (_ : Nat → Bool) => HL q LA W5.heap.size) (updR lq9 5 true) (([.v (qv q A c), .q, .v (.slice B n cap), .v (.int .i64 (n1 : Nat)), .v ((.slice B n1 cap)), .pz, .rn, .rn, .an, .v (.int .i64 (runQ q LA).1), .v undef, .v undef, .v (.int .i64 (runQ q LA).1)] : List _).getD j (.v undef)) u w') → (∀ g, ((Zx W5.heap.size)) g wx → ((Zx W5.heap.size)) g w') → (lq9 11 = true → ∀ u g, ((Bx9 q LA W5.heap.size)) u g wx → ((Bx9 q LA W5.heap.size)) u g w') → (Nat.beq 5 10 = true → ∃ g, uu = .pointer (some ⟨g, 0, none⟩) ∧ ((Zx W5.heap.size)) g w') → (Nat.beq 5 10 = false → (fun (_ : Nat → Bool) => HL q LA W5.heap.size) (updR lq9 5 true) (.pz) uu w') → K9 _ w' := hK
        simp only [Act.put, List.setIfInBounds_toArray, List.set_cons_zero, List.set_cons_succ, e4] at hK ⊢
        have HK := Lib.hid hK
        have HG := Lib.hid hG
        clear hK hd e4
        have hbw := HG.out
        have hcx := HC5.out.below hbw
        clear hG
        go_simp
        go_at_call 8
        refine (HPTA.out wx hcx).mono ?_
        rintro en w9 ⟨A9, c9, lz9, rfl, hz9, pw9, hb⟩
        exact HK.out _ _ (hbw.trans (hb.mono hbw.size)) (fun _ _ _ _ h => HL.mono h hb) (fun _ h => Zx.mono h hb) (fun _ _ _ h => Bx9.mono h hb) (fun h => absurd h (by decide)) (fun _ => ⟨A9, c9, lz9, rfl, hz9, pw9.more hbw.size⟩)
      · intro lq9 vs wx hli hrs hG hd
        refine ⟨fun _ h => absurd h (by decide), fun _ K9 hK => ?_⟩
        obtain ⟨A1, d1, e1, r1⟩ : ∃ A' c', vs 1 = qv q A' c' ∧ Ra wx W5.heap.size (.slice A' q.rs.length c') q.rs := hd.get (j := 1) (by simp [depsOf, Region.binds]) (by decide)
        obtain ⟨A5, d5, z5, e5, f5, p5⟩ : ∃ (A' : Option Addr) (c' : Nat) (lz : List Pz), vs 5 = .slice A' LA.length c' ∧ lz.map Prod.fst = LA ∧ Pw wx W5.heap.size 52 54 (.slice A' LA.length c') lz := hd.get (j := 5) (by simp [depsOf, Region.binds]) (by decide)
        replace hK : ∀ (uu : Value) (w' : World), ((fun wx => Below W5.heap.size W5 wx)) w' → (∀ j u, Nat.beq j 6 = false → Nat.beq j 10 = false → (fun (_ : Nat → Bool) => HL q LA W5.heap.size) lq9 (([.v (qv q A c), .q, .v (.slice B n cap), .v (.int .i64 (n1 : Nat)), .v ((.slice B n1 cap)), .pz, .rn, .rn, .an, .v (.int .i64 (runQ q LA).1), .v undef, .v undef, .v (.int .i64 (runQ q LA).1)] : List _).getD j (.v undef)) u wx → (fun (_ : Nat → Bool) => HL q LA W5.heap.size) (updR lq9 6 true) (([.v (qv q A c), .q, .v (.slice B n cap), .v (.int .i64 (n1 : Nat)), .v ((.slice B n1 cap)), .pz, .rn, .rn, .an, .v (.int .i64 (runQ q LA).1), .v undef, .v undef, .v (.int .i64 (runQ q LA).1)] : List _).getD j (.v undef)) u w') → (∀ g, ((Zx W5.heap.size)) g wx → ((Zx W5.heap.size)) g w') → (lq9 11 = true → ∀ u g, ((Bx9 q LA W5.heap.size)) u g wx → ((Bx9 q LA W5.heap.size)) u g w') → (Nat.beq 6 10 = true → ∃ g, uu = .pointer (some ⟨g, 0, none⟩) ∧ ((Zx W5.heap.size)) g w') → (Nat.beq 6 10 = false → (fun (_ : Nat → Bool) => HL q LA W5.heap.size) (updR lq9 6 true) (.rn) uu w') → K9 _ w' := hK
        simp only [Act.put, List.setIfInBounds_toArray, List.set_cons_zero, List.set_cons_succ, e1, e5] at hK ⊢
        have HK := Lib.hid hK
        have HG := Lib.hid hG
        clear hK hd e1 e5
        have hbw := HG.out
        have hcx := HC5.out.below hbw
        clear hG
        go_simp
        go_at_call 6
        refine (runZ_any wx f5 p5 r1 hSM.out (HMX.out wx hcx.bl) hqs.out HOA.out.1 HOA.out.2).mono ?_
        rintro en w9 hrn
        obtain ⟨v9, rfl, hv9, hb⟩ := hrn.h hbw.size
        exact HK.out _ _ (hbw.trans (hb.mono hbw.size)) (fun _ _ _ _ h => HL.mono h hb) (fun _ h => Zx.mono h hb) (fun _ _ _ h => Bx9.mono h hb) (fun h => absurd h (by decide)) (fun _ => hv9)
      · intro lq9 vs wx hli hrs hG hd
        refine ⟨fun _ h => absurd h (by decide), fun _ K9 hK => ?_⟩
        obtain ⟨A6, B6, c6, d6, s6, n6, e6, r6⟩ : ∃ (A1 A2 : Option Addr) (c1 c2 : Nat) (rs : List Rz) (ns : List Pz), vs 6 = .tuple #[.agg #[.slice A1 rs.length c1, .slice A2 ns.length c2], .int .i64 (runQ q LA).1] ∧ An0 q LA wx W5.heap.size A1 A2 c1 c2 rs ns := hd.get (j := 6) (by simp [depsOf, Region.binds]) (by decide)
        replace hK : ∀ (uu : Value) (w' : World), ((fun wx => Below W5.heap.size W5 wx)) w' → (∀ j u, Nat.beq j 7 = false → Nat.beq j 10 = false → (fun (_ : Nat → Bool) => HL q LA W5.heap.size) lq9 (([.v (qv q A c), .q, .v (.slice B n cap), .v (.int .i64 (n1 : Nat)), .v ((.slice B n1 cap)), .pz, .rn, .rn, .an, .v (.int .i64 (runQ q LA).1), .v undef, .v undef, .v (.int .i64 (runQ q LA).1)] : List _).getD j (.v undef)) u wx → (fun (_ : Nat → Bool) => HL q LA W5.heap.size) (updR lq9 7 true) (([.v (qv q A c), .q, .v (.slice B n cap), .v (.int .i64 (n1 : Nat)), .v ((.slice B n1 cap)), .pz, .rn, .rn, .an, .v (.int .i64 (runQ q LA).1), .v undef, .v undef, .v (.int .i64 (runQ q LA).1)] : List _).getD j (.v undef)) u w') → (∀ g, ((Zx W5.heap.size)) g wx → ((Zx W5.heap.size)) g w') → (lq9 11 = true → ∀ u g, ((Bx9 q LA W5.heap.size)) u g wx → ((Bx9 q LA W5.heap.size)) u g w') → (Nat.beq 7 10 = true → ∃ g, uu = .pointer (some ⟨g, 0, none⟩) ∧ ((Zx W5.heap.size)) g w') → (Nat.beq 7 10 = false → (fun (_ : Nat → Bool) => HL q LA W5.heap.size) (updR lq9 7 true) (.rn) uu w') → K9 _ w' := hK
        simp only [Act.put, List.setIfInBounds_toArray, List.set_cons_zero, List.set_cons_succ, e6] at hK ⊢
        have HK := Lib.hid hK
        have HG := Lib.hid hG
        clear hK hd e6
        clear hG
        go_simp
        exact HK.out _ _ HG.out (fun _ _ _ _ h9 => h9) (fun _ h9 => h9) (fun _ _ _ h9 => h9) (fun h => absurd h (by decide)) (fun _ => ⟨_, _, _, _, _, _, rfl, r6⟩)
      · intro lq9 vs wx hli hrs hG hd
        refine ⟨fun _ h => absurd h (by decide), fun _ K9 hK => ?_⟩
        obtain ⟨A7, B7, c7, d7, s7, n7, e7, r7⟩ : ∃ (A1 A2 : Option Addr) (c1 c2 : Nat) (rs : List Rz) (ns : List Pz), vs 7 = .tuple #[.agg #[.slice A1 rs.length c1, .slice A2 ns.length c2], .int .i64 (runQ q LA).1] ∧ An0 q LA wx W5.heap.size A1 A2 c1 c2 rs ns := hd.get (j := 7) (by simp [depsOf, Region.binds]) (by decide)
        replace hK : ∀ (uu : Value) (w' : World), ((fun wx => Below W5.heap.size W5 wx)) w' → (∀ j u, Nat.beq j 8 = false → Nat.beq j 10 = false → (fun (_ : Nat → Bool) => HL q LA W5.heap.size) lq9 (([.v (qv q A c), .q, .v (.slice B n cap), .v (.int .i64 (n1 : Nat)), .v ((.slice B n1 cap)), .pz, .rn, .rn, .an, .v (.int .i64 (runQ q LA).1), .v undef, .v undef, .v (.int .i64 (runQ q LA).1)] : List _).getD j (.v undef)) u wx → (fun (_ : Nat → Bool) => HL q LA W5.heap.size) (updR lq9 8 true) (([.v (qv q A c), .q, .v (.slice B n cap), .v (.int .i64 (n1 : Nat)), .v ((.slice B n1 cap)), .pz, .rn, .rn, .an, .v (.int .i64 (runQ q LA).1), .v undef, .v undef, .v (.int .i64 (runQ q LA).1)] : List _).getD j (.v undef)) u w') → (∀ g, ((Zx W5.heap.size)) g wx → ((Zx W5.heap.size)) g w') → (lq9 11 = true → ∀ u g, ((Bx9 q LA W5.heap.size)) u g wx → ((Bx9 q LA W5.heap.size)) u g w') → (Nat.beq 8 10 = true → ∃ g, uu = .pointer (some ⟨g, 0, none⟩) ∧ ((Zx W5.heap.size)) g w') → (Nat.beq 8 10 = false → (fun (_ : Nat → Bool) => HL q LA W5.heap.size) (updR lq9 8 true) (.an) uu w') → K9 _ w' := hK
        simp only [Act.put, List.setIfInBounds_toArray, List.set_cons_zero, List.set_cons_succ, e7] at hK ⊢
        have HK := Lib.hid hK
        have HG := Lib.hid hG
        clear hK hd e7
        clear hG
        go_simp
        exact HK.out _ _ HG.out (fun _ _ _ _ h9 => h9) (fun _ h9 => h9) (fun _ _ _ h9 => h9) (fun h => absurd h (by decide)) (fun _ => ⟨_, _, _, _, _, _, rfl, r7⟩)
      · intro lq9 vs wx hli hrs hG hd
        refine ⟨fun _ h => absurd h (by decide), fun _ K9 hK => ?_⟩
        obtain ⟨A7, B7, c7, d7, s7, n7, e7, r7⟩ : ∃ (A1 A2 : Option Addr) (c1 c2 : Nat) (rs : List Rz) (ns : List Pz), vs 7 = .tuple #[.agg #[.slice A1 rs.length c1, .slice A2 ns.length c2], .int .i64 (runQ q LA).1] ∧ An0 q LA wx W5.heap.size A1 A2 c1 c2 rs ns := hd.get (j := 7) (by simp [depsOf, Region.binds]) (by decide)
        replace hK : ∀ (uu : Value) (w' : World), ((fun wx => Below W5.heap.size W5 wx)) w' → (∀ j u, Nat.beq j 9 = false → Nat.beq j 10 = false → (fun (_ : Nat → Bool) => HL q LA W5.heap.size) lq9 (([.v (qv q A c), .q, .v (.slice B n cap), .v (.int .i64 (n1 : Nat)), .v ((.slice B n1 cap)), .pz, .rn, .rn, .an, .v (.int .i64 (runQ q LA).1), .v undef, .v undef, .v (.int .i64 (runQ q LA).1)] : List _).getD j (.v undef)) u wx → (fun (_ : Nat → Bool) => HL q LA W5.heap.size) (updR lq9 9 true) (([.v (qv q A c), .q, .v (.slice B n cap), .v (.int .i64 (n1 : Nat)), .v ((.slice B n1 cap)), .pz, .rn, .rn, .an, .v (.int .i64 (runQ q LA).1), .v undef, .v undef, .v (.int .i64 (runQ q LA).1)] : List _).getD j (.v undef)) u w') → (∀ g, ((Zx W5.heap.size)) g wx → ((Zx W5.heap.size)) g w') → (lq9 11 = true → ∀ u g, ((Bx9 q LA W5.heap.size)) u g wx → ((Bx9 q LA W5.heap.size)) u g w') → (Nat.beq 9 10 = true → ∃ g, uu = .pointer (some ⟨g, 0, none⟩) ∧ ((Zx W5.heap.size)) g w') → (Nat.beq 9 10 = false → (fun (_ : Nat → Bool) => HL q LA W5.heap.size) (updR lq9 9 true) (.v (.int .i64 (runQ q LA).1)) uu w') → K9 _ w' := hK
        simp only [Act.put, List.setIfInBounds_toArray, List.set_cons_zero, List.set_cons_succ, e7] at hK ⊢
        have HK := Lib.hid hK
        have HG := Lib.hid hG
        clear hK hd e7
        clear hG
        go_simp
        exact HK.out _ _ HG.out (fun _ _ _ _ h9 => h9) (fun _ h9 => h9) (fun _ _ _ h9 => h9) (fun h => absurd h (by decide)) (fun _ => rfl)
      · intro lq9 vs wx hli hrs hG hd
        refine ⟨fun _ h => absurd h (by decide), fun _ K9 hK => ?_⟩
        replace hK : ∀ (uu : Value) (w' : World), ((fun wx => Below W5.heap.size W5 wx)) w' → (∀ j u, Nat.beq j 10 = false → Nat.beq j 10 = false → (fun (_ : Nat → Bool) => HL q LA W5.heap.size) lq9 (([.v (qv q A c), .q, .v (.slice B n cap), .v (.int .i64 (n1 : Nat)), .v ((.slice B n1 cap)), .pz, .rn, .rn, .an, .v (.int .i64 (runQ q LA).1), .v undef, .v undef, .v (.int .i64 (runQ q LA).1)] : List _).getD j (.v undef)) u wx → (fun (_ : Nat → Bool) => HL q LA W5.heap.size) (updR lq9 10 true) (([.v (qv q A c), .q, .v (.slice B n cap), .v (.int .i64 (n1 : Nat)), .v ((.slice B n1 cap)), .pz, .rn, .rn, .an, .v (.int .i64 (runQ q LA).1), .v undef, .v undef, .v (.int .i64 (runQ q LA).1)] : List _).getD j (.v undef)) u w') → (∀ g, ((Zx W5.heap.size)) g wx → ((Zx W5.heap.size)) g w') → (lq9 11 = true → ∀ u g, ((Bx9 q LA W5.heap.size)) u g wx → ((Bx9 q LA W5.heap.size)) u g w') → (Nat.beq 10 10 = true → ∃ g, uu = .pointer (some ⟨g, 0, none⟩) ∧ ((Zx W5.heap.size)) g w') → (Nat.beq 10 10 = false → (fun (_ : Nat → Bool) => HL q LA W5.heap.size) (updR lq9 10 true) (.v undef) uu w') → K9 _ w' := hK
        simp only [Act.put, List.setIfInBounds_toArray, List.set_cons_zero, List.set_cons_succ] at hK ⊢
        have HK := Lib.hid hK
        have HG := Lib.hid hG
        clear hK hd
        have hb : Below wx.heap.size wx (wx.alloc (.cells #[.slice none 0 0, .slice none 0 0] 30)) := (Below.refl _ _).alloc (Nat.le_refl _) _
        have hzz := (show Zx W5.heap.size wx.heap.size (wx.alloc (.cells #[.slice none 0 0, .slice none 0 0] 30)) from ⟨HG.out.size, ⟨heap_alloc_new wx _⟩⟩)
        have hgg := HG.out.alloc HG.out.size (.cells #[.slice none 0 0, .slice none 0 0] 30)
        clear hG
        go_simp
        exact HK.out _ _ hgg (fun _ _ _ _ h => HL.mono h hb) (fun _ h => Zx.mono h hb) (fun _ _ _ h => Bx9.mono h hb) (fun _ => ⟨_, rfl, hzz⟩) (fun h => absurd h (by decide))
      · intro lq9 vs wx hli hrs hG hd
        refine ⟨fun g _ ea hz K9 hK => ?_, fun h => absurd h (by decide)⟩
        obtain ⟨A8, B8, c8, d8, s8, n8, e8, r8⟩ : ∃ (A1 A2 : Option Addr) (c1 c2 : Nat) (rs : List Rz) (ns : List Pz), vs 8 = .agg #[.slice A1 rs.length c1, .slice A2 ns.length c2] ∧ An0 q LA wx W5.heap.size A1 A2 c1 c2 rs ns := hd.get (j := 8) (by simp [depsOf, Region.binds]) (by decide)
        replace hK : ∀ (w' : World), ((fun wx => Below W5.heap.size W5 wx)) w' → ((Bx9 q LA W5.heap.size)) (vs 8) g w' → (∀ j u, Nat.beq j 11 = false → Nat.beq j 10 = false → (fun (_ : Nat → Bool) => HL q LA W5.heap.size) lq9 (([.v (qv q A c), .q, .v (.slice B n cap), .v (.int .i64 (n1 : Nat)), .v ((.slice B n1 cap)), .pz, .rn, .rn, .an, .v (.int .i64 (runQ q LA).1), .v undef, .v undef, .v (.int .i64 (runQ q LA).1)] : List _).getD j (.v undef)) u wx → (fun (_ : Nat → Bool) => HL q LA W5.heap.size) (updR lq9 11 true) (([.v (qv q A c), .q, .v (.slice B n cap), .v (.int .i64 (n1 : Nat)), .v ((.slice B n1 cap)), .pz, .rn, .rn, .an, .v (.int .i64 (runQ q LA).1), .v undef, .v undef, .v (.int .i64 (runQ q LA).1)] : List _).getD j (.v undef)) u w') → K9 _ w' := hK
        simp only [Act.put, e8, ea] at hK ⊢
        have HK := Lib.hid hK
        have HG := Lib.hid hG
        clear hK hd e8
        have hzr := hz.2
        have q0 : wx.cell? ⟨g, 0, none⟩ = some (.slice none 0 0) := hzr.cell rfl
        have q1 : wx.cell? ⟨g, 1, none⟩ = some (.slice none 0 0) := hzr.cell rfl
        have qf := hzr.fr
        have ql := hzr.lt
        have HZR := Lib.hid hz
        have HGG : Hid (Below W5.heap.size W5 ((wx.setCell ⟨g, 0, none⟩ (.slice A8 s8.length c8)).setCell ⟨g, 1, none⟩ (.slice B8 n8.length d8))) := Lib.hid ((HG.out.setCell (p := ⟨g, 0, none⟩) hz.1 _).setCell (p := ⟨g, 1, none⟩) hz.1 _)
        clear hG hzr hz
        go_simp
        exact HK.out _ HGG.out ⟨A8, B8, c8, d8, s8, n8, rfl, HZR.out.1, (HZR.out.2.set 0 _).set 1 _, (r8.set HZR.out.2 0 _).set (HZR.out.2.set 0 _) 1 _⟩ (fun _ _ _ _ h => (h.set HZR.out.2 0 _).set (HZR.out.2.set 0 _) 1 _)
      · intro lq9 vs wx hli hrs hG hd
        refine ⟨fun _ h => absurd h (by decide), fun _ K9 hK => ?_⟩
        have e9 : vs 9 = .int .i64 (runQ q LA).1 := hd.get (j := 9) (by simp [depsOf, Region.binds]) (by decide)
        replace hK : ∀ (uu : Value) (w' : World), ((fun wx => Below W5.heap.size W5 wx)) w' → (∀ j u, Nat.beq j 12 = false → Nat.beq j 10 = false → (fun (_ : Nat → Bool) => HL q LA W5.heap.size) lq9 (([.v (qv q A c), .q, .v (.slice B n cap), .v (.int .i64 (n1 : Nat)), .v ((.slice B n1 cap)), .pz, .rn, .rn, .an, .v (.int .i64 (runQ q LA).1), .v undef, .v undef, .v (.int .i64 (runQ q LA).1)] : List _).getD j (.v undef)) u wx → (fun (_ : Nat → Bool) => HL q LA W5.heap.size) (updR lq9 12 true) (([.v (qv q A c), .q, .v (.slice B n cap), .v (.int .i64 (n1 : Nat)), .v ((.slice B n1 cap)), .pz, .rn, .rn, .an, .v (.int .i64 (runQ q LA).1), .v undef, .v undef, .v (.int .i64 (runQ q LA).1)] : List _).getD j (.v undef)) u w') → (∀ g, ((Zx W5.heap.size)) g wx → ((Zx W5.heap.size)) g w') → (lq9 11 = true → ∀ u g, ((Bx9 q LA W5.heap.size)) u g wx → ((Bx9 q LA W5.heap.size)) u g w') → (Nat.beq 12 10 = true → ∃ g, uu = .pointer (some ⟨g, 0, none⟩) ∧ ((Zx W5.heap.size)) g w') → (Nat.beq 12 10 = false → (fun (_ : Nat → Bool) => HL q LA W5.heap.size) (updR lq9 12 true) (.v (.int .i64 (runQ q LA).1)) uu w') → K9 _ w' := hK
        simp only [Act.put, List.setIfInBounds_toArray, List.set_cons_zero, List.set_cons_succ, e9] at hK ⊢
        have HK := Lib.hid hK
        have HG := Lib.hid hG
        clear hK hd e9
        clear hG
        go_simp
        exact HK.out _ _ HG.out (fun _ _ _ _ h9 => h9) (fun _ h9 => h9) (fun _ _ _ h9 => h9) (fun h => absurd h (by decide)) (fun _ => rfl)
    case hend =>
      intro vs4 W6 g4 hG4 eg4 hb4 hv4 hs4
      obtain ⟨l4, hl4, hv4⟩ := hv4
      have e4 : vs4 12 = .int .i64 (runQ q LA).1 := hv4 12 (by decide) rfl rfl
      have HC6 := Lib.hid (HC5.out.below hG4)
      have HO46 := Lib.hid (hb4.o)
      have HO76 := Lib.hid (HO75.out.below hG4)
      have hz56 : W5.heap.size ≤ W6.heap.size := hG4.size
      rw [← HEA.out] at e4
      simp only [eg4, e4]
      clear hb4 hG4 eg4 e4 hv4 hs4 hl4
      go_upto_region 5 with fail
      apply region_LL (fun (_ : Nat → Bool) => HL q LB W6.heap.size) (fun wx => Below W6.heap.size W6 wx) (Zx W6.heap.size) (Bx9 q LB W6.heap.size) 10 11 8 [.v (qv q A c), .q, .v (.slice B n cap), .v (.int .i64 (n1 : Nat)), .v ((.slice B2 m2 cap2)), .pz, .rn, .rn, .an, .v (.int .i64 (runQ q LB).1), .v undef, .v undef, .v (.int .i64 (runQ q LB).1)] (.v undef)
      case hm => kernel_rfl
      case hf => kernel_rfl
      case hk => kernel_rfl
      case hQ => exact (by intro c x y w e h; exact And.intro (e.symm.trans (And.left h)) (And.right h))
      case hF => intro vs; simp only [putAll, Act.put, List.setIfInBounds_toArray, List.set_cons_zero, List.set_cons_succ, Nat.reduceAdd]; rfl
      case hsu => exact fun _ _ => rfl
      case h0 => exact ⟨rfl, rfl, rfl, Nat.le_refl _, fun _ _ => rfl⟩
      case hstep =>
        repeat' (first | exact AllOps.nil | apply AllOps.cons)
        · intro lq9 vs wx hli hrs hG hd
          refine ⟨fun _ h => absurd h (by decide), fun _ K9 hK => ?_⟩
          replace hK : ∀ (uu : Value) (w' : World), ((fun wx => Below W6.heap.size W6 wx)) w' → (∀ j u, Nat.beq j 0 = false → Nat.beq j 10 = false → (fun (_ : Nat → Bool) => HL q LB W6.heap.size) lq9 (([.v (qv q A c), .q, .v (.slice B n cap), .v (.int .i64 (n1 : Nat)), .v ((.slice B2 m2 cap2)), .pz, .rn, .rn, .an, .v (.int .i64 (runQ q LB).1), .v undef, .v undef, .v (.int .i64 (runQ q LB).1)] : List _).getD j (.v undef)) u wx → (fun (_ : Nat → Bool) => HL q LB W6.heap.size) (updR lq9 0 true) (([.v (qv q A c), .q, .v (.slice B n cap), .v (.int .i64 (n1 : Nat)), .v ((.slice B2 m2 cap2)), .pz, .rn, .rn, .an, .v (.int .i64 (runQ q LB).1), .v undef, .v undef, .v (.int .i64 (runQ q LB).1)] : List _).getD j (.v undef)) u w') → (∀ g, ((Zx W6.heap.size)) g wx → ((Zx W6.heap.size)) g w') → (lq9 11 = true → ∀ u g, ((Bx9 q LB W6.heap.size)) u g wx → ((Bx9 q LB W6.heap.size)) u g w') → (Nat.beq 0 10 = true → ∃ g, uu = .pointer (some ⟨g, 0, none⟩) ∧ ((Zx W6.heap.size)) g w') → (Nat.beq 0 10 = false → (fun (_ : Nat → Bool) => HL q LB W6.heap.size) (updR lq9 0 true) (.v (qv q A c)) uu w') → K9 _ w' := hK
          simp only [Act.put, List.setIfInBounds_toArray, List.set_cons_zero, List.set_cons_succ] at hK ⊢
          have HK := Lib.hid hK
          have HG := Lib.hid hG
          clear hK hd
          have hbw := HG.out
          have hcx := HC6.out.below hbw
          have x0 : wx.cell? ⟨w.heap.size, 0, none⟩ = some (.int .i64 q.op) := hcx.bx.cell rfl
          have x1 : wx.cell? ⟨w.heap.size, 1, none⟩ = some (.slice A q.rs.length c) := hcx.bx.cell rfl
          have x2 : wx.cell? ⟨w.heap.size, 2, none⟩ = some (.int .i64 q.fr) := hcx.bx.cell rfl
          have x3 : wx.cell? ⟨w.heap.size, 3, none⟩ = some (.int .i64 q.to_) := hcx.bx.cell rfl
          have x4 : wx.cell? ⟨w.heap.size, 4, none⟩ = some (.int .i64 q.st) := hcx.bx.cell rfl
          have x5 : wx.cell? ⟨w.heap.size, 5, none⟩ = some (.bool q.nt) := hcx.bx.cell rfl
          have xl := hcx.bx.lt
          clear hG hcx hbw
          go_simp
          exact HK.out _ _ HG.out (fun _ _ _ _ h9 => h9) (fun _ h9 => h9) (fun _ _ _ h9 => h9) (fun h => absurd h (by decide)) (fun _ => rfl)
        · intro lq9 vs wx hli hrs hG hd
          refine ⟨fun _ h => absurd h (by decide), fun _ K9 hK => ?_⟩
          have e0 : vs 0 = qv q A c := hd.get (j := 0) (by simp [depsOf, Region.binds]) (by decide)
          replace hK : ∀ (uu : Value) (w' : World), ((fun wx => Below W6.heap.size W6 wx)) w' → (∀ j u, Nat.beq j 1 = false → Nat.beq j 10 = false → (fun (_ : Nat → Bool) => HL q LB W6.heap.size) lq9 (([.v (qv q A c), .q, .v (.slice B n cap), .v (.int .i64 (n1 : Nat)), .v ((.slice B2 m2 cap2)), .pz, .rn, .rn, .an, .v (.int .i64 (runQ q LB).1), .v undef, .v undef, .v (.int .i64 (runQ q LB).1)] : List _).getD j (.v undef)) u wx → (fun (_ : Nat → Bool) => HL q LB W6.heap.size) (updR lq9 1 true) (([.v (qv q A c), .q, .v (.slice B n cap), .v (.int .i64 (n1 : Nat)), .v ((.slice B2 m2 cap2)), .pz, .rn, .rn, .an, .v (.int .i64 (runQ q LB).1), .v undef, .v undef, .v (.int .i64 (runQ q LB).1)] : List _).getD j (.v undef)) u w') → (∀ g, ((Zx W6.heap.size)) g wx → ((Zx W6.heap.size)) g w') → (lq9 11 = true → ∀ u g, ((Bx9 q LB W6.heap.size)) u g wx → ((Bx9 q LB W6.heap.size)) u g w') → (Nat.beq 1 10 = true → ∃ g, uu = .pointer (some ⟨g, 0, none⟩) ∧ ((Zx W6.heap.size)) g w') → (Nat.beq 1 10 = false → (fun (_ : Nat → Bool) => HL q LB W6.heap.size) (updR lq9 1 true) (.q) uu w') → K9 _ w' := hK
          simp only [Act.put, List.setIfInBounds_toArray, List.set_cons_zero, List.set_cons_succ, e0] at hK ⊢
          have HK := Lib.hid hK
          have HG := Lib.hid hG
          clear hK hd e0
          have hbw := HG.out
          have hcx := HC6.out.below hbw
          clear hG
          go_simp
          go_at_call 7
          refine (toQ_any wx hcx.rr (Nat.le_trans hcx.hk hcx.bl.size) hql.out).mono ?_
          rintro en w9 ⟨A9, c9, rfl, ra9, hb⟩
          exact HK.out _ _ (hbw.trans (hb.mono hbw.size)) (fun _ _ _ _ h => HL.mono h hb) (fun _ h => Zx.mono h hb) (fun _ _ _ h => Bx9.mono h hb) (fun h => absurd h (by decide)) (fun _ => ⟨A9, c9, rfl, So.more ra9 hbw.size⟩)
        · intro lq9 vs wx hli hrs hG hd
          refine ⟨fun _ h => absurd h (by decide), fun _ K9 hK => ?_⟩
          replace hK : ∀ (uu : Value) (w' : World), ((fun wx => Below W6.heap.size W6 wx)) w' → (∀ j u, Nat.beq j 2 = false → Nat.beq j 10 = false → (fun (_ : Nat → Bool) => HL q LB W6.heap.size) lq9 (([.v (qv q A c), .q, .v (.slice B n cap), .v (.int .i64 (n1 : Nat)), .v ((.slice B2 m2 cap2)), .pz, .rn, .rn, .an, .v (.int .i64 (runQ q LB).1), .v undef, .v undef, .v (.int .i64 (runQ q LB).1)] : List _).getD j (.v undef)) u wx → (fun (_ : Nat → Bool) => HL q LB W6.heap.size) (updR lq9 2 true) (([.v (qv q A c), .q, .v (.slice B n cap), .v (.int .i64 (n1 : Nat)), .v ((.slice B2 m2 cap2)), .pz, .rn, .rn, .an, .v (.int .i64 (runQ q LB).1), .v undef, .v undef, .v (.int .i64 (runQ q LB).1)] : List _).getD j (.v undef)) u w') → (∀ g, ((Zx W6.heap.size)) g wx → ((Zx W6.heap.size)) g w') → (lq9 11 = true → ∀ u g, ((Bx9 q LB W6.heap.size)) u g wx → ((Bx9 q LB W6.heap.size)) u g w') → (Nat.beq 2 10 = true → ∃ g, uu = .pointer (some ⟨g, 0, none⟩) ∧ ((Zx W6.heap.size)) g w') → (Nat.beq 2 10 = false → (fun (_ : Nat → Bool) => HL q LB W6.heap.size) (updR lq9 2 true) (.v (.slice B n cap)) uu w') → K9 _ w' := hK
          simp only [Act.put, List.setIfInBounds_toArray, List.set_cons_zero, List.set_cons_succ] at hK ⊢
          have HK := Lib.hid hK
          have HG := Lib.hid hG
          clear hK hd
          clear hG
          go_simp
          exact HK.out _ _ HG.out (fun _ _ _ _ h9 => h9) (fun _ h9 => h9) (fun _ _ _ h9 => h9) (fun h => absurd h (by decide)) (fun _ => rfl)
        · intro lq9 vs wx hli hrs hG hd
          refine ⟨fun _ h => absurd h (by decide), fun _ K9 hK => ?_⟩
          replace hK : ∀ (uu : Value) (w' : World), ((fun wx => Below W6.heap.size W6 wx)) w' → (∀ j u, Nat.beq j 3 = false → Nat.beq j 10 = false → (fun (_ : Nat → Bool) => HL q LB W6.heap.size) lq9 (([.v (qv q A c), .q, .v (.slice B n cap), .v (.int .i64 (n1 : Nat)), .v ((.slice B2 m2 cap2)), .pz, .rn, .rn, .an, .v (.int .i64 (runQ q LB).1), .v undef, .v undef, .v (.int .i64 (runQ q LB).1)] : List _).getD j (.v undef)) u wx → (fun (_ : Nat → Bool) => HL q LB W6.heap.size) (updR lq9 3 true) (([.v (qv q A c), .q, .v (.slice B n cap), .v (.int .i64 (n1 : Nat)), .v ((.slice B2 m2 cap2)), .pz, .rn, .rn, .an, .v (.int .i64 (runQ q LB).1), .v undef, .v undef, .v (.int .i64 (runQ q LB).1)] : List _).getD j (.v undef)) u w') → (∀ g, ((Zx W6.heap.size)) g wx → ((Zx W6.heap.size)) g w') → (lq9 11 = true → ∀ u g, ((Bx9 q LB W6.heap.size)) u g wx → ((Bx9 q LB W6.heap.size)) u g w') → (Nat.beq 3 10 = true → ∃ g, uu = .pointer (some ⟨g, 0, none⟩) ∧ ((Zx W6.heap.size)) g w') → (Nat.beq 3 10 = false → (fun (_ : Nat → Bool) => HL q LB W6.heap.size) (updR lq9 3 true) (.v (.int .i64 (n1 : Nat))) uu w') → K9 _ w' := hK
          simp only [Act.put, List.setIfInBounds_toArray, List.set_cons_zero, List.set_cons_succ] at hK ⊢
          have HK := Lib.hid hK
          have HG := Lib.hid hG
          clear hK hd
          clear hG
          go_simp
          exact HK.out _ _ HG.out (fun _ _ _ _ h9 => h9) (fun _ h9 => h9) (fun _ _ _ h9 => h9) (fun h => absurd h (by decide)) (fun _ => rfl)
        · intro lq9 vs wx hli hrs hG hd
          refine ⟨fun _ h => absurd h (by decide), fun _ K9 hK => ?_⟩
          have e2 : vs 2 = .slice B n cap := hd.get (j := 2) (by simp [depsOf, Region.binds]) (by decide)
          have e3 : vs 3 = .int .i64 (n1 : Nat) := hd.get (j := 3) (by simp [depsOf, Region.binds]) (by decide)
          replace hK : ∀ (uu : Value) (w' : World), ((fun wx => Below W6.heap.size W6 wx)) w' → (∀ j u, Nat.beq j 4 = false → Nat.beq j 10 = false → (fun (_ : Nat → Bool) => HL q LB W6.heap.size) lq9 (([.v (qv q A c), .q, .v (.slice B n cap), .v (.int .i64 (n1 : Nat)), .v ((.slice B2 m2 cap2)), .pz, .rn, .rn, .an, .v (.int .i64 (runQ q LB).1), .v undef, .v undef, .v (.int .i64 (runQ q LB).1)] : List _).getD j (.v undef)) u wx → (fun (_ : Nat → Bool) => HL q LB W6.heap.size) (updR lq9 4 true) (([.v (qv q A c), .q, .v (.slice B n cap), .v (.int .i64 (n1 : Nat)), .v ((.slice B2 m2 cap2)), .pz, .rn, .rn, .an, .v (.int .i64 (runQ q LB).1), .v undef, .v undef, .v (.int .i64 (runQ q LB).1)] : List _).getD j (.v undef)) u w') → (∀ g, ((Zx W6.heap.size)) g wx → ((Zx W6.heap.size)) g w') → (lq9 11 = true → ∀ u g, ((Bx9 q LB W6.heap.size)) u g wx → ((Bx9 q LB W6.heap.size)) u g w') → (Nat.beq 4 10 = true → ∃ g, uu = .pointer (some ⟨g, 0, none⟩) ∧ ((Zx W6.heap.size)) g w') → (Nat.beq 4 10 = false → (fun (_ : Nat → Bool) => HL q LB W6.heap.size) (updR lq9 4 true) (.v ((.slice B2 m2 cap2))) uu w') → K9 _ w' := hK
          simp only [Act.put, List.setIfInBounds_toArray, List.set_cons_zero, List.set_cons_succ, e2, e3] at hK ⊢
          have HK := Lib.hid hK
          have HG := Lib.hid hG
          clear hK hd e2 e3
          clear hG
          go_simp
          exact HK.out _ _ HG.out (fun _ _ _ _ h9 => h9) (fun _ h9 => h9) (fun _ _ _ h9 => h9) (fun h => absurd h (by decide)) (fun _ => HSE.out)
        · intro lq9 vs wx hli hrs hG hd
          refine ⟨fun _ h => absurd h (by decide), fun _ K9 hK => ?_⟩
          have e4 : vs 4 = (.slice B2 m2 cap2) := hd.get (j := 4) (by simp [depsOf, Region.binds]) (by decide)
          replace hK : ∀ (uu : Value) (w' : World), ((fun wx => Below W6.heap.size W6 wx)) w' → (∀ j u, Nat.beq j 5 = false → Nat.beq j 10 = false → (fun (_ : Nat → Bool) => HL q LB W6.heap.size) lq9 (([.v (qv q A c), .q, .v (.slice B n cap), .v (.int .i64 (n1 : Nat)), .v ((.slice B2 m2 cap2)), .pz, .rn, .rn, .an, .v (.int .i64 (runQ q LB).1), .v undef, .v undef, .v (.int .i64 (runQ q LB).1)] : List _).getD j (.v undef)) u wx → (fun (_ : Nat → Bool) => HL q LB W6.heap.size) (updR lq9 5 true) (([.v (qv q A c), .q, .v (.slice B n cap), .v (.int .i64 (n1 : Nat)), .v ((.slice B2 m2 cap2)), .pz, .rn, .rn, .an, .v (.int .i64 (runQ q LB).1), .v undef, .v undef, .v (.int .i64 (runQ q LB).1)] : List _).getD j (.v undef)) u w') → (∀ g, ((Zx W6.heap.size)) g wx → ((Zx W6.heap.size)) g w') → (lq9 11 = true → ∀ u g, ((Bx9 q LB W6.heap.size)) u g wx → ((Bx9 q LB W6.heap.size)) u g w') → (Nat.beq 5 10 = true → ∃ g, uu = .pointer (some ⟨g, 0, none⟩) ∧ ((Zx W6.heap.size)) g w') → (Nat.beq 5 10 = false → (fun (_ : Nat → Bool) => HL q LB W6.heap.size) (updR lq9 5 true) (.pz) uu w') → K9 _ w' := hK
          simp only [Act.put, List.setIfInBounds_toArray, List.set_cons_zero, List.set_cons_succ, e4] at hK ⊢
          have HK := Lib.hid hK
          have HG := Lib.hid hG
          clear hK hd e4
          have hbw := HG.out
          have hcx := HC6.out.below hbw
          clear hG
          go_simp
          go_at_call 8
          refine (HPTB.out wx hcx).mono ?_
          rintro en w9 ⟨A9, c9, lz9, rfl, hz9, pw9, hb⟩
          exact HK.out _ _ (hbw.trans (hb.mono hbw.size)) (fun _ _ _ _ h => HL.mono h hb) (fun _ h => Zx.mono h hb) (fun _ _ _ h => Bx9.mono h hb) (fun h => absurd h (by decide)) (fun _ => ⟨A9, c9, lz9, rfl, hz9, pw9.more hbw.size⟩)
        · intro lq9 vs wx hli hrs hG hd
          refine ⟨fun _ h => absurd h (by decide), fun _ K9 hK => ?_⟩
          obtain ⟨A1, d1, e1, r1⟩ : ∃ A' c', vs 1 = qv q A' c' ∧ Ra wx W6.heap.size (.slice A' q.rs.length c') q.rs := hd.get (j := 1) (by simp [depsOf, Region.binds]) (by decide)
          obtain ⟨A5, d5, z5, e5, f5, p5⟩ : ∃ (A' : Option Addr) (c' : Nat) (lz : List Pz), vs 5 = .slice A' LB.length c' ∧ lz.map Prod.fst = LB ∧ Pw wx W6.heap.size 52 54 (.slice A' LB.length c') lz := hd.get (j := 5) (by simp [depsOf, Region.binds]) (by decide)
          replace hK : ∀ (uu : Value) (w' : World), ((fun wx => Below W6.heap.size W6 wx)) w' → (∀ j u, Nat.beq j 6 = false → Nat.beq j 10 = false → (fun (_ : Nat → Bool) => HL q LB W6.heap.size) lq9 (([.v (qv q A c), .q, .v (.slice B n cap), .v (.int .i64 (n1 : Nat)), .v ((.slice B2 m2 cap2)), .pz, .rn, .rn, .an, .v (.int .i64 (runQ q LB).1), .v undef, .v undef, .v (.int .i64 (runQ q LB).1)] : List _).getD j (.v undef)) u wx → (fun (_ : Nat → Bool) => HL q LB W6.heap.size) (updR lq9 6 true) (([.v (qv q A c), .q, .v (.slice B n cap), .v (.int .i64 (n1 : Nat)), .v ((.slice B2 m2 cap2)), .pz, .rn, .rn, .an, .v (.int .i64 (runQ q LB).1), .v undef, .v undef, .v (.int .i64 (runQ q LB).1)] : List _).getD j (.v undef)) u w') → (∀ g, ((Zx W6.heap.size)) g wx → ((Zx W6.heap.size)) g w') → (lq9 11 = true → ∀ u g, ((Bx9 q LB W6.heap.size)) u g wx → ((Bx9 q LB W6.heap.size)) u g w') → (Nat.beq 6 10 = true → ∃ g, uu = .pointer (some ⟨g, 0, none⟩) ∧ ((Zx W6.heap.size)) g w') → (Nat.beq 6 10 = false → (fun (_ : Nat → Bool) => HL q LB W6.heap.size) (updR lq9 6 true) (.rn) uu w') → K9 _ w' := hK
          simp only [Act.put, List.setIfInBounds_toArray, List.set_cons_zero, List.set_cons_succ, e1, e5] at hK ⊢
          have HK := Lib.hid hK
          have HG := Lib.hid hG
          clear hK hd e1 e5
          have hbw := HG.out
          have hcx := HC6.out.below hbw
          clear hG
          go_simp
          go_at_call 6
          refine (runZ_any wx f5 p5 r1 hSM.out (HMX.out wx hcx.bl) hqs.out HOB.out.1 HOB.out.2).mono ?_
          rintro en w9 hrn
          obtain ⟨v9, rfl, hv9, hb⟩ := hrn.h hbw.size
          exact HK.out _ _ (hbw.trans (hb.mono hbw.size)) (fun _ _ _ _ h => HL.mono h hb) (fun _ h => Zx.mono h hb) (fun _ _ _ h => Bx9.mono h hb) (fun h => absurd h (by decide)) (fun _ => hv9)
        · intro lq9 vs wx hli hrs hG hd
          refine ⟨fun _ h => absurd h (by decide), fun _ K9 hK => ?_⟩
          obtain ⟨A6, B6, c6, d6, s6, n6, e6, r6⟩ : ∃ (A1 A2 : Option Addr) (c1 c2 : Nat) (rs : List Rz) (ns : List Pz), vs 6 = .tuple #[.agg #[.slice A1 rs.length c1, .slice A2 ns.length c2], .int .i64 (runQ q LB).1] ∧ An0 q LB wx W6.heap.size A1 A2 c1 c2 rs ns := hd.get (j := 6) (by simp [depsOf, Region.binds]) (by decide)
          replace hK : ∀ (uu : Value) (w' : World), ((fun wx => Below W6.heap.size W6 wx)) w' → (∀ j u, Nat.beq j 7 = false → Nat.beq j 10 = false → (fun (_ : Nat → Bool) => HL q LB W6.heap.size) lq9 (([.v (qv q A c), .q, .v (.slice B n cap), .v (.int .i64 (n1 : Nat)), .v ((.slice B2 m2 cap2)), .pz, .rn, .rn, .an, .v (.int .i64 (runQ q LB).1), .v undef, .v undef, .v (.int .i64 (runQ q LB).1)] : List _).getD j (.v undef)) u wx → (fun (_ : Nat → Bool) => HL q LB W6.heap.size) (updR lq9 7 true) (([.v (qv q A c), .q, .v (.slice B n cap), .v (.int .i64 (n1 : Nat)), .v ((.slice B2 m2 cap2)), .pz, .rn, .rn, .an, .v (.int .i64 (runQ q LB).1), .v undef, .v undef, .v (.int .i64 (runQ q LB).1)] : List _).getD j (.v undef)) u w') → (∀ g, ((Zx W6.heap.size)) g wx → ((Zx W6.heap.size)) g w') → (lq9 11 = true → ∀ u g, ((Bx9 q LB W6.heap.size)) u g wx → ((Bx9 q LB W6.heap.size)) u g w') → (Nat.beq 7 10 = true → ∃ g, uu = .pointer (some ⟨g, 0, none⟩) ∧ ((Zx W6.heap.size)) g w') → (Nat.beq 7 10 = false → (fun (_ : Nat → Bool) => HL q LB W6.heap.size) (updR lq9 7 true) (.rn) uu w') → K9 _ w' := hK
          simp only [Act.put, List.setIfInBounds_toArray, List.set_cons_zero, List.set_cons_succ, e6] at hK ⊢
          have HK := Lib.hid hK
          have HG := Lib.hid hG
          clear hK hd e6
          clear hG
          go_simp
          exact HK.out _ _ HG.out (fun _ _ _ _ h9 => h9) (fun _ h9 => h9) (fun _ _ _ h9 => h9) (fun h => absurd h (by decide)) (fun _ => ⟨_, _, _, _, _, _, rfl, r6⟩)
        · intro lq9 vs wx hli hrs hG hd
          refine ⟨fun _ h => absurd h (by decide), fun _ K9 hK => ?_⟩
          obtain ⟨A7, B7, c7, d7, s7, n7, e7, r7⟩ : ∃ (A1 A2 : Option Addr) (c1 c2 : Nat) (rs : List Rz) (ns : List Pz), vs 7 = .tuple #[.agg #[.slice A1 rs.length c1, .slice A2 ns.length c2], .int .i64 (runQ q LB).1] ∧ An0 q LB wx W6.heap.size A1 A2 c1 c2 rs ns := hd.get (j := 7) (by simp [depsOf, Region.binds]) (by decide)
          replace hK : ∀ (uu : Value) (w' : World), ((fun wx => Below W6.heap.size W6 wx)) w' → (∀ j u, Nat.beq j 8 = false → Nat.beq j 10 = false → (fun (_ : Nat → Bool) => HL q LB W6.heap.size) lq9 (([.v (qv q A c), .q, .v (.slice B n cap), .v (.int .i64 (n1 : Nat)), .v ((.slice B2 m2 cap2)), .pz, .rn, .rn, .an, .v (.int .i64 (runQ q LB).1), .v undef, .v undef, .v (.int .i64 (runQ q LB).1)] : List _).getD j (.v undef)) u wx → (fun (_ : Nat → Bool) => HL q LB W6.heap.size) (updR lq9 8 true) (([.v (qv q A c), .q, .v (.slice B n cap), .v (.int .i64 (n1 : Nat)), .v ((.slice B2 m2 cap2)), .pz, .rn, .rn, .an, .v (.int .i64 (runQ q LB).1), .v undef, .v undef, .v (.int .i64 (runQ q LB).1)] : List _).getD j (.v undef)) u w') → (∀ g, ((Zx W6.heap.size)) g wx → ((Zx W6.heap.size)) g w') → (lq9 11 = true → ∀ u g, ((Bx9 q LB W6.heap.size)) u g wx → ((Bx9 q LB W6.heap.size)) u g w') → (Nat.beq 8 10 = true → ∃ g, uu = .pointer (some ⟨g, 0, none⟩) ∧ ((Zx W6.heap.size)) g w') → (Nat.beq 8 10 = false → (fun (_ : Nat → Bool) => HL q LB W6.heap.size) (updR lq9 8 true) (.an) uu w') → K9 _ w' := hK
          simp only [Act.put, List.setIfInBounds_toArray, List.set_cons_zero, List.set_cons_succ, e7] at hK ⊢
          have HK := Lib.hid hK
          have HG := Lib.hid hG
          clear hK hd e7
          clear hG
          go_simp
          exact HK.out _ _ HG.out (fun _ _ _ _ h9 => h9) (fun _ h9 => h9) (fun _ _ _ h9 => h9) (fun h => absurd h (by decide)) (fun _ => ⟨_, _, _, _, _, _, rfl, r7⟩)
        · intro lq9 vs wx hli hrs hG hd
          refine ⟨fun _ h => absurd h (by decide), fun _ K9 hK => ?_⟩
          obtain ⟨A7, B7, c7, d7, s7, n7, e7, r7⟩ : ∃ (A1 A2 : Option Addr) (c1 c2 : Nat) (rs : List Rz) (ns : List Pz), vs 7 = .tuple #[.agg #[.slice A1 rs.length c1, .slice A2 ns.length c2], .int .i64 (runQ q LB).1] ∧ An0 q LB wx W6.heap.size A1 A2 c1 c2 rs ns := hd.get (j := 7) (by simp [depsOf, Region.binds]) (by decide)
          replace hK : ∀ (uu : Value) (w' : World), ((fun wx => Below W6.heap.size W6 wx)) w' → (∀ j u, Nat.beq j 9 = false → Nat.beq j 10 = false → (fun (_ : Nat → Bool) => HL q LB W6.heap.size) lq9 (([.v (qv q A c), .q, .v (.slice B n cap), .v (.int .i64 (n1 : Nat)), .v ((.slice B2 m2 cap2)), .pz, .rn, .rn, .an, .v (.int .i64 (runQ q LB).1), .v undef, .v undef, .v (.int .i64 (runQ q LB).1)] : List _).getD j (.v undef)) u wx → (fun (_ : Nat → Bool) => HL q LB W6.heap.size) (updR lq9 9 true) (([.v (qv q A c), .q, .v (.slice B n cap), .v (.int .i64 (n1 : Nat)), .v ((.slice B2 m2 cap2)), .pz, .rn, .rn, .an, .v (.int .i64 (runQ q LB).1), .v undef, .v undef, .v (.int .i64 (runQ q LB).1)] : List _).getD j (.v undef)) u w') → (∀ g, ((Zx W6.heap.size)) g wx → ((Zx W6.heap.size)) g w') → (lq9 11 = true → ∀ u g, ((Bx9 q LB W6.heap.size)) u g wx → ((Bx9 q LB W6.heap.size)) u g w') → (Nat.beq 9 10 = true → ∃ g, uu = .pointer (some ⟨g, 0, none⟩) ∧ ((Zx W6.heap.size)) g w') → (Nat.beq 9 10 = false → (fun (_ : Nat → Bool) => HL q LB W6.heap.size) (updR lq9 9 true) (.v (.int .i64 (runQ q LB).1)) uu w') → K9 _ w' := hK
          simp only [Act.put, List.setIfInBounds_toArray, List.set_cons_zero, List.set_cons_succ, e7] at hK ⊢
          have HK := Lib.hid hK
          have HG := Lib.hid hG
          clear hK hd e7
          clear hG
          go_simp
          exact HK.out _ _ HG.out (fun _ _ _ _ h9 => h9) (fun _ h9 => h9) (fun _ _ _ h9 => h9) (fun h => absurd h (by decide)) (fun _ => rfl)
        · intro lq9 vs wx hli hrs hG hd
          refine ⟨fun _ h => absurd h (by decide), fun _ K9 hK => ?_⟩
          replace hK : ∀ (uu : Value) (w' : World), ((fun wx => Below W6.heap.size W6 wx)) w' → (∀ j u, Nat.beq j 10 = false → Nat.beq j 10 = false → (fun (_ : Nat → Bool) => HL q LB W6.heap.size) lq9 (([.v (qv q A c), .q, .v (.slice B n cap), .v (.int .i64 (n1 : Nat)), .v ((.slice B2 m2 cap2)), .pz, .rn, .rn, .an, .v (.int .i64 (runQ q LB).1), .v undef, .v undef, .v (.int .i64 (runQ q LB).1)] : List _).getD j (.v undef)) u wx → (fun (_ : Nat → Bool) => HL q LB W6.heap.size) (updR lq9 10 true) (([.v (qv q A c), .q, .v (.slice B n cap), .v (.int .i64 (n1 : Nat)), .v ((.slice B2 m2 cap2)), .pz, .rn, .rn, .an, .v (.int .i64 (runQ q LB).1), .v undef, .v undef, .v (.int .i64 (runQ q LB).1)] : List _).getD j (.v undef)) u w') → (∀ g, ((Zx W6.heap.size)) g wx → ((Zx W6.heap.size)) g w') → (lq9 11 = true → ∀ u g, ((Bx9 q LB W6.heap.size)) u g wx → ((Bx9 q LB W6.heap.size)) u g w') → (Nat.beq 10 10 = true → ∃ g, uu = .pointer (some ⟨g, 0, none⟩) ∧ ((Zx W6.heap.size)) g w') → (Nat.beq 10 10 = false → (fun (_ : Nat → Bool) => HL q LB W6.heap.size) (updR lq9 10 true) (.v undef) uu w') → K9 _ w' := hK
          simp only [Act.put, List.setIfInBounds_toArray, List.set_cons_zero, List.set_cons_succ] at hK ⊢
          have HK := Lib.hid hK
          have HG := Lib.hid hG
          clear hK hd
          have hb : Below wx.heap.size wx (wx.alloc (.cells #[.slice none 0 0, .slice none 0 0] 30)) := (Below.refl _ _).alloc (Nat.le_refl _) _
          have hzz := (show Zx W6.heap.size wx.heap.size (wx.alloc (.cells #[.slice none 0 0, .slice none 0 0] 30)) from ⟨HG.out.size, ⟨heap_alloc_new wx _⟩⟩)
          have hgg := HG.out.alloc HG.out.size (.cells #[.slice none 0 0, .slice none 0 0] 30)
          clear hG
          go_simp
          exact HK.out _ _ hgg (fun _ _ _ _ h => HL.mono h hb) (fun _ h => Zx.mono h hb) (fun _ _ _ h => Bx9.mono h hb) (fun _ => ⟨_, rfl, hzz⟩) (fun h => absurd h (by decide))
        · intro lq9 vs wx hli hrs hG hd
          refine ⟨fun g _ ea hz K9 hK => ?_, fun h => absurd h (by decide)⟩
          obtain ⟨A8, B8, c8, d8, s8, n8, e8, r8⟩ : ∃ (A1 A2 : Option Addr) (c1 c2 : Nat) (rs : List Rz) (ns : List Pz), vs 8 = .agg #[.slice A1 rs.length c1, .slice A2 ns.length c2] ∧ An0 q LB wx W6.heap.size A1 A2 c1 c2 rs ns := hd.get (j := 8) (by simp [depsOf, Region.binds]) (by decide)
          replace hK : ∀ (w' : World), ((fun wx => Below W6.heap.size W6 wx)) w' → ((Bx9 q LB W6.heap.size)) (vs 8) g w' → (∀ j u, Nat.beq j 11 = false → Nat.beq j 10 = false → (fun (_ : Nat → Bool) => HL q LB W6.heap.size) lq9 (([.v (qv q A c), .q, .v (.slice B n cap), .v (.int .i64 (n1 : Nat)), .v ((.slice B2 m2 cap2)), .pz, .rn, .rn, .an, .v (.int .i64 (runQ q LB).1), .v undef, .v undef, .v (.int .i64 (runQ q LB).1)] : List _).getD j (.v undef)) u wx → (fun (_ : Nat → Bool) => HL q LB W6.heap.size) (updR lq9 11 true) (([.v (qv q A c), .q, .v (.slice B n cap), .v (.int .i64 (n1 : Nat)), .v ((.slice B2 m2 cap2)), .pz, .rn, .rn, .an, .v (.int .i64 (runQ q LB).1), .v undef, .v undef, .v (.int .i64 (runQ q LB).1)] : List _).getD j (.v undef)) u w') → K9 _ w' := hK
          simp only [Act.put, e8, ea] at hK ⊢
          have HK := Lib.hid hK
          have HG := Lib.hid hG
          clear hK hd e8
          have hzr := hz.2
          have q0 : wx.cell? ⟨g, 0, none⟩ = some (.slice none 0 0) := hzr.cell rfl
          have q1 : wx.cell? ⟨g, 1, none⟩ = some (.slice none 0 0) := hzr.cell rfl
          have qf := hzr.fr
          have ql := hzr.lt
          have HZR := Lib.hid hz
          have HGG : Hid (Below W6.heap.size W6 ((wx.setCell ⟨g, 0, none⟩ (.slice A8 s8.length c8)).setCell ⟨g, 1, none⟩ (.slice B8 n8.length d8))) := Lib.hid ((HG.out.setCell (p := ⟨g, 0, none⟩) hz.1 _).setCell (p := ⟨g, 1, none⟩) hz.1 _)
          clear hG hzr hz
          go_simp
          exact HK.out _ HGG.out ⟨A8, B8, c8, d8, s8, n8, rfl, HZR.out.1, (HZR.out.2.set 0 _).set 1 _, (r8.set HZR.out.2 0 _).set (HZR.out.2.set 0 _) 1 _⟩ (fun _ _ _ _ h => (h.set HZR.out.2 0 _).set (HZR.out.2.set 0 _) 1 _)
        · intro lq9 vs wx hli hrs hG hd
          refine ⟨fun _ h => absurd h (by decide), fun _ K9 hK => ?_⟩
          have e9 : vs 9 = .int .i64 (runQ q LB).1 := hd.get (j := 9) (by simp [depsOf, Region.binds]) (by decide)
          replace hK : ∀ (uu : Value) (w' : World), ((fun wx => Below W6.heap.size W6 wx)) w' → (∀ j u, Nat.beq j 12 = false → Nat.beq j 10 = false → (fun (_ : Nat → Bool) => HL q LB W6.heap.size) lq9 (([.v (qv q A c), .q, .v (.slice B n cap), .v (.int .i64 (n1 : Nat)), .v ((.slice B2 m2 cap2)), .pz, .rn, .rn, .an, .v (.int .i64 (runQ q LB).1), .v undef, .v undef, .v (.int .i64 (runQ q LB).1)] : List _).getD j (.v undef)) u wx → (fun (_ : Nat → Bool) => HL q LB W6.heap.size) (updR lq9 12 true) (([.v (qv q A c), .q, .v (.slice B n cap), .v (.int .i64 (n1 : Nat)), .v ((.slice B2 m2 cap2)), .pz, .rn, .rn, .an, .v (.int .i64 (runQ q LB).1), .v undef, .v undef, .v (.int .i64 (runQ q LB).1)] : List _).getD j (.v undef)) u w') → (∀ g, ((Zx W6.heap.size)) g wx → ((Zx W6.heap.size)) g w') → (lq9 11 = true → ∀ u g, ((Bx9 q LB W6.heap.size)) u g wx → ((Bx9 q LB W6.heap.size)) u g w') → (Nat.beq 12 10 = true → ∃ g, uu = .pointer (some ⟨g, 0, none⟩) ∧ ((Zx W6.heap.size)) g w') → (Nat.beq 12 10 = false → (fun (_ : Nat → Bool) => HL q LB W6.heap.size) (updR lq9 12 true) (.v (.int .i64 (runQ q LB).1)) uu w') → K9 _ w' := hK
          simp only [Act.put, List.setIfInBounds_toArray, List.set_cons_zero, List.set_cons_succ, e9] at hK ⊢
          have HK := Lib.hid hK
          have HG := Lib.hid hG
          clear hK hd e9
          clear hG
          go_simp
          exact HK.out _ _ HG.out (fun _ _ _ _ h9 => h9) (fun _ h9 => h9) (fun _ _ _ h9 => h9) (fun h => absurd h (by decide)) (fun _ => rfl)
      case hend =>
        intro vs5 W7 g5 hG5 eg5 hb5 hv5 hs5
        obtain ⟨l5, hl5, hv5⟩ := hv5
        have e5 : vs5 12 = .int .i64 (runQ q LB).1 := hv5 12 (by decide) rfl rfl
        have HC7 := Lib.hid (HC6.out.below hG5)
        have HO4 := Lib.hid (HO46.out.below hG5)
        have HO5 := Lib.hid (hb5.o)
        have HO7 := Lib.hid (HO76.out.below hG5)
        have hz67 : W6.heap.size ≤ W7.heap.size := hG5.size
        rw [← HEB.out] at e5
        simp only [eg5, e5]
        clear hb5 hG5 eg5 e5 hv5 hs5 hl5
        by_cases hea : ea = 0
        rotate_left
        · have hea0 : (ea == (0 : Int)) = false := by simpa using hea
          have hall : eall = ea := (HALL.out).1 hea
          subst hall
          have hee : (eall == eall) = true := by simp
          have HAW7 := Lib.hid (HAW.out W7 HC7.out.bl)
          clear hea
          go_wp2_with fail
          refine HAW7.out.mono ?_
          rintro e w9 ⟨rfl, b9⟩
          have HB9 := Lib.hid (HC7.out.bl.trans (b9.mono HC7.out.bl.size))
          clear b9
          go_wp2_with fail
          go_ret
          exact ⟨rfl, HB9.out⟩
        have HEA0 := Lib.hid hea
        subst hea
        by_cases heb : eb = 0
        rotate_left
        · have heb0 : (eb == (0 : Int)) = false := by simpa using heb
          have hall : eall = eb := (HALL.out).2.1 rfl heb
          subst hall
          have hee : (eall == eall) = true := by simp
          have HAW7 := Lib.hid (HAW.out W7 HC7.out.bl)
          clear heb
          go_wp2_with fail
          refine HAW7.out.mono ?_
          rintro e w9 ⟨rfl, b9⟩
          have HB9 := Lib.hid (HC7.out.bl.trans (b9.mono HC7.out.bl.size))
          clear b9
          go_wp2_with fail
          go_ret
          exact ⟨rfl, HB9.out⟩
        subst heb
        obtain ⟨hall, HAR, HAN⟩ := (HALL.out).2.2 rfl rfl
        subst hall
        obtain ⟨Aa, Ba, ca, da, ra, na, hga, hra, haa⟩ := HO4.out
        obtain ⟨Ab, Bb, cb, db, rb, nb, hgb, hrb, hab⟩ := HO5.out
        have hba := haa.bd HOA.out.1 HOA.out.2
        have hbb := hab.bd HOB.out.1 HOB.out.2
        have HLN9 : Hid (ra.length ≤ 1048576 ∧ rb.length ≤ 1048576 ∧ na.length ≤ 1048576 ∧ nb.length ≤ 1048576) := Lib.hid ⟨hba.2.2.1, hbb.2.2.1, hba.2.2.2, hbb.2.2.2⟩
        have HNL : Hid (na.length + nb.length ≤ 1048576) := Lib.hid (by
          have h1 := congrArg List.length haa.n
          have h2 := congrArg List.length hab.n
          rw [List.length_map] at h1 h2
          have h3 := runQ_nl q LA
          have h4 := runQ_nl q LB
          have h5 := HLL.out
          omega)
        have HRA := Lib.hid hra
        have HRB := Lib.hid hrb
        have HAA := Lib.hid haa
        have HAB := Lib.hid hab
        have HSA : Hid (∀ wx, Below W7.heap.size W7 wx → Sr encRz 2 wx wx.heap.size Aa ca ra) := Lib.hid fun wx h => (haa.rg.rs.1.sr.below h).more h.size
        have HSB : Hid (∀ wx, Below W7.heap.size W7 wx → Sr encRz 2 wx wx.heap.size Ab cb rb) := Lib.hid fun wx h => (hab.rg.rs.1.sr.below h).more h.size
        have HPA9 : Hid (∀ wx, Below W7.heap.size W7 wx → Sr encPz 8 wx wx.heap.size Ba da na) := Lib.hid fun wx h => (haa.pw.ps.1.sr.below h).more h.size
        have HPB9 : Hid (∀ wx, Below W7.heap.size W7 wx → Sr encPz 8 wx wx.heap.size Bb db nb) := Lib.hid fun wx h => (hab.pw.ps.1.sr.below h).more h.size
        clear hga hra haa hgb hrb hab hba hbb
        go_upto_region 8 with fail
        apply region_LL (HX ra rb na nb W7.heap.size) (fun wx => Below W7.heap.size W7 wx) (Zx W7.heap.size) (Bj ra rb na nb W7.heap.size) 15 16 14 [.e1, .v (.pointer (some ⟨g4, 0, none⟩)), .v (.slice Aa ra.length ca), .r1, .v (.pointer (some ⟨g5, 0, none⟩)), .v (.slice Ab rb.length cb), .r2, .p0, .v (.pointer (some ⟨g4, 1, none⟩)), .v (.slice Ba na.length da), .p1, .v (.pointer (some ⟨g5, 1, none⟩)), .v (.slice Bb nb.length db), .p2, .ag, .v undef, .v undef] (.v undef)
        case hm => kernel_rfl
        case hf => kernel_rfl
        case hk => kernel_rfl
        case hQ => exact (by intro c x y w e h; exact And.intro (e.symm.trans (And.left h)) (And.right h))
        case hF => intro vs; simp only [putAll, Act.put, List.setIfInBounds_toArray, List.set_cons_zero, List.set_cons_succ, Nat.reduceAdd]; rfl
        case hsu => exact fun _ _ => rfl
        case h0 => exact ⟨rfl, rfl, rfl, Nat.le_refl _, fun _ _ => rfl⟩
        case hstep =>
          repeat' (first | exact AllOps.nil | apply AllOps.cons)
          · intro lq9 vs wx hli hrs hG hd
            refine ⟨fun _ h => absurd h (by decide), fun _ K9 hK => ?_⟩
            replace hK : ∀ (uu : Value) (w' : World), ((fun wx => Below W7.heap.size W7 wx)) w' → (∀ j u, Nat.beq j 0 = false → Nat.beq j 15 = false → (HX ra rb na nb W7.heap.size) lq9 (([.e1, .v (.pointer (some ⟨g4, 0, none⟩)), .v (.slice Aa ra.length ca), .r1, .v (.pointer (some ⟨g5, 0, none⟩)), .v (.slice Ab rb.length cb), .r2, .p0, .v (.pointer (some ⟨g4, 1, none⟩)), .v (.slice Ba na.length da), .p1, .v (.pointer (some ⟨g5, 1, none⟩)), .v (.slice Bb nb.length db), .p2, .ag, .v undef, .v undef] : List _).getD j (.v undef)) u wx → (HX ra rb na nb W7.heap.size) (updR lq9 0 true) (([.e1, .v (.pointer (some ⟨g4, 0, none⟩)), .v (.slice Aa ra.length ca), .r1, .v (.pointer (some ⟨g5, 0, none⟩)), .v (.slice Ab rb.length cb), .r2, .p0, .v (.pointer (some ⟨g4, 1, none⟩)), .v (.slice Ba na.length da), .p1, .v (.pointer (some ⟨g5, 1, none⟩)), .v (.slice Bb nb.length db), .p2, .ag, .v undef, .v undef] : List _).getD j (.v undef)) u w') → (∀ g, ((Zx W7.heap.size)) g wx → ((Zx W7.heap.size)) g w') → (lq9 16 = true → ∀ u g, ((Bj ra rb na nb W7.heap.size)) u g wx → ((Bj ra rb na nb W7.heap.size)) u g w') → (Nat.beq 0 15 = true → ∃ g, uu = .pointer (some ⟨g, 0, none⟩) ∧ ((Zx W7.heap.size)) g w') → (Nat.beq 0 15 = false → (HX ra rb na nb W7.heap.size) (updR lq9 0 true) (.e1) uu w') → K9 _ w' := hK
            simp only [Act.put, List.setIfInBounds_toArray, List.set_cons_zero, List.set_cons_succ] at hK ⊢
            have HK := Lib.hid hK
            have HG := Lib.hid hG
            clear hK hd
            have hb : Below wx.heap.size wx (wx.alloc (.cells #[] 57)) := (Below.refl _ _).alloc (Nat.le_refl _) _
            have so := lit_so (α := Rz) (enc := encRz) (k := 2) wx W7.heap.size 57 wx.heap.size rfl HG.out.size #[] 0 [] encRz_len rfl rfl (by decide)
            have hgg := HG.out.alloc HG.out.size (.cells #[] 57)
            clear hG
            go_simp
            exact HK.out _ _ hgg (fun _ _ _ _ h => ((h.mono hb).upd (i := 0) (by decide) (by decide) (by decide) (by decide))) (fun _ h => Zx.mono h hb) (fun _ _ _ h => Bj.mono h hb) (fun h => absurd h (by decide)) (fun _ => fun _ => so)
          · intro lq9 vs wx hli hrs hG hd
            refine ⟨fun _ h => absurd h (by decide), fun _ K9 hK => ?_⟩
            replace hK : ∀ (uu : Value) (w' : World), ((fun wx => Below W7.heap.size W7 wx)) w' → (∀ j u, Nat.beq j 1 = false → Nat.beq j 15 = false → (HX ra rb na nb W7.heap.size) lq9 (([.e1, .v (.pointer (some ⟨g4, 0, none⟩)), .v (.slice Aa ra.length ca), .r1, .v (.pointer (some ⟨g5, 0, none⟩)), .v (.slice Ab rb.length cb), .r2, .p0, .v (.pointer (some ⟨g4, 1, none⟩)), .v (.slice Ba na.length da), .p1, .v (.pointer (some ⟨g5, 1, none⟩)), .v (.slice Bb nb.length db), .p2, .ag, .v undef, .v undef] : List _).getD j (.v undef)) u wx → (HX ra rb na nb W7.heap.size) (updR lq9 1 true) (([.e1, .v (.pointer (some ⟨g4, 0, none⟩)), .v (.slice Aa ra.length ca), .r1, .v (.pointer (some ⟨g5, 0, none⟩)), .v (.slice Ab rb.length cb), .r2, .p0, .v (.pointer (some ⟨g4, 1, none⟩)), .v (.slice Ba na.length da), .p1, .v (.pointer (some ⟨g5, 1, none⟩)), .v (.slice Bb nb.length db), .p2, .ag, .v undef, .v undef] : List _).getD j (.v undef)) u w') → (∀ g, ((Zx W7.heap.size)) g wx → ((Zx W7.heap.size)) g w') → (lq9 16 = true → ∀ u g, ((Bj ra rb na nb W7.heap.size)) u g wx → ((Bj ra rb na nb W7.heap.size)) u g w') → (Nat.beq 1 15 = true → ∃ g, uu = .pointer (some ⟨g, 0, none⟩) ∧ ((Zx W7.heap.size)) g w') → (Nat.beq 1 15 = false → (HX ra rb na nb W7.heap.size) (updR lq9 1 true) (.v (.pointer (some ⟨g4, 0, none⟩))) uu w') → K9 _ w' := hK
            simp only [Act.put, List.setIfInBounds_toArray, List.set_cons_zero, List.set_cons_succ] at hK ⊢
            have HK := Lib.hid hK
            have HG := Lib.hid hG
            clear hK hd
            clear hG
            go_simp
            exact HK.out _ _ HG.out (fun _ _ _ _ h9 => h9.upd (i := 1) (by decide) (by decide) (by decide) (by decide)) (fun _ h9 => h9) (fun _ _ _ h9 => h9) (fun h => absurd h (by decide)) (fun _ => rfl)
          · intro lq9 vs wx hli hrs hG hd
            refine ⟨fun _ h => absurd h (by decide), fun _ K9 hK => ?_⟩
            have e1 : vs 1 = .pointer (some ⟨g4, 0, none⟩) := hd.get (j := 1) (by simp [depsOf, Region.binds]) (by decide)
            replace hK : ∀ (uu : Value) (w' : World), ((fun wx => Below W7.heap.size W7 wx)) w' → (∀ j u, Nat.beq j 2 = false → Nat.beq j 15 = false → (HX ra rb na nb W7.heap.size) lq9 (([.e1, .v (.pointer (some ⟨g4, 0, none⟩)), .v (.slice Aa ra.length ca), .r1, .v (.pointer (some ⟨g5, 0, none⟩)), .v (.slice Ab rb.length cb), .r2, .p0, .v (.pointer (some ⟨g4, 1, none⟩)), .v (.slice Ba na.length da), .p1, .v (.pointer (some ⟨g5, 1, none⟩)), .v (.slice Bb nb.length db), .p2, .ag, .v undef, .v undef] : List _).getD j (.v undef)) u wx → (HX ra rb na nb W7.heap.size) (updR lq9 2 true) (([.e1, .v (.pointer (some ⟨g4, 0, none⟩)), .v (.slice Aa ra.length ca), .r1, .v (.pointer (some ⟨g5, 0, none⟩)), .v (.slice Ab rb.length cb), .r2, .p0, .v (.pointer (some ⟨g4, 1, none⟩)), .v (.slice Ba na.length da), .p1, .v (.pointer (some ⟨g5, 1, none⟩)), .v (.slice Bb nb.length db), .p2, .ag, .v undef, .v undef] : List _).getD j (.v undef)) u w') → (∀ g, ((Zx W7.heap.size)) g wx → ((Zx W7.heap.size)) g w') → (lq9 16 = true → ∀ u g, ((Bj ra rb na nb W7.heap.size)) u g wx → ((Bj ra rb na nb W7.heap.size)) u g w') → (Nat.beq 2 15 = true → ∃ g, uu = .pointer (some ⟨g, 0, none⟩) ∧ ((Zx W7.heap.size)) g w') → (Nat.beq 2 15 = false → (HX ra rb na nb W7.heap.size) (updR lq9 2 true) (.v (.slice Aa ra.length ca)) uu w') → K9 _ w' := hK
            simp only [Act.put, List.setIfInBounds_toArray, List.set_cons_zero, List.set_cons_succ, e1] at hK ⊢
            have HK := Lib.hid hK
            have HG := Lib.hid hG
            clear hK hd e1
            have hbw := HG.out
            have y0 : wx.cell? ⟨g4, 0, none⟩ = some (.slice Aa ra.length ca) := (HRA.out.below hbw).cell rfl
            have y1 : wx.cell? ⟨g4, 1, none⟩ = some (.slice Ba na.length da) := (HRA.out.below hbw).cell rfl
            have y2 : wx.cell? ⟨g5, 0, none⟩ = some (.slice Ab rb.length cb) := (HRB.out.below hbw).cell rfl
            have y3 : wx.cell? ⟨g5, 1, none⟩ = some (.slice Bb nb.length db) := (HRB.out.below hbw).cell rfl
            clear hG hbw
            go_simp
            exact HK.out _ _ HG.out (fun _ _ _ _ h9 => h9.upd (i := 2) (by decide) (by decide) (by decide) (by decide)) (fun _ h9 => h9) (fun _ _ _ h9 => h9) (fun h => absurd h (by decide)) (fun _ => rfl)
          · intro lq9 vs wx hli hrs hG hd
            refine ⟨fun _ h => absurd h (by decide), fun _ K9 hK => ?_⟩
            have h0 : (lq9 3 = false → So encRz 2 wx W7.heap.size 57 (vs 0) []) := hd.get (j := 0) (by simp [depsOf, Region.binds]) (by decide)
            have e2 : vs 2 = .slice Aa ra.length ca := hd.get (j := 2) (by simp [depsOf, Region.binds]) (by decide)
            replace hK : ∀ (uu : Value) (w' : World), ((fun wx => Below W7.heap.size W7 wx)) w' → (∀ j u, Nat.beq j 3 = false → Nat.beq j 15 = false → (HX ra rb na nb W7.heap.size) lq9 (([.e1, .v (.pointer (some ⟨g4, 0, none⟩)), .v (.slice Aa ra.length ca), .r1, .v (.pointer (some ⟨g5, 0, none⟩)), .v (.slice Ab rb.length cb), .r2, .p0, .v (.pointer (some ⟨g4, 1, none⟩)), .v (.slice Ba na.length da), .p1, .v (.pointer (some ⟨g5, 1, none⟩)), .v (.slice Bb nb.length db), .p2, .ag, .v undef, .v undef] : List _).getD j (.v undef)) u wx → (HX ra rb na nb W7.heap.size) (updR lq9 3 true) (([.e1, .v (.pointer (some ⟨g4, 0, none⟩)), .v (.slice Aa ra.length ca), .r1, .v (.pointer (some ⟨g5, 0, none⟩)), .v (.slice Ab rb.length cb), .r2, .p0, .v (.pointer (some ⟨g4, 1, none⟩)), .v (.slice Ba na.length da), .p1, .v (.pointer (some ⟨g5, 1, none⟩)), .v (.slice Bb nb.length db), .p2, .ag, .v undef, .v undef] : List _).getD j (.v undef)) u w') → (∀ g, ((Zx W7.heap.size)) g wx → ((Zx W7.heap.size)) g w') → (lq9 16 = true → ∀ u g, ((Bj ra rb na nb W7.heap.size)) u g wx → ((Bj ra rb na nb W7.heap.size)) u g w') → (Nat.beq 3 15 = true → ∃ g, uu = .pointer (some ⟨g, 0, none⟩) ∧ ((Zx W7.heap.size)) g w') → (Nat.beq 3 15 = false → (HX ra rb na nb W7.heap.size) (updR lq9 3 true) (.r1) uu w') → K9 _ w' := hK
            simp only [Act.put, List.setIfInBounds_toArray, List.set_cons_zero, List.set_cons_succ, e2] at hK ⊢
            have HK := Lib.hid hK
            have HG := Lib.hid hG
            clear hK hd e2
            have hso := h0 hli
            have hsz := HG.out.size
            have hsr := HSA.out wx HG.out
            have h16 : lq9 16 = false := hrs (by kernel_rfl)
            clear hG
            apply step_appE Tryz.underlying27 info_row rfl (by decide) encRz_len encRz_one (K := W7.heap.size) (v := vs 0) (l := []) (A := Aa) (cap := ca) (m := ra) (K' := wx.heap.size) (s := .tmp 106) (x := .tmp 108)
            case hgd => rfl
            case ho => rfl
            case hs => rfl
            case hx => rfl
            case hown => exact hso
            case hsrc => exact hsr
            case hm => unfold maxLen; have := HLN9.out; simp only [List.length_nil]; omega
            case hsz => have := HLN9.out; simp only [List.length_nil]; omega
            case hbase => exact hsz
            intro A5 c5 w5 so5 hg5
            simp only [Act.put, List.setIfInBounds_toArray, List.set_cons_zero, List.set_cons_succ]
            exact HK.out _ _ (HG.out.trans (grown_belowE (Below.refl _ _) hg5 hsz (fun _ e => (hso.lt _ e).1))) (fun _ _ _ _ h => h.g3 hli hso hg5) (fun _ h => ⟨h.1, h.2.grown hg5 (hso.nebox2 h.2 (by decide))⟩) (fun h => by rw [h16] at h; cases h) (fun h => absurd h (by decide)) (fun _ => ⟨updR_same _ _ _, fun _ => by simpa using so5⟩)
          · intro lq9 vs wx hli hrs hG hd
            refine ⟨fun _ h => absurd h (by decide), fun _ K9 hK => ?_⟩
            replace hK : ∀ (uu : Value) (w' : World), ((fun wx => Below W7.heap.size W7 wx)) w' → (∀ j u, Nat.beq j 4 = false → Nat.beq j 15 = false → (HX ra rb na nb W7.heap.size) lq9 (([.e1, .v (.pointer (some ⟨g4, 0, none⟩)), .v (.slice Aa ra.length ca), .r1, .v (.pointer (some ⟨g5, 0, none⟩)), .v (.slice Ab rb.length cb), .r2, .p0, .v (.pointer (some ⟨g4, 1, none⟩)), .v (.slice Ba na.length da), .p1, .v (.pointer (some ⟨g5, 1, none⟩)), .v (.slice Bb nb.length db), .p2, .ag, .v undef, .v undef] : List _).getD j (.v undef)) u wx → (HX ra rb na nb W7.heap.size) (updR lq9 4 true) (([.e1, .v (.pointer (some ⟨g4, 0, none⟩)), .v (.slice Aa ra.length ca), .r1, .v (.pointer (some ⟨g5, 0, none⟩)), .v (.slice Ab rb.length cb), .r2, .p0, .v (.pointer (some ⟨g4, 1, none⟩)), .v (.slice Ba na.length da), .p1, .v (.pointer (some ⟨g5, 1, none⟩)), .v (.slice Bb nb.length db), .p2, .ag, .v undef, .v undef] : List _).getD j (.v undef)) u w') → (∀ g, ((Zx W7.heap.size)) g wx → ((Zx W7.heap.size)) g w') → (lq9 16 = true → ∀ u g, ((Bj ra rb na nb W7.heap.size)) u g wx → ((Bj ra rb na nb W7.heap.size)) u g w') → (Nat.beq 4 15 = true → ∃ g, uu = .pointer (some ⟨g, 0, none⟩) ∧ ((Zx W7.heap.size)) g w') → (Nat.beq 4 15 = false → (HX ra rb na nb W7.heap.size) (updR lq9 4 true) (.v (.pointer (some ⟨g5, 0, none⟩))) uu w') → K9 _ w' := hK
            simp only [Act.put, List.setIfInBounds_toArray, List.set_cons_zero, List.set_cons_succ] at hK ⊢
            have HK := Lib.hid hK
            have HG := Lib.hid hG
            clear hK hd
            clear hG
            go_simp
            exact HK.out _ _ HG.out (fun _ _ _ _ h9 => h9.upd (i := 4) (by decide) (by decide) (by decide) (by decide)) (fun _ h9 => h9) (fun _ _ _ h9 => h9) (fun h => absurd h (by decide)) (fun _ => rfl)
          · intro lq9 vs wx hli hrs hG hd
            refine ⟨fun _ h => absurd h (by decide), fun _ K9 hK => ?_⟩
            have e4 : vs 4 = .pointer (some ⟨g5, 0, none⟩) := hd.get (j := 4) (by simp [depsOf, Region.binds]) (by decide)
            replace hK : ∀ (uu : Value) (w' : World), ((fun wx => Below W7.heap.size W7 wx)) w' → (∀ j u, Nat.beq j 5 = false → Nat.beq j 15 = false → (HX ra rb na nb W7.heap.size) lq9 (([.e1, .v (.pointer (some ⟨g4, 0, none⟩)), .v (.slice Aa ra.length ca), .r1, .v (.pointer (some ⟨g5, 0, none⟩)), .v (.slice Ab rb.length cb), .r2, .p0, .v (.pointer (some ⟨g4, 1, none⟩)), .v (.slice Ba na.length da), .p1, .v (.pointer (some ⟨g5, 1, none⟩)), .v (.slice Bb nb.length db), .p2, .ag, .v undef, .v undef] : List _).getD j (.v undef)) u wx → (HX ra rb na nb W7.heap.size) (updR lq9 5 true) (([.e1, .v (.pointer (some ⟨g4, 0, none⟩)), .v (.slice Aa ra.length ca), .r1, .v (.pointer (some ⟨g5, 0, none⟩)), .v (.slice Ab rb.length cb), .r2, .p0, .v (.pointer (some ⟨g4, 1, none⟩)), .v (.slice Ba na.length da), .p1, .v (.pointer (some ⟨g5, 1, none⟩)), .v (.slice Bb nb.length db), .p2, .ag, .v undef, .v undef] : List _).getD j (.v undef)) u w') → (∀ g, ((Zx W7.heap.size)) g wx → ((Zx W7.heap.size)) g w') → (lq9 16 = true → ∀ u g, ((Bj ra rb na nb W7.heap.size)) u g wx → ((Bj ra rb na nb W7.heap.size)) u g w') → (Nat.beq 5 15 = true → ∃ g, uu = .pointer (some ⟨g, 0, none⟩) ∧ ((Zx W7.heap.size)) g w') → (Nat.beq 5 15 = false → (HX ra rb na nb W7.heap.size) (updR lq9 5 true) (.v (.slice Ab rb.length cb)) uu w') → K9 _ w' := hK
            simp only [Act.put, List.setIfInBounds_toArray, List.set_cons_zero, List.set_cons_succ, e4] at hK ⊢
            have HK := Lib.hid hK
            have HG := Lib.hid hG
            clear hK hd e4
            have hbw := HG.out
            have y0 : wx.cell? ⟨g4, 0, none⟩ = some (.slice Aa ra.length ca) := (HRA.out.below hbw).cell rfl
            have y1 : wx.cell? ⟨g4, 1, none⟩ = some (.slice Ba na.length da) := (HRA.out.below hbw).cell rfl
            have y2 : wx.cell? ⟨g5, 0, none⟩ = some (.slice Ab rb.length cb) := (HRB.out.below hbw).cell rfl
            have y3 : wx.cell? ⟨g5, 1, none⟩ = some (.slice Bb nb.length db) := (HRB.out.below hbw).cell rfl
            clear hG hbw
            go_simp
            exact HK.out _ _ HG.out (fun _ _ _ _ h9 => h9.upd (i := 5) (by decide) (by decide) (by decide) (by decide)) (fun _ h9 => h9) (fun _ _ _ h9 => h9) (fun h => absurd h (by decide)) (fun _ => rfl)
          · intro lq9 vs wx hli hrs hG hd
            refine ⟨fun _ h => absurd h (by decide), fun _ K9 hK => ?_⟩
            have h3 : (lq9 3 = true ∧ (lq9 6 = false → So encRz 2 wx W7.heap.size 57 (vs 3) ra)) := hd.get (j := 3) (by simp [depsOf, Region.binds]) (by decide)
            have e5 : vs 5 = .slice Ab rb.length cb := hd.get (j := 5) (by simp [depsOf, Region.binds]) (by decide)
            replace hK : ∀ (uu : Value) (w' : World), ((fun wx => Below W7.heap.size W7 wx)) w' → (∀ j u, Nat.beq j 6 = false → Nat.beq j 15 = false → (HX ra rb na nb W7.heap.size) lq9 (([.e1, .v (.pointer (some ⟨g4, 0, none⟩)), .v (.slice Aa ra.length ca), .r1, .v (.pointer (some ⟨g5, 0, none⟩)), .v (.slice Ab rb.length cb), .r2, .p0, .v (.pointer (some ⟨g4, 1, none⟩)), .v (.slice Ba na.length da), .p1, .v (.pointer (some ⟨g5, 1, none⟩)), .v (.slice Bb nb.length db), .p2, .ag, .v undef, .v undef] : List _).getD j (.v undef)) u wx → (HX ra rb na nb W7.heap.size) (updR lq9 6 true) (([.e1, .v (.pointer (some ⟨g4, 0, none⟩)), .v (.slice Aa ra.length ca), .r1, .v (.pointer (some ⟨g5, 0, none⟩)), .v (.slice Ab rb.length cb), .r2, .p0, .v (.pointer (some ⟨g4, 1, none⟩)), .v (.slice Ba na.length da), .p1, .v (.pointer (some ⟨g5, 1, none⟩)), .v (.slice Bb nb.length db), .p2, .ag, .v undef, .v undef] : List _).getD j (.v undef)) u w') → (∀ g, ((Zx W7.heap.size)) g wx → ((Zx W7.heap.size)) g w') → (lq9 16 = true → ∀ u g, ((Bj ra rb na nb W7.heap.size)) u g wx → ((Bj ra rb na nb W7.heap.size)) u g w') → (Nat.beq 6 15 = true → ∃ g, uu = .pointer (some ⟨g, 0, none⟩) ∧ ((Zx W7.heap.size)) g w') → (Nat.beq 6 15 = false → (HX ra rb na nb W7.heap.size) (updR lq9 6 true) (.r2) uu w') → K9 _ w' := hK
            simp only [Act.put, List.setIfInBounds_toArray, List.set_cons_zero, List.set_cons_succ, e5] at hK ⊢
            have HK := Lib.hid hK
            have HG := Lib.hid hG
            clear hK hd e5
            have hso := h3.2 hli
            have hft := h3.1
            have hsz := HG.out.size
            have hsr := HSB.out wx HG.out
            have h16 : lq9 16 = false := hrs (by kernel_rfl)
            clear hG
            apply step_appE Tryz.underlying27 info_row rfl (by decide) encRz_len encRz_one (K := W7.heap.size) (v := vs 3) (l := ra) (A := Ab) (cap := cb) (m := rb) (K' := wx.heap.size) (s := .tmp 109) (x := .tmp 111)
            case hgd => rfl
            case ho => rfl
            case hs => rfl
            case hx => rfl
            case hown => exact hso
            case hsrc => exact hsr
            case hm => unfold maxLen; have := HLN9.out; omega
            case hsz => have := HLN9.out; omega
            case hbase => exact hsz
            intro A5 c5 w5 so5 hg5
            simp only [Act.put, List.setIfInBounds_toArray, List.set_cons_zero, List.set_cons_succ]
            exact HK.out _ _ (HG.out.trans (grown_belowE (Below.refl _ _) hg5 hsz (fun _ e => (hso.lt _ e).1))) (fun _ _ _ _ h => h.g6 hli hft hso hg5) (fun _ h => ⟨h.1, h.2.grown hg5 (hso.nebox2 h.2 (by decide))⟩) (fun h => by rw [h16] at h; cases h) (fun h => absurd h (by decide)) (fun _ => ⟨⟨by rw [updR_ne _ _ (by decide)]; exact hft, updR_same _ _ _⟩, A5, c5, rfl, so5⟩)
          · intro lq9 vs wx hli hrs hG hd
            refine ⟨fun _ h => absurd h (by decide), fun _ K9 hK => ?_⟩
            replace hK : ∀ (uu : Value) (w' : World), ((fun wx => Below W7.heap.size W7 wx)) w' → (∀ j u, Nat.beq j 7 = false → Nat.beq j 15 = false → (HX ra rb na nb W7.heap.size) lq9 (([.e1, .v (.pointer (some ⟨g4, 0, none⟩)), .v (.slice Aa ra.length ca), .r1, .v (.pointer (some ⟨g5, 0, none⟩)), .v (.slice Ab rb.length cb), .r2, .p0, .v (.pointer (some ⟨g4, 1, none⟩)), .v (.slice Ba na.length da), .p1, .v (.pointer (some ⟨g5, 1, none⟩)), .v (.slice Bb nb.length db), .p2, .ag, .v undef, .v undef] : List _).getD j (.v undef)) u wx → (HX ra rb na nb W7.heap.size) (updR lq9 7 true) (([.e1, .v (.pointer (some ⟨g4, 0, none⟩)), .v (.slice Aa ra.length ca), .r1, .v (.pointer (some ⟨g5, 0, none⟩)), .v (.slice Ab rb.length cb), .r2, .p0, .v (.pointer (some ⟨g4, 1, none⟩)), .v (.slice Ba na.length da), .p1, .v (.pointer (some ⟨g5, 1, none⟩)), .v (.slice Bb nb.length db), .p2, .ag, .v undef, .v undef] : List _).getD j (.v undef)) u w') → (∀ g, ((Zx W7.heap.size)) g wx → ((Zx W7.heap.size)) g w') → (lq9 16 = true → ∀ u g, ((Bj ra rb na nb W7.heap.size)) u g wx → ((Bj ra rb na nb W7.heap.size)) u g w') → (Nat.beq 7 15 = true → ∃ g, uu = .pointer (some ⟨g, 0, none⟩) ∧ ((Zx W7.heap.size)) g w') → (Nat.beq 7 15 = false → (HX ra rb na nb W7.heap.size) (updR lq9 7 true) (.p0) uu w') → K9 _ w' := hK
            simp only [Act.put, List.setIfInBounds_toArray, List.set_cons_zero, List.set_cons_succ] at hK ⊢
            have HK := Lib.hid hK
            have HG := Lib.hid hG
            clear hK hd
            have hb : Below wx.heap.size wx (wx.alloc (.cells #[] 52)) := (Below.refl _ _).alloc (Nat.le_refl _) _
            have so := lit_so (α := Pz) (enc := encPz) (k := 8) wx W7.heap.size 52 wx.heap.size rfl HG.out.size #[] 0 [] encPz_len rfl rfl (by decide)
            have hgg := HG.out.alloc HG.out.size (.cells #[] 52)
            clear hG
            go_simp
            exact HK.out _ _ hgg (fun _ _ _ _ h => ((h.mono hb).upd (i := 7) (by decide) (by decide) (by decide) (by decide))) (fun _ h => Zx.mono h hb) (fun _ _ _ h => Bj.mono h hb) (fun h => absurd h (by decide)) (fun _ => fun _ => so)
          · intro lq9 vs wx hli hrs hG hd
            refine ⟨fun _ h => absurd h (by decide), fun _ K9 hK => ?_⟩
            replace hK : ∀ (uu : Value) (w' : World), ((fun wx => Below W7.heap.size W7 wx)) w' → (∀ j u, Nat.beq j 8 = false → Nat.beq j 15 = false → (HX ra rb na nb W7.heap.size) lq9 (([.e1, .v (.pointer (some ⟨g4, 0, none⟩)), .v (.slice Aa ra.length ca), .r1, .v (.pointer (some ⟨g5, 0, none⟩)), .v (.slice Ab rb.length cb), .r2, .p0, .v (.pointer (some ⟨g4, 1, none⟩)), .v (.slice Ba na.length da), .p1, .v (.pointer (some ⟨g5, 1, none⟩)), .v (.slice Bb nb.length db), .p2, .ag, .v undef, .v undef] : List _).getD j (.v undef)) u wx → (HX ra rb na nb W7.heap.size) (updR lq9 8 true) (([.e1, .v (.pointer (some ⟨g4, 0, none⟩)), .v (.slice Aa ra.length ca), .r1, .v (.pointer (some ⟨g5, 0, none⟩)), .v (.slice Ab rb.length cb), .r2, .p0, .v (.pointer (some ⟨g4, 1, none⟩)), .v (.slice Ba na.length da), .p1, .v (.pointer (some ⟨g5, 1, none⟩)), .v (.slice Bb nb.length db), .p2, .ag, .v undef, .v undef] : List _).getD j (.v undef)) u w') → (∀ g, ((Zx W7.heap.size)) g wx → ((Zx W7.heap.size)) g w') → (lq9 16 = true → ∀ u g, ((Bj ra rb na nb W7.heap.size)) u g wx → ((Bj ra rb na nb W7.heap.size)) u g w') → (Nat.beq 8 15 = true → ∃ g, uu = .pointer (some ⟨g, 0, none⟩) ∧ ((Zx W7.heap.size)) g w') → (Nat.beq 8 15 = false → (HX ra rb na nb W7.heap.size) (updR lq9 8 true) (.v (.pointer (some ⟨g4, 1, none⟩))) uu w') → K9 _ w' := hK
            simp only [Act.put, List.setIfInBounds_toArray, List.set_cons_zero, List.set_cons_succ] at hK ⊢
            have HK := Lib.hid hK
            have HG := Lib.hid hG
            clear hK hd
            clear hG
            go_simp
            exact HK.out _ _ HG.out (fun _ _ _ _ h9 => h9.upd (i := 8) (by decide) (by decide) (by decide) (by decide)) (fun _ h9 => h9) (fun _ _ _ h9 => h9) (fun h => absurd h (by decide)) (fun _ => rfl)
          · intro lq9 vs wx hli hrs hG hd
            refine ⟨fun _ h => absurd h (by decide), fun _ K9 hK => ?_⟩
            have e8 : vs 8 = .pointer (some ⟨g4, 1, none⟩) := hd.get (j := 8) (by simp [depsOf, Region.binds]) (by decide)
            replace hK : ∀ (uu : Value) (w' : World), ((fun wx => Below W7.heap.size W7 wx)) w' → (∀ j u, Nat.beq j 9 = false → Nat.beq j 15 = false → (HX ra rb na nb W7.heap.size) lq9 (([.e1, .v (.pointer (some ⟨g4, 0, none⟩)), .v (.slice Aa ra.length ca), .r1, .v (.pointer (some ⟨g5, 0, none⟩)), .v (.slice Ab rb.length cb), .r2, .p0, .v (.pointer (some ⟨g4, 1, none⟩)), .v (.slice Ba na.length da), .p1, .v (.pointer (some ⟨g5, 1, none⟩)), .v (.slice Bb nb.length db), .p2, .ag, .v undef, .v undef] : List _).getD j (.v undef)) u wx → (HX ra rb na nb W7.heap.size) (updR lq9 9 true) (([.e1, .v (.pointer (some ⟨g4, 0, none⟩)), .v (.slice Aa ra.length ca), .r1, .v (.pointer (some ⟨g5, 0, none⟩)), .v (.slice Ab rb.length cb), .r2, .p0, .v (.pointer (some ⟨g4, 1, none⟩)), .v (.slice Ba na.length da), .p1, .v (.pointer (some ⟨g5, 1, none⟩)), .v (.slice Bb nb.length db), .p2, .ag, .v undef, .v undef] : List _).getD j (.v undef)) u w') → (∀ g, ((Zx W7.heap.size)) g wx → ((Zx W7.heap.size)) g w') → (lq9 16 = true → ∀ u g, ((Bj ra rb na nb W7.heap.size)) u g wx → ((Bj ra rb na nb W7.heap.size)) u g w') → (Nat.beq 9 15 = true → ∃ g, uu = .pointer (some ⟨g, 0, none⟩) ∧ ((Zx W7.heap.size)) g w') → (Nat.beq 9 15 = false → (HX ra rb na nb W7.heap.size) (updR lq9 9 true) (.v (.slice Ba na.length da)) uu w') → K9 _ w' := hK
            simp only [Act.put, List.setIfInBounds_toArray, List.set_cons_zero, List.set_cons_succ, e8] at hK ⊢
            have HK := Lib.hid hK
            have HG := Lib.hid hG
            clear hK hd e8
            have hbw := HG.out
            have y0 : wx.cell? ⟨g4, 0, none⟩ = some (.slice Aa ra.length ca) := (HRA.out.below hbw).cell rfl
            have y1 : wx.cell? ⟨g4, 1, none⟩ = some (.slice Ba na.length da) := (HRA.out.below hbw).cell rfl
            have y2 : wx.cell? ⟨g5, 0, none⟩ = some (.slice Ab rb.length cb) := (HRB.out.below hbw).cell rfl
            have y3 : wx.cell? ⟨g5, 1, none⟩ = some (.slice Bb nb.length db) := (HRB.out.below hbw).cell rfl
            clear hG hbw
            go_simp
            exact HK.out _ _ HG.out (fun _ _ _ _ h9 => h9.upd (i := 9) (by decide) (by decide) (by decide) (by decide)) (fun _ h9 => h9) (fun _ _ _ h9 => h9) (fun h => absurd h (by decide)) (fun _ => rfl)
          · intro lq9 vs wx hli hrs hG hd
            refine ⟨fun _ h => absurd h (by decide), fun _ K9 hK => ?_⟩
            have h7 : (lq9 10 = false → So encPz 8 wx W7.heap.size 52 (vs 7) []) := hd.get (j := 7) (by simp [depsOf, Region.binds]) (by decide)
            have e9 : vs 9 = .slice Ba na.length da := hd.get (j := 9) (by simp [depsOf, Region.binds]) (by decide)
            replace hK : ∀ (uu : Value) (w' : World), ((fun wx => Below W7.heap.size W7 wx)) w' → (∀ j u, Nat.beq j 10 = false → Nat.beq j 15 = false → (HX ra rb na nb W7.heap.size) lq9 (([.e1, .v (.pointer (some ⟨g4, 0, none⟩)), .v (.slice Aa ra.length ca), .r1, .v (.pointer (some ⟨g5, 0, none⟩)), .v (.slice Ab rb.length cb), .r2, .p0, .v (.pointer (some ⟨g4, 1, none⟩)), .v (.slice Ba na.length da), .p1, .v (.pointer (some ⟨g5, 1, none⟩)), .v (.slice Bb nb.length db), .p2, .ag, .v undef, .v undef] : List _).getD j (.v undef)) u wx → (HX ra rb na nb W7.heap.size) (updR lq9 10 true) (([.e1, .v (.pointer (some ⟨g4, 0, none⟩)), .v (.slice Aa ra.length ca), .r1, .v (.pointer (some ⟨g5, 0, none⟩)), .v (.slice Ab rb.length cb), .r2, .p0, .v (.pointer (some ⟨g4, 1, none⟩)), .v (.slice Ba na.length da), .p1, .v (.pointer (some ⟨g5, 1, none⟩)), .v (.slice Bb nb.length db), .p2, .ag, .v undef, .v undef] : List _).getD j (.v undef)) u w') → (∀ g, ((Zx W7.heap.size)) g wx → ((Zx W7.heap.size)) g w') → (lq9 16 = true → ∀ u g, ((Bj ra rb na nb W7.heap.size)) u g wx → ((Bj ra rb na nb W7.heap.size)) u g w') → (Nat.beq 10 15 = true → ∃ g, uu = .pointer (some ⟨g, 0, none⟩) ∧ ((Zx W7.heap.size)) g w') → (Nat.beq 10 15 = false → (HX ra rb na nb W7.heap.size) (updR lq9 10 true) (.p1) uu w') → K9 _ w' := hK
            simp only [Act.put, List.setIfInBounds_toArray, List.set_cons_zero, List.set_cons_succ, e9] at hK ⊢
            have HK := Lib.hid hK
            have HG := Lib.hid hG
            clear hK hd e9
            have hso := h7 hli
            have hsz := HG.out.size
            have hsr := HPA9.out wx HG.out
            have h16 : lq9 16 = false := hrs (by kernel_rfl)
            clear hG
            apply step_appE Tryz.underlying28 info_pt rfl (by decide) encPz_len encPz_one (K := W7.heap.size) (v := vs 7) (l := []) (A := Ba) (cap := da) (m := na) (K' := wx.heap.size) (s := .tmp 113) (x := .tmp 115)
            case hgd => rfl
            case ho => rfl
            case hs => rfl
            case hx => rfl
            case hown => exact hso
            case hsrc => exact hsr
            case hm => unfold maxLen; have := HLN9.out; simp only [List.length_nil]; omega
            case hsz => have := HLN9.out; simp only [List.length_nil]; omega
            case hbase => exact hsz
            intro A5 c5 w5 so5 hg5
            simp only [Act.put, List.setIfInBounds_toArray, List.set_cons_zero, List.set_cons_succ]
            exact HK.out _ _ (HG.out.trans (grown_belowE (Below.refl _ _) hg5 hsz (fun _ e => (hso.lt _ e).1))) (fun _ _ _ _ h => h.g10 hli hso hg5) (fun _ h => ⟨h.1, h.2.grown hg5 (hso.nebox2 h.2 (by decide))⟩) (fun h => by rw [h16] at h; cases h) (fun h => absurd h (by decide)) (fun _ => ⟨updR_same _ _ _, fun _ => by simpa using so5⟩)
          · intro lq9 vs wx hli hrs hG hd
            refine ⟨fun _ h => absurd h (by decide), fun _ K9 hK => ?_⟩
            replace hK : ∀ (uu : Value) (w' : World), ((fun wx => Below W7.heap.size W7 wx)) w' → (∀ j u, Nat.beq j 11 = false → Nat.beq j 15 = false → (HX ra rb na nb W7.heap.size) lq9 (([.e1, .v (.pointer (some ⟨g4, 0, none⟩)), .v (.slice Aa ra.length ca), .r1, .v (.pointer (some ⟨g5, 0, none⟩)), .v (.slice Ab rb.length cb), .r2, .p0, .v (.pointer (some ⟨g4, 1, none⟩)), .v (.slice Ba na.length da), .p1, .v (.pointer (some ⟨g5, 1, none⟩)), .v (.slice Bb nb.length db), .p2, .ag, .v undef, .v undef] : List _).getD j (.v undef)) u wx → (HX ra rb na nb W7.heap.size) (updR lq9 11 true) (([.e1, .v (.pointer (some ⟨g4, 0, none⟩)), .v (.slice Aa ra.length ca), .r1, .v (.pointer (some ⟨g5, 0, none⟩)), .v (.slice Ab rb.length cb), .r2, .p0, .v (.pointer (some ⟨g4, 1, none⟩)), .v (.slice Ba na.length da), .p1, .v (.pointer (some ⟨g5, 1, none⟩)), .v (.slice Bb nb.length db), .p2, .ag, .v undef, .v undef] : List _).getD j (.v undef)) u w') → (∀ g, ((Zx W7.heap.size)) g wx → ((Zx W7.heap.size)) g w') → (lq9 16 = true → ∀ u g, ((Bj ra rb na nb W7.heap.size)) u g wx → ((Bj ra rb na nb W7.heap.size)) u g w') → (Nat.beq 11 15 = true → ∃ g, uu = .pointer (some ⟨g, 0, none⟩) ∧ ((Zx W7.heap.size)) g w') → (Nat.beq 11 15 = false → (HX ra rb na nb W7.heap.size) (updR lq9 11 true) (.v (.pointer (some ⟨g5, 1, none⟩))) uu w') → K9 _ w' := hK
            simp only [Act.put, List.setIfInBounds_toArray, List.set_cons_zero, List.set_cons_succ] at hK ⊢
            have HK := Lib.hid hK
            have HG := Lib.hid hG
            clear hK hd
            clear hG
            go_simp
            exact HK.out _ _ HG.out (fun _ _ _ _ h9 => h9.upd (i := 11) (by decide) (by decide) (by decide) (by decide)) (fun _ h9 => h9) (fun _ _ _ h9 => h9) (fun h => absurd h (by decide)) (fun _ => rfl)
          · intro lq9 vs wx hli hrs hG hd
            refine ⟨fun _ h => absurd h (by decide), fun _ K9 hK => ?_⟩
            have e11 : vs 11 = .pointer (some ⟨g5, 1, none⟩) := hd.get (j := 11) (by simp [depsOf, Region.binds]) (by decide)
            replace hK : ∀ (uu : Value) (w' : World), ((fun wx => Below W7.heap.size W7 wx)) w' → (∀ j u, Nat.beq j 12 = false → Nat.beq j 15 = false → (HX ra rb na nb W7.heap.size) lq9 (([.e1, .v (.pointer (some ⟨g4, 0, none⟩)), .v (.slice Aa ra.length ca), .r1, .v (.pointer (some ⟨g5, 0, none⟩)), .v (.slice Ab rb.length cb), .r2, .p0, .v (.pointer (some ⟨g4, 1, none⟩)), .v (.slice Ba na.length da), .p1, .v (.pointer (some ⟨g5, 1, none⟩)), .v (.slice Bb nb.length db), .p2, .ag, .v undef, .v undef] : List _).getD j (.v undef)) u wx → (HX ra rb na nb W7.heap.size) (updR lq9 12 true) (([.e1, .v (.pointer (some ⟨g4, 0, none⟩)), .v (.slice Aa ra.length ca), .r1, .v (.pointer (some ⟨g5, 0, none⟩)), .v (.slice Ab rb.length cb), .r2, .p0, .v (.pointer (some ⟨g4, 1, none⟩)), .v (.slice Ba na.length da), .p1, .v (.pointer (some ⟨g5, 1, none⟩)), .v (.slice Bb nb.length db), .p2, .ag, .v undef, .v undef] : List _).getD j (.v undef)) u w') → (∀ g, ((Zx W7.heap.size)) g wx → ((Zx W7.heap.size)) g w') → (lq9 16 = true → ∀ u g, ((Bj ra rb na nb W7.heap.size)) u g wx → ((Bj ra rb na nb W7.heap.size)) u g w') → (Nat.beq 12 15 = true → ∃ g, uu = .pointer (some ⟨g, 0, none⟩) ∧ ((Zx W7.heap.size)) g w') → (Nat.beq 12 15 = false → (HX ra rb na nb W7.heap.size) (updR lq9 12 true) (.v (.slice Bb nb.length db)) uu w') → K9 _ w' := hK
            simp only [Act.put, List.setIfInBounds_toArray, List.set_cons_zero, List.set_cons_succ, e11] at hK ⊢
            have HK := Lib.hid hK
            have HG := Lib.hid hG
            clear hK hd e11
            have hbw := HG.out
            have y0 : wx.cell? ⟨g4, 0, none⟩ = some (.slice Aa ra.length ca) := (HRA.out.below hbw).cell rfl
            have y1 : wx.cell? ⟨g4, 1, none⟩ = some (.slice Ba na.length da) := (HRA.out.below hbw).cell rfl
            have y2 : wx.cell? ⟨g5, 0, none⟩ = some (.slice Ab rb.length cb) := (HRB.out.below hbw).cell rfl
            have y3 : wx.cell? ⟨g5, 1, none⟩ = some (.slice Bb nb.length db) := (HRB.out.below hbw).cell rfl
            clear hG hbw
            go_simp
            exact HK.out _ _ HG.out (fun _ _ _ _ h9 => h9.upd (i := 12) (by decide) (by decide) (by decide) (by decide)) (fun _ h9 => h9) (fun _ _ _ h9 => h9) (fun h => absurd h (by decide)) (fun _ => rfl)
          · intro lq9 vs wx hli hrs hG hd
            refine ⟨fun _ h => absurd h (by decide), fun _ K9 hK => ?_⟩
            have h10 : (lq9 10 = true ∧ (lq9 13 = false → So encPz 8 wx W7.heap.size 52 (vs 10) na)) := hd.get (j := 10) (by simp [depsOf, Region.binds]) (by decide)
            have e12 : vs 12 = .slice Bb nb.length db := hd.get (j := 12) (by simp [depsOf, Region.binds]) (by decide)
            replace hK : ∀ (uu : Value) (w' : World), ((fun wx => Below W7.heap.size W7 wx)) w' → (∀ j u, Nat.beq j 13 = false → Nat.beq j 15 = false → (HX ra rb na nb W7.heap.size) lq9 (([.e1, .v (.pointer (some ⟨g4, 0, none⟩)), .v (.slice Aa ra.length ca), .r1, .v (.pointer (some ⟨g5, 0, none⟩)), .v (.slice Ab rb.length cb), .r2, .p0, .v (.pointer (some ⟨g4, 1, none⟩)), .v (.slice Ba na.length da), .p1, .v (.pointer (some ⟨g5, 1, none⟩)), .v (.slice Bb nb.length db), .p2, .ag, .v undef, .v undef] : List _).getD j (.v undef)) u wx → (HX ra rb na nb W7.heap.size) (updR lq9 13 true) (([.e1, .v (.pointer (some ⟨g4, 0, none⟩)), .v (.slice Aa ra.length ca), .r1, .v (.pointer (some ⟨g5, 0, none⟩)), .v (.slice Ab rb.length cb), .r2, .p0, .v (.pointer (some ⟨g4, 1, none⟩)), .v (.slice Ba na.length da), .p1, .v (.pointer (some ⟨g5, 1, none⟩)), .v (.slice Bb nb.length db), .p2, .ag, .v undef, .v undef] : List _).getD j (.v undef)) u w') → (∀ g, ((Zx W7.heap.size)) g wx → ((Zx W7.heap.size)) g w') → (lq9 16 = true → ∀ u g, ((Bj ra rb na nb W7.heap.size)) u g wx → ((Bj ra rb na nb W7.heap.size)) u g w') → (Nat.beq 13 15 = true → ∃ g, uu = .pointer (some ⟨g, 0, none⟩) ∧ ((Zx W7.heap.size)) g w') → (Nat.beq 13 15 = false → (HX ra rb na nb W7.heap.size) (updR lq9 13 true) (.p2) uu w') → K9 _ w' := hK
            simp only [Act.put, List.setIfInBounds_toArray, List.set_cons_zero, List.set_cons_succ, e12] at hK ⊢
            have HK := Lib.hid hK
            have HG := Lib.hid hG
            clear hK hd e12
            have hso := h10.2 hli
            have hft := h10.1
            have hsz := HG.out.size
            have hsr := HPB9.out wx HG.out
            have h16 : lq9 16 = false := hrs (by kernel_rfl)
            clear hG
            apply step_appE Tryz.underlying28 info_pt rfl (by decide) encPz_len encPz_one (K := W7.heap.size) (v := vs 10) (l := na) (A := Bb) (cap := db) (m := nb) (K' := wx.heap.size) (s := .tmp 116) (x := .tmp 118)
            case hgd => rfl
            case ho => rfl
            case hs => rfl
            case hx => rfl
            case hown => exact hso
            case hsrc => exact hsr
            case hm => unfold maxLen; have := HLN9.out; omega
            case hsz => have := HLN9.out; omega
            case hbase => exact hsz
            intro A5 c5 w5 so5 hg5
            simp only [Act.put, List.setIfInBounds_toArray, List.set_cons_zero, List.set_cons_succ]
            exact HK.out _ _ (HG.out.trans (grown_belowE (Below.refl _ _) hg5 hsz (fun _ e => (hso.lt _ e).1))) (fun _ _ _ _ h => h.g13 hli hft hso hg5) (fun _ h => ⟨h.1, h.2.grown hg5 (hso.nebox2 h.2 (by decide))⟩) (fun h => by rw [h16] at h; cases h) (fun h => absurd h (by decide)) (fun _ => ⟨⟨by rw [updR_ne _ _ (by decide)]; exact hft, updR_same _ _ _⟩, A5, c5, rfl, so5⟩)
          · intro lq9 vs wx hli hrs hG hd
            refine ⟨fun _ h => absurd h (by decide), fun _ K9 hK => ?_⟩
            obtain ⟨⟨p6, q6⟩, A6, d6, e6, r6⟩ : (lq9 3 = true ∧ lq9 6 = true) ∧ ∃ (A' : Option Addr) (c' : Nat), vs 6 = .slice A' (ra.length + rb.length) c' ∧ So encRz 2 wx W7.heap.size 57 (.slice A' (ra.length + rb.length) c') (ra ++ rb) := hd.get (j := 6) (by simp [depsOf, Region.binds]) (by decide)
            obtain ⟨⟨p13, q13⟩, A13, d13, e13, r13⟩ : (lq9 10 = true ∧ lq9 13 = true) ∧ ∃ (A' : Option Addr) (c' : Nat), vs 13 = .slice A' (na.length + nb.length) c' ∧ So encPz 8 wx W7.heap.size 52 (.slice A' (na.length + nb.length) c') (na ++ nb) := hd.get (j := 13) (by simp [depsOf, Region.binds]) (by decide)
            replace hK : ∀ (uu : Value) (w' : World), ((fun wx => Below W7.heap.size W7 wx)) w' → (∀ j u, Nat.beq j 14 = false → Nat.beq j 15 = false → (HX ra rb na nb W7.heap.size) lq9 (([.e1, .v (.pointer (some ⟨g4, 0, none⟩)), .v (.slice Aa ra.length ca), .r1, .v (.pointer (some ⟨g5, 0, none⟩)), .v (.slice Ab rb.length cb), .r2, .p0, .v (.pointer (some ⟨g4, 1, none⟩)), .v (.slice Ba na.length da), .p1, .v (.pointer (some ⟨g5, 1, none⟩)), .v (.slice Bb nb.length db), .p2, .ag, .v undef, .v undef] : List _).getD j (.v undef)) u wx → (HX ra rb na nb W7.heap.size) (updR lq9 14 true) (([.e1, .v (.pointer (some ⟨g4, 0, none⟩)), .v (.slice Aa ra.length ca), .r1, .v (.pointer (some ⟨g5, 0, none⟩)), .v (.slice Ab rb.length cb), .r2, .p0, .v (.pointer (some ⟨g4, 1, none⟩)), .v (.slice Ba na.length da), .p1, .v (.pointer (some ⟨g5, 1, none⟩)), .v (.slice Bb nb.length db), .p2, .ag, .v undef, .v undef] : List _).getD j (.v undef)) u w') → (∀ g, ((Zx W7.heap.size)) g wx → ((Zx W7.heap.size)) g w') → (lq9 16 = true → ∀ u g, ((Bj ra rb na nb W7.heap.size)) u g wx → ((Bj ra rb na nb W7.heap.size)) u g w') → (Nat.beq 14 15 = true → ∃ g, uu = .pointer (some ⟨g, 0, none⟩) ∧ ((Zx W7.heap.size)) g w') → (Nat.beq 14 15 = false → (HX ra rb na nb W7.heap.size) (updR lq9 14 true) (.ag) uu w') → K9 _ w' := hK
            simp only [Act.put, List.setIfInBounds_toArray, List.set_cons_zero, List.set_cons_succ, e6, e13] at hK ⊢
            have HK := Lib.hid hK
            have HG := Lib.hid hG
            clear hK hd e6 e13
            clear hG
            go_simp
            exact HK.out _ _ HG.out (fun _ _ _ _ h => (h.upd (i := 14) (by decide) (by decide) (by decide) (by decide))) (fun _ h9 => h9) (fun _ _ _ h9 => h9) (fun h => absurd h (by decide)) (fun _ => ⟨⟨by rw [updR_ne _ _ (by decide)]; exact p6, by rw [updR_ne _ _ (by decide)]; exact q6, by rw [updR_ne _ _ (by decide)]; exact p13, by rw [updR_ne _ _ (by decide)]; exact q13⟩, A6, d6, A13, d13, rfl, r6, r13⟩)
          · intro lq9 vs wx hli hrs hG hd
            refine ⟨fun _ h => absurd h (by decide), fun _ K9 hK => ?_⟩
            replace hK : ∀ (uu : Value) (w' : World), ((fun wx => Below W7.heap.size W7 wx)) w' → (∀ j u, Nat.beq j 15 = false → Nat.beq j 15 = false → (HX ra rb na nb W7.heap.size) lq9 (([.e1, .v (.pointer (some ⟨g4, 0, none⟩)), .v (.slice Aa ra.length ca), .r1, .v (.pointer (some ⟨g5, 0, none⟩)), .v (.slice Ab rb.length cb), .r2, .p0, .v (.pointer (some ⟨g4, 1, none⟩)), .v (.slice Ba na.length da), .p1, .v (.pointer (some ⟨g5, 1, none⟩)), .v (.slice Bb nb.length db), .p2, .ag, .v undef, .v undef] : List _).getD j (.v undef)) u wx → (HX ra rb na nb W7.heap.size) (updR lq9 15 true) (([.e1, .v (.pointer (some ⟨g4, 0, none⟩)), .v (.slice Aa ra.length ca), .r1, .v (.pointer (some ⟨g5, 0, none⟩)), .v (.slice Ab rb.length cb), .r2, .p0, .v (.pointer (some ⟨g4, 1, none⟩)), .v (.slice Ba na.length da), .p1, .v (.pointer (some ⟨g5, 1, none⟩)), .v (.slice Bb nb.length db), .p2, .ag, .v undef, .v undef] : List _).getD j (.v undef)) u w') → (∀ g, ((Zx W7.heap.size)) g wx → ((Zx W7.heap.size)) g w') → (lq9 16 = true → ∀ u g, ((Bj ra rb na nb W7.heap.size)) u g wx → ((Bj ra rb na nb W7.heap.size)) u g w') → (Nat.beq 15 15 = true → ∃ g, uu = .pointer (some ⟨g, 0, none⟩) ∧ ((Zx W7.heap.size)) g w') → (Nat.beq 15 15 = false → (HX ra rb na nb W7.heap.size) (updR lq9 15 true) (.v undef) uu w') → K9 _ w' := hK
            simp only [Act.put, List.setIfInBounds_toArray, List.set_cons_zero, List.set_cons_succ] at hK ⊢
            have HK := Lib.hid hK
            have HG := Lib.hid hG
            clear hK hd
            have hb : Below wx.heap.size wx (wx.alloc (.cells #[.slice none 0 0, .slice none 0 0] 30)) := (Below.refl _ _).alloc (Nat.le_refl _) _
            have hzz := (show Zx W7.heap.size wx.heap.size (wx.alloc (.cells #[.slice none 0 0, .slice none 0 0] 30)) from ⟨HG.out.size, ⟨heap_alloc_new wx _⟩⟩)
            have hgg := HG.out.alloc HG.out.size (.cells #[.slice none 0 0, .slice none 0 0] 30)
            clear hG
            go_simp
            exact HK.out _ _ hgg (fun _ _ _ _ h => (h.mono hb).upd (i := 15) (by decide) (by decide) (by decide) (by decide)) (fun _ h => Zx.mono h hb) (fun _ _ _ h => Bj.mono h hb) (fun _ => ⟨_, rfl, hzz⟩) (fun h => absurd h (by decide))
          · intro lq9 vs wx hli hrs hG hd
            refine ⟨fun g _ ea hz K9 hK => ?_, fun h => absurd h (by decide)⟩
            obtain ⟨hfl, A14, d14, B14, q14, e14, r14, p14⟩ : (lq9 3 = true ∧ lq9 6 = true ∧ lq9 10 = true ∧ lq9 13 = true) ∧ ∃ (A' : Option Addr) (c' : Nat) (B' : Option Addr) (d' : Nat), vs 14 = .agg #[.slice A' (ra.length + rb.length) c', .slice B' (na.length + nb.length) d'] ∧ So encRz 2 wx W7.heap.size 57 (.slice A' (ra.length + rb.length) c') (ra ++ rb) ∧ So encPz 8 wx W7.heap.size 52 (.slice B' (na.length + nb.length) d') (na ++ nb) := hd.get (j := 14) (by simp [depsOf, Region.binds]) (by decide)
            replace hK : ∀ (w' : World), ((fun wx => Below W7.heap.size W7 wx)) w' → ((Bj ra rb na nb W7.heap.size)) (vs 14) g w' → (∀ j u, Nat.beq j 16 = false → Nat.beq j 15 = false → (HX ra rb na nb W7.heap.size) lq9 (([.e1, .v (.pointer (some ⟨g4, 0, none⟩)), .v (.slice Aa ra.length ca), .r1, .v (.pointer (some ⟨g5, 0, none⟩)), .v (.slice Ab rb.length cb), .r2, .p0, .v (.pointer (some ⟨g4, 1, none⟩)), .v (.slice Ba na.length da), .p1, .v (.pointer (some ⟨g5, 1, none⟩)), .v (.slice Bb nb.length db), .p2, .ag, .v undef, .v undef] : List _).getD j (.v undef)) u wx → (HX ra rb na nb W7.heap.size) (updR lq9 16 true) (([.e1, .v (.pointer (some ⟨g4, 0, none⟩)), .v (.slice Aa ra.length ca), .r1, .v (.pointer (some ⟨g5, 0, none⟩)), .v (.slice Ab rb.length cb), .r2, .p0, .v (.pointer (some ⟨g4, 1, none⟩)), .v (.slice Ba na.length da), .p1, .v (.pointer (some ⟨g5, 1, none⟩)), .v (.slice Bb nb.length db), .p2, .ag, .v undef, .v undef] : List _).getD j (.v undef)) u w') → K9 _ w' := hK
            simp only [Act.put, e14, ea] at hK ⊢
            have HK := Lib.hid hK
            have HG := Lib.hid hG
            clear hK hd e14
            have hzr := hz.2
            have q0 : wx.cell? ⟨g, 0, none⟩ = some (.slice none 0 0) := hzr.cell rfl
            have q1 : wx.cell? ⟨g, 1, none⟩ = some (.slice none 0 0) := hzr.cell rfl
            have qf := hzr.fr
            have ql := hzr.lt
            have HZR := Lib.hid hz
            have HGG : Hid (Below W7.heap.size W7 ((wx.setCell ⟨g, 0, none⟩ (.slice A14 (ra.length + rb.length) d14)).setCell ⟨g, 1, none⟩ (.slice B14 (na.length + nb.length) q14))) := Lib.hid ((HG.out.setCell (p := ⟨g, 0, none⟩) hz.1 _).setCell (p := ⟨g, 1, none⟩) hz.1 _)
            clear hG hzr hz
            go_simp
            exact HK.out _ HGG.out ⟨A14, d14, B14, q14, rfl, HZR.out.1, (HZR.out.2.set 0 _).set 1 _, r14.set2 HZR.out.2 (by decide), p14.set2 HZR.out.2 (by decide)⟩ (fun _ _ _ _ h => ((h.set HZR.out.2 0 _).set (HZR.out.2.set 0 _) 1 _).upd (i := 16) (by decide) (by decide) (by decide) (by decide))
        case hend =>
          intro vs8 W8 g8 hG8 eg8 hb8 hv8 hs8
          obtain ⟨A8, c8, B8, d8, ev8, hg8, hr8, so8, sp8⟩ := hb8
          have HC8 := Lib.hid (HC7.out.below hG8)
          obtain ⟨A7, B7, c7, d7, r7, n7, hg7, hr7, ha7⟩ := HO7.out.below hG8
          have HR7 := Lib.hid hr7
          have HR8 := Lib.hid hr8
          have haa8 := HAA.out.below hG8
          have hab8 := HAB.out.below hG8
          obtain ⟨RR, hRR⟩ : ∃ RR, RR = (runQ q LP).2.1 := ⟨_, rfl⟩
          obtain ⟨NN, hNN⟩ : ∃ NN, NN = (runQ q LP).2.2 := ⟨_, rfl⟩
          have k1 : (ra ++ rb).map Prod.fst = RR := by rw [hRR, HAR.out, List.map_append, haa8.r, hab8.r]
          have k2 : (na ++ nb).map Prod.fst = NN := by rw [hNN, HAN.out, List.map_append, haa8.n, hab8.n]
          have k3 : r7.map Prod.fst = RR := by rw [hRR]; exact ha7.r
          have k4 : n7.map Prod.fst = NN := by rw [hNN]; exact ha7.n
          have HTA : Hid (∀ wx, Below W8.heap.size W8 wx → Calls Tryz.prog 12 #[.agg #[.slice A7 r7.length c7, .slice B7 n7.length d7]] wx (AnsP wx RR NN)) := Lib.hid fun wx h => by
            have hbd := ha7.bd HOL.out.1 HOL.out.2
            have := answ_any W8.heap.size A7 B7 c7 d7 r7 n7 wx ((ha7.rg.rs.1).below h) ((ha7.pw.ps.1).below h) h.size (by omega) hbd.2.2.2 hbd.1 hbd.2.1
            rwa [k3, k4] at this
          have HTB : Hid (∀ wx, Below W8.heap.size W8 wx → Calls Tryz.prog 12 #[.agg #[.slice A8 (ra.length + rb.length) c8, .slice B8 (na.length + nb.length) d8]] wx (AnsP wx RR NN)) := Lib.hid fun wx h => by
            have hba := haa8.bd HOA.out.1 HOA.out.2
            have hbb := hab8.bd HOB.out.1 HOB.out.2
            have hrs : Rs9 W8 W8.heap.size A8 c8 (ra ++ rb) := ⟨(So.sr encRz_len so8).1, fun r hr => by
              rcases List.mem_append.1 hr with h9 | h9
              · exact haa8.rg.rs.1.st r h9
              · exact hab8.rg.rs.1.st r h9, fun r hr => by
              rcases List.mem_append.1 hr with h9 | h9
              · exact haa8.rg.rs.1.ce r h9
              · exact hab8.rg.rs.1.ce r h9⟩
            have hps : Ps W8 W8.heap.size B8 d8 (na ++ nb) := ⟨(So.sr encPz_len sp8).1, fun r hr => by
              rcases List.mem_append.1 hr with h9 | h9
              · exact haa8.pw.ps.1.st r h9
              · exact hab8.pw.ps.1.st r h9⟩
            have := answ_any W8.heap.size A8 B8 c8 d8 (ra ++ rb) (na ++ nb) wx (hrs.below h) (hps.below h) h.size (by rw [List.length_append]; omega) (by have := HNL.out; rw [List.length_append]; omega) (fun r hr => by
              rcases List.mem_append.1 hr with h9 | h9
              · exact hba.1 r h9
              · exact hbb.1 r h9) (fun r hr => by
              rcases List.mem_append.1 hr with h9 | h9
              · exact hba.2.1 r h9
              · exact hbb.2.1 r h9)
            rw [k1, k2, List.length_append, List.length_append] at this
            exact this
          simp only [eg8]
          clear hG8 eg8 hv8 hs8 ev8 hr7 hr8 so8 sp8 ha7 haa8 hab8 hRR hNN k1 k2 k3 k4 hg7 hg8
          go_upto_region 9 with fail
          apply region_V (HY RR NN W8.heap.size) (fun wx => Below W8.heap.size W8 wx) [.v (.bool true), .v (.bool true), .v (.int .i64 0), .v (.bool true), .v (.bool true), .v (.bool true), .v (.agg #[.slice A7 r7.length c7, .slice B7 n7.length d7]), .td, .v (.agg #[.slice A8 (ra.length + rb.length) c8, .slice B8 (na.length + nb.length) d8]), .td, .v (.bool true), .v (.bool true), .v (.bool true)] (.v undef)
          case mono => exact fun p v w0 w1 h hb => HY.mono h hb
          case hm => kernel_rfl
          case hf => kernel_rfl
          case hQ => exact (by intro c x y w e h; exact And.intro (e.symm.trans (And.left h)) (And.right h))
          case hF => intro vs; simp only [putAll, Act.put, List.setIfInBounds_toArray, List.set_cons_zero, List.set_cons_succ, Nat.reduceAdd]; rfl
          case h0 => exact ⟨rfl, rfl, rfl, Nat.le_refl _, fun _ _ => rfl⟩
          case hstep =>
            repeat' (first | exact AllOps.nil | apply AllOps.cons)
            · intro vs wx hG hd K hK
              replace hK : ∀ (uu : Value) (w' : World), Below wx.heap.size wx w' → ((fun wx => Below W8.heap.size W8 wx)) w' → (HY RR NN W8.heap.size) (.v (.bool true)) uu w' → K _ w' := hK
              simp only [Act.put, List.setIfInBounds_toArray, List.set_cons_zero, List.set_cons_succ] at hK ⊢
              have HK := Lib.hid hK
              have HG := Lib.hid hG
              clear hK hd
              have hbw := HG.out
              clear hG
              go_simp
              go_at_call 9
              refine (HAW.out wx (HC8.out.bl.trans (hbw.mono HC8.out.bl.size))).mono ?_
              rintro en w9 ⟨rfl, hb⟩
              exact HK.out _ _ hb (hbw.trans (hb.mono hbw.size)) rfl
            · intro vs wx hG hd K hK
              have e0 : vs 0 = .bool true := hd.get (j := 0) (by simp [depsOf, Region.binds])
              replace hK : ∀ (uu : Value) (w' : World), Below wx.heap.size wx w' → ((fun wx => Below W8.heap.size W8 wx)) w' → (HY RR NN W8.heap.size) (.v (.bool true)) uu w' → K _ w' := hK
              simp only [Act.put, List.setIfInBounds_toArray, List.set_cons_zero, List.set_cons_succ, e0] at hK ⊢
              have HK := Lib.hid hK
              have HG := Lib.hid hG
              clear hK hd e0
              clear hG
              go_simp
              exact HK.out _ _ (Below.refl _ _) HG.out rfl
            · intro vs wx hG hd K hK
              have e1 : vs 1 = .bool true := hd.get (j := 1) (by simp [depsOf, Region.binds])
              replace hK : ∀ (uu : Value) (w' : World), Below wx.heap.size wx w' → ((fun wx => Below W8.heap.size W8 wx)) w' → (HY RR NN W8.heap.size) (.v (.int .i64 0)) uu w' → K _ w' := hK
              simp only [Act.put, List.setIfInBounds_toArray, List.set_cons_zero, List.set_cons_succ, e1] at hK ⊢
              have HK := Lib.hid hK
              have HG := Lib.hid hG
              clear hK hd e1
              clear hG
              go_simp
              exact HK.out _ _ (Below.refl _ _) HG.out rfl
            · intro vs wx hG hd K hK
              have e1 : vs 1 = .bool true := hd.get (j := 1) (by simp [depsOf, Region.binds])
              have e2 : vs 2 = .int .i64 0 := hd.get (j := 2) (by simp [depsOf, Region.binds])
              replace hK : ∀ (uu : Value) (w' : World), Below wx.heap.size wx w' → ((fun wx => Below W8.heap.size W8 wx)) w' → (HY RR NN W8.heap.size) (.v (.bool true)) uu w' → K _ w' := hK
              simp only [Act.put, List.setIfInBounds_toArray, List.set_cons_zero, List.set_cons_succ, e1, e2] at hK ⊢
              have HK := Lib.hid hK
              have HG := Lib.hid hG
              clear hK hd e1 e2
              clear hG
              go_simp
              exact HK.out _ _ (Below.refl _ _) HG.out rfl
            · intro vs wx hG hd K hK
              have e1 : vs 1 = .bool true := hd.get (j := 1) (by simp [depsOf, Region.binds])
              have e3 : vs 3 = .bool true := hd.get (j := 3) (by simp [depsOf, Region.binds])
              replace hK : ∀ (uu : Value) (w' : World), Below wx.heap.size wx w' → ((fun wx => Below W8.heap.size W8 wx)) w' → (HY RR NN W8.heap.size) (.v (.bool true)) uu w' → K _ w' := hK
              simp only [Act.put, List.setIfInBounds_toArray, List.set_cons_zero, List.set_cons_succ, e1, e3] at hK ⊢
              have HK := Lib.hid hK
              have HG := Lib.hid hG
              clear hK hd e1 e3
              clear hG
              go_simp
              exact HK.out _ _ (Below.refl _ _) HG.out rfl
            · intro vs wx hG hd K hK
              have e4 : vs 4 = .bool true := hd.get (j := 4) (by simp [depsOf, Region.binds])
              replace hK : ∀ (uu : Value) (w' : World), Below wx.heap.size wx w' → ((fun wx => Below W8.heap.size W8 wx)) w' → (HY RR NN W8.heap.size) (.v (.bool true)) uu w' → K _ w' := hK
              simp only [Act.put, List.setIfInBounds_toArray, List.set_cons_zero, List.set_cons_succ, e4] at hK ⊢
              have HK := Lib.hid hK
              have HG := Lib.hid hG
              clear hK hd e4
              clear hG
              go_simp
              exact HK.out _ _ (Below.refl _ _) HG.out rfl
            · intro vs wx hG hd K hK
              have e5 : vs 5 = .bool true := hd.get (j := 5) (by simp [depsOf, Region.binds])
              replace hK : ∀ (uu : Value) (w' : World), Below wx.heap.size wx w' → ((fun wx => Below W8.heap.size W8 wx)) w' → (HY RR NN W8.heap.size) (.v (.agg #[.slice A7 r7.length c7, .slice B7 n7.length d7])) uu w' → K _ w' := hK
              simp only [Act.put, List.setIfInBounds_toArray, List.set_cons_zero, List.set_cons_succ, e5] at hK ⊢
              have HK := Lib.hid hK
              have HG := Lib.hid hG
              clear hK hd e5
              have hbw := HG.out
              have y0 : wx.cell? ⟨b7, 0, none⟩ = some (.slice A7 r7.length c7) := (HR7.out.below hbw).cell rfl
              have y1 : wx.cell? ⟨b7, 1, none⟩ = some (.slice B7 n7.length d7) := (HR7.out.below hbw).cell rfl
              have y2 : wx.cell? ⟨g8, 0, none⟩ = some (.slice A8 (ra.length + rb.length) c8) := (HR8.out.below hbw).cell rfl
              have y3 : wx.cell? ⟨g8, 1, none⟩ = some (.slice B8 (na.length + nb.length) d8) := (HR8.out.below hbw).cell rfl
              have yl7 := (HR7.out.below hbw).lt
              have yl8 := (HR8.out.below hbw).lt
              clear hG hbw
              go_simp
              exact HK.out _ _ (Below.refl _ _) HG.out rfl
            · intro vs wx hG hd K hK
              have e5 : vs 5 = .bool true := hd.get (j := 5) (by simp [depsOf, Region.binds])
              have e6 : vs 6 = .agg #[.slice A7 r7.length c7, .slice B7 n7.length d7] := hd.get (j := 6) (by simp [depsOf, Region.binds])
              replace hK : ∀ (uu : Value) (w' : World), Below wx.heap.size wx w' → ((fun wx => Below W8.heap.size W8 wx)) w' → (HY RR NN W8.heap.size) (.td) uu w' → K _ w' := hK
              simp only [Act.put, List.setIfInBounds_toArray, List.set_cons_zero, List.set_cons_succ, e5, e6] at hK ⊢
              have HK := Lib.hid hK
              have HG := Lib.hid hG
              clear hK hd e5 e6
              have hbw := HG.out
              clear hG
              go_simp
              go_at_call 12
              refine (HTA.out wx hbw).mono ?_
              rintro en w9 ⟨A9, B9, c9, d9, rs9, ns9, rfl, hr9, hn9, rh9, pw9, hb⟩
              exact HK.out _ _ hb (hbw.trans (hb.mono hbw.size)) ⟨A9, B9, c9, d9, rs9, ns9, rfl, hr9, hn9, rh9.more hbw.size, pw9.more hbw.size⟩
            · intro vs wx hG hd K hK
              have e5 : vs 5 = .bool true := hd.get (j := 5) (by simp [depsOf, Region.binds])
              replace hK : ∀ (uu : Value) (w' : World), Below wx.heap.size wx w' → ((fun wx => Below W8.heap.size W8 wx)) w' → (HY RR NN W8.heap.size) (.v (.agg #[.slice A8 (ra.length + rb.length) c8, .slice B8 (na.length + nb.length) d8])) uu w' → K _ w' := hK
              simp only [Act.put, List.setIfInBounds_toArray, List.set_cons_zero, List.set_cons_succ, e5] at hK ⊢
              have HK := Lib.hid hK
              have HG := Lib.hid hG
              clear hK hd e5
              have hbw := HG.out
              have y0 : wx.cell? ⟨b7, 0, none⟩ = some (.slice A7 r7.length c7) := (HR7.out.below hbw).cell rfl
              have y1 : wx.cell? ⟨b7, 1, none⟩ = some (.slice B7 n7.length d7) := (HR7.out.below hbw).cell rfl
              have y2 : wx.cell? ⟨g8, 0, none⟩ = some (.slice A8 (ra.length + rb.length) c8) := (HR8.out.below hbw).cell rfl
              have y3 : wx.cell? ⟨g8, 1, none⟩ = some (.slice B8 (na.length + nb.length) d8) := (HR8.out.below hbw).cell rfl
              have yl7 := (HR7.out.below hbw).lt
              have yl8 := (HR8.out.below hbw).lt
              clear hG hbw
              go_simp
              exact HK.out _ _ (Below.refl _ _) HG.out rfl
            · intro vs wx hG hd K hK
              have e5 : vs 5 = .bool true := hd.get (j := 5) (by simp [depsOf, Region.binds])
              have e8 : vs 8 = .agg #[.slice A8 (ra.length + rb.length) c8, .slice B8 (na.length + nb.length) d8] := hd.get (j := 8) (by simp [depsOf, Region.binds])
              replace hK : ∀ (uu : Value) (w' : World), Below wx.heap.size wx w' → ((fun wx => Below W8.heap.size W8 wx)) w' → (HY RR NN W8.heap.size) (.td) uu w' → K _ w' := hK
              simp only [Act.put, List.setIfInBounds_toArray, List.set_cons_zero, List.set_cons_succ, e5, e8] at hK ⊢
              have HK := Lib.hid hK
              have HG := Lib.hid hG
              clear hK hd e5 e8
              have hbw := HG.out
              clear hG
              go_simp
              go_at_call 12
              refine (HTB.out wx hbw).mono ?_
              rintro en w9 ⟨A9, B9, c9, d9, rs9, ns9, rfl, hr9, hn9, rh9, pw9, hb⟩
              exact HK.out _ _ hb (hbw.trans (hb.mono hbw.size)) ⟨A9, B9, c9, d9, rs9, ns9, rfl, hr9, hn9, rh9.more hbw.size, pw9.more hbw.size⟩
            · intro vs wx hG hd K hK
              have e5 : vs 5 = .bool true := hd.get (j := 5) (by simp [depsOf, Region.binds])
              obtain ⟨A7, B7, c7, d7, rr7, nn7, e7, f7, g7, h7, p7⟩ : ∃ (A1 A2 : Option Addr) (c1 c2 : Nat) (rs : List Rz) (ns : List Pz), vs 7 = .agg #[.slice A1 RR.length c1, .slice A2 NN.length c2] ∧ rs.map Prod.fst = RR ∧ ns.map Prod.fst = NN ∧ Rh wx W8.heap.size (.slice A1 RR.length c1) rs ∧ Pw wx W8.heap.size 65 93 (.slice A2 NN.length c2) ns := hd.get (j := 7) (by simp [depsOf, Region.binds])
              obtain ⟨A9, B9, c9, d9, rr9, nn9, e9, f9, g9, h9, p9⟩ : ∃ (A1 A2 : Option Addr) (c1 c2 : Nat) (rs : List Rz) (ns : List Pz), vs 9 = .agg #[.slice A1 RR.length c1, .slice A2 NN.length c2] ∧ rs.map Prod.fst = RR ∧ ns.map Prod.fst = NN ∧ Rh wx W8.heap.size (.slice A1 RR.length c1) rs ∧ Pw wx W8.heap.size 65 93 (.slice A2 NN.length c2) ns := hd.get (j := 9) (by simp [depsOf, Region.binds])
              replace hK : ∀ (uu : Value) (w' : World), Below wx.heap.size wx w' → ((fun wx => Below W8.heap.size W8 wx)) w' → (HY RR NN W8.heap.size) (.v (.bool true)) uu w' → K _ w' := hK
              simp only [Act.put, List.setIfInBounds_toArray, List.set_cons_zero, List.set_cons_succ, e5, e7, e9] at hK ⊢
              have HK := Lib.hid hK
              have HG := Lib.hid hG
              clear hK hd e5 e7 e9
              have hbw := HG.out
              clear hG
              go_simp
              go_at_call 11
              refine (sameA_any (w := wx) (Kp := wx.heap.size) (l := rr7) (m := rr9) (nl := nn7) (nm := nn9) (by rw [← f7, List.length_map]) (by rw [← g7, List.length_map]) (f9.trans f7.symm) (g9.trans g7.symm) h7.rs.1 h9.rs.1 p7.ps.1 p9.ps.1 (Nat.le_refl _)).mono ?_
              rintro en w9 ⟨rfl, hb⟩
              exact HK.out _ _ hb (hbw.trans (hb.mono hbw.size)) rfl
            · intro vs wx hG hd K hK
              have e5 : vs 5 = .bool true := hd.get (j := 5) (by simp [depsOf, Region.binds])
              have e10 : vs 10 = .bool true := hd.get (j := 10) (by simp [depsOf, Region.binds])
              replace hK : ∀ (uu : Value) (w' : World), Below wx.heap.size wx w' → ((fun wx => Below W8.heap.size W8 wx)) w' → (HY RR NN W8.heap.size) (.v (.bool true)) uu w' → K _ w' := hK
              simp only [Act.put, List.setIfInBounds_toArray, List.set_cons_zero, List.set_cons_succ, e5, e10] at hK ⊢
              have HK := Lib.hid hK
              have HG := Lib.hid hG
              clear hK hd e5 e10
              clear hG
              go_simp
              exact HK.out _ _ (Below.refl _ _) HG.out rfl
            · intro vs wx hG hd K hK
              have e11 : vs 11 = .bool true := hd.get (j := 11) (by simp [depsOf, Region.binds])
              replace hK : ∀ (uu : Value) (w' : World), Below wx.heap.size wx w' → ((fun wx => Below W8.heap.size W8 wx)) w' → (HY RR NN W8.heap.size) (.v (.bool true)) uu w' → K _ w' := hK
              simp only [Act.put, List.setIfInBounds_toArray, List.set_cons_zero, List.set_cons_succ, e11] at hK ⊢
              have HK := Lib.hid hK
              have HG := Lib.hid hG
              clear hK hd e11
              clear hG
              go_simp
              exact HK.out _ _ (Below.refl _ _) HG.out rfl
          case hend =>
            intro vs wx hG hv
            have e12 : vs 12 = .bool true := hv 12 (by decide)
            have HB := Lib.hid (HC8.out.bl.trans (hG.mono HC8.out.bl.size))
            clear hv hG
            simp only [e12]
            go_wp2_with fail
            go_ret
            exact ⟨rfl, HB.out⟩
end Go.Proofs.YtjhjcmjkmkllhaaGreatDoor
