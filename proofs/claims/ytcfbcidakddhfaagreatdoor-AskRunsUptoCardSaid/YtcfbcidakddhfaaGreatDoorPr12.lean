/- The document's Same of rules, at one and the same list. -/
import Derived.Test.YtcfbcidakddhfaaGreatDoorPr11
import Derived.Deep.RegionLaw
import Derived.Test.YtcfbcidakddhfaaGreatDoorPr9
import Derived.Test.YtcfbcidakddhfaaGreatDoorPr5
import Derived.Test.YtcfbcidakddhfaaGreatDoorPr10
import Derived.Lib.IndexAny
import Derived.Test.YtcfbcidakddhfaaGreatDoorPr8
import Derived.Deep.QuietTactic
import Derived.BigQuiet
namespace Go.Proofs.YtcfbcidakddhfaaGreatDoor
open Go.RowKit

theorem cmp_lt (a b : Int) : decide (cmpN a b < 0) = ltI a b := by
  unfold cmpN ltI
  (repeat' split) <;> simp <;> omega
theorem cmp_gt (a b : Int) : decide (0 < cmpN a b) = gtI a b := by
  unfold cmpN gtI
  (repeat' split) <;> simp <;> omega
/-- The result's box and the box of the best one so far. -/
structure Bx2 (w wr : World) (m : Smp) : Prop where
  c0 : wr.cell? ⟨w.heap.size, 0, none⟩ = some (.int .i64 0)
  c1 : wr.cell? ⟨w.heap.size, 1, none⟩ = some (.int .i64 0)
  m0 : wr.cell? ⟨w.heap.size + 1, 0, none⟩ = some (.int .i64 m.1)
  m1 : wr.cell? ⟨w.heap.size + 1, 1, none⟩ = some (.int .i64 m.2)
  f0 : ∀ j, wr.frozen? ⟨w.heap.size, j, none⟩ = false
  f1 : ∀ j, wr.frozen? ⟨w.heap.size + 1, j, none⟩ = false
  bel : Below w.heap.size w wr
theorem Bx2.lt {w wr : World} {m : Smp} (h : Bx2 w wr m) : w.heap.size + 1 < wr.heap.size := World.block_lt_of_cell? wr _ h.m0
theorem Bx2.below {w wr w' : World} {m : Smp} (h : Bx2 w wr m) (hb : Below wr.heap.size wr w') : Bx2 w w' m :=
  ⟨kept hb h.c0, kept hb h.c1, kept hb h.m0, kept hb h.m1, fun j => (hb.frozen (p := ⟨w.heap.size, j, none⟩) (by have := h.lt; simp; omega)).trans (h.f0 j), fun j => (hb.frozen (p := ⟨w.heap.size + 1, j, none⟩) h.lt).trans (h.f1 j), h.bel.trans (hb.mono h.bel.size)⟩
theorem Bx2.start (w : World) (x0 x1 : Int) : Bx2 w ((w.alloc (.cells #[.int .i64 0, .int .i64 0] 130)).alloc (.cells #[.int .i64 x0, .int .i64 x1] 130)) (x0, x1) :=
  ⟨by simp [go_sem], by simp [go_sem], by simp [go_sem], by simp [go_sem], fun j => by simp [go_sem], fun j => by simp [go_sem], by go_grown⟩
theorem of_drew {w w1 : World} (h : Below w.drew.heap.size w.drew w1) : Below w.heap.size w w1 := ((Tn.drew (P := fun _ => False) w).below (Nat.le_refl _) (fun _ _ h => h.elim)).trans h
theorem Bx2.put {w wr : World} {m x : Smp} (h : Bx2 w wr m) : Bx2 w ((wr.setCell ⟨w.heap.size + 1, 0, none⟩ (.int .i64 x.1)).setCell ⟨w.heap.size + 1, 1, none⟩ (.int .i64 x.2)) x :=
  ⟨by simp [go_sem, h.c0], by simp [go_sem, h.c1], by simp [go_sem, h.m0], by simp [go_sem, h.m1], fun j => by simp [go_sem, h.f0], fun j => by simp [go_sem, h.f1], by have := h.bel; go_grown⟩
set_option maxRecDepth 100000 in
set_option maxHeartbeats 3200000 in
theorem min_any (K : Nat) (A : Option Addr) (n cap : Nat) (l : List Smp) (w : World) (hln : l.length = n) (hp : Sr encSm 2 w K A cap l) (hK : K ≤ w.heap.size) (h0 : 0 < l.length) :
    Calls Tryz.prog 108 #[.slice A n cap, .func (.func 109) #[] #[]] w fun e w' => e = .returned (agS (bestN ltI l)) ∧ Below w.heap.size w w' := by
  subst hln
  have hle := hp.le
  have hmax := hp.max
  unfold maxLen at hmax
  obtain ⟨ad, rfl, hadK, c0, c1⟩ := s_cells hp h0
  rw [Nat.zero_mul, el_add_zero] at c0 c1
  have hadW : ad.block < w.heap.size := by omega
  have HP := Lib.hid hp
  have H1 : Hid (bestN ltI (l.take 1) = l[0]) := Lib.hid (by cases l with | nil => simp at h0 | cons x r => rfl)
  clear hp
  generalize hx0 : l[0] = x at *
  obtain ⟨x0, x1⟩ := x
  clear hx0
  simp only at c0 c1
  have i0 : ¬ (l.length : Int) < 1 := by omega
  go_enter Tryz.func108, Tryz.ntmps108
  go_wp2
  go_loopw [6] (fun i wr => ∃ t : Nat, 0 < t ∧ t ≤ l.length ∧ i = .int .i64 (t : Int) ∧ Bx2 w wr (bestN ltI (l.take t))) (fun i _ => l.length - (intOf i).toNat)
  case atStart => exact ⟨1, by omega, by omega, rfl, by rw [H1.out]; exact Bx2.start w x0 x1⟩
  case round =>
    obtain ⟨t, ht0, ht, rfl, B⟩ := hrel
    have z := B.lt
    have hbl := B.bel
    by_cases hlt : t < l.length
    · obtain ⟨ad2, e2, _, h1, h2⟩ := s_cells (HP.out.below (hbl.mono hK)) hlt
      cases e2
      have HX := Lib.hid (bestN_next ltI ht0 hlt)
      have HBX := Lib.hid B
      have m0 := B.m0
      have m1 := B.m1
      have f0 := B.f1 0
      have f1 := B.f1 1
      generalize bestN ltI (l.take t) = m at *
      generalize l[t] = x at *
      obtain ⟨ma, mb⟩ := m
      obtain ⟨xa, xb⟩ := x
      simp only at h1 h2 m0 m1
      have i1 : (t : Int) < l.length := by omega
      clear B
      cases hc : ltI xb mb with
      | true =>
        have HN : Hid (bestN ltI (l.take (t + 1)) = (xa, xb)) := Lib.hid (by rw [HX.out, hc]; rfl)
        have hd : decide (cmpN xb mb < 0) = true := by rw [cmp_lt]; exact hc
        have HB := Lib.hid (fun W => byNum_any (xa, xb) (ma, mb) W)
        generalize cmpN xb mb = c at *
        clear hc
        go_wp2_with fail
        go_region_law (first
          | (go_simp; go_at_call 109; refine (HB.out _).mono ?_; rintro e w1 ⟨rfl, hb1⟩))
        all_goals
          have hB1 := of_drew hb1
          have HB1 := Lib.hid (HBX.out.below hB1)
          have z1 := HB1.out.lt
          have g1 := kept hB1 h1
          have g2 := kept hB1 h2
          have n0 := HB1.out.m0
          have n1 := HB1.out.m1
          have e0 := HB1.out.f1 0
          have e1 := HB1.out.f1 1
          have HP1 := Lib.hid (HB1.out.put (x := (xa, xb)))
          clear hB1 hb1 h1 h2 m0 m1 f0 f1
          go_wp2
          go_roundw
          case rel => exact ⟨t + 1, by omega, by omega, by go_num, by rw [HN.out]; exact HP1.out⟩
          case measure => simp [intOf]; omega
      | false =>
        have HN : Hid (bestN ltI (l.take (t + 1)) = (ma, mb)) := Lib.hid (by rw [HX.out, hc]; rfl)
        have hd : decide (cmpN xb mb < 0) = false := by rw [cmp_lt]; exact hc
        have HB := Lib.hid (fun W => byNum_any (xa, xb) (ma, mb) W)
        generalize cmpN xb mb = c at *
        clear hc
        go_wp2_with fail
        go_region_law (first
          | (go_simp; go_at_call 109; refine (HB.out _).mono ?_; rintro e w1 ⟨rfl, hb1⟩))
        all_goals
          have hB1 := of_drew hb1
          have HB1 := Lib.hid (HBX.out.below hB1)
          have z1 := HB1.out.lt
          clear hB1 hb1 h1 h2 m0 m1 f0 f1
          go_wp2
          go_roundw
          case rel => exact ⟨t + 1, by omega, by omega, by go_num, by rw [HN.out]; exact HB1.out⟩
          case measure => simp [intOf]; omega
    · have hte : t = l.length := by omega
      subst hte
      rw [List.take_length] at B
      obtain ⟨m, hm⟩ : ∃ m, m = bestN ltI l := ⟨_, rfl⟩
      rw [← hm] at B
      have HM := Lib.hid hm
      clear hm
      have m0 := B.m0
      have m1 := B.m1
      have c0 := B.c0
      have c1 := B.c1
      have f0 := B.f0 0
      have f1 := B.f0 1
      clear B
      go_wp2
      exact bodyPost_ret (v := agS m) (by simp [results, Tryz.results108, go_sem, c0, c1]) rfl ⟨by rw [HM.out], by go_grown⟩
set_option maxRecDepth 100000 in
set_option maxHeartbeats 3200000 in
theorem max_any (K : Nat) (A : Option Addr) (n cap : Nat) (l : List Smp) (w : World) (hln : l.length = n) (hp : Sr encSm 2 w K A cap l) (hK : K ≤ w.heap.size) (h0 : 0 < l.length) :
    Calls Tryz.prog 110 #[.slice A n cap, .func (.func 109) #[] #[]] w fun e w' => e = .returned (agS (bestN gtI l)) ∧ Below w.heap.size w w' := by
  subst hln
  have hle := hp.le
  have hmax := hp.max
  unfold maxLen at hmax
  obtain ⟨ad, rfl, hadK, c0, c1⟩ := s_cells hp h0
  rw [Nat.zero_mul, el_add_zero] at c0 c1
  have hadW : ad.block < w.heap.size := by omega
  have HP := Lib.hid hp
  have H1 : Hid (bestN gtI (l.take 1) = l[0]) := Lib.hid (by cases l with | nil => simp at h0 | cons x r => rfl)
  clear hp
  generalize hx0 : l[0] = x at *
  obtain ⟨x0, x1⟩ := x
  clear hx0
  simp only at c0 c1
  have i0 : ¬ (l.length : Int) < 1 := by omega
  go_enter Tryz.func110, Tryz.ntmps110
  go_wp2
  go_loopw [6] (fun i wr => ∃ t : Nat, 0 < t ∧ t ≤ l.length ∧ i = .int .i64 (t : Int) ∧ Bx2 w wr (bestN gtI (l.take t))) (fun i _ => l.length - (intOf i).toNat)
  case atStart => exact ⟨1, by omega, by omega, rfl, by rw [H1.out]; exact Bx2.start w x0 x1⟩
  case round =>
    obtain ⟨t, ht0, ht, rfl, B⟩ := hrel
    have z := B.lt
    have hbl := B.bel
    by_cases hlt : t < l.length
    · obtain ⟨ad2, e2, _, h1, h2⟩ := s_cells (HP.out.below (hbl.mono hK)) hlt
      cases e2
      have HX := Lib.hid (bestN_next gtI ht0 hlt)
      have HBX := Lib.hid B
      have m0 := B.m0
      have m1 := B.m1
      have f0 := B.f1 0
      have f1 := B.f1 1
      generalize bestN gtI (l.take t) = m at *
      generalize l[t] = x at *
      obtain ⟨ma, mb⟩ := m
      obtain ⟨xa, xb⟩ := x
      simp only at h1 h2 m0 m1
      have i1 : (t : Int) < l.length := by omega
      clear B
      cases hc : gtI xb mb with
      | true =>
        have HN : Hid (bestN gtI (l.take (t + 1)) = (xa, xb)) := Lib.hid (by rw [HX.out, hc]; rfl)
        have hd : decide (0 < cmpN xb mb) = true := by rw [cmp_gt]; exact hc
        have HB := Lib.hid (fun W => byNum_any (xa, xb) (ma, mb) W)
        generalize cmpN xb mb = c at *
        clear hc
        go_wp2_with fail
        go_region_law (first
          | (go_simp; go_at_call 109; refine (HB.out _).mono ?_; rintro e w1 ⟨rfl, hb1⟩))
        all_goals
          have hB1 := of_drew hb1
          have HB1 := Lib.hid (HBX.out.below hB1)
          have z1 := HB1.out.lt
          have g1 := kept hB1 h1
          have g2 := kept hB1 h2
          have n0 := HB1.out.m0
          have n1 := HB1.out.m1
          have e0 := HB1.out.f1 0
          have e1 := HB1.out.f1 1
          have HP1 := Lib.hid (HB1.out.put (x := (xa, xb)))
          clear hB1 hb1 h1 h2 m0 m1 f0 f1
          go_wp2
          go_roundw
          case rel => exact ⟨t + 1, by omega, by omega, by go_num, by rw [HN.out]; exact HP1.out⟩
          case measure => simp [intOf]; omega
      | false =>
        have HN : Hid (bestN gtI (l.take (t + 1)) = (ma, mb)) := Lib.hid (by rw [HX.out, hc]; rfl)
        have hd : decide (0 < cmpN xb mb) = false := by rw [cmp_gt]; exact hc
        have HB := Lib.hid (fun W => byNum_any (xa, xb) (ma, mb) W)
        generalize cmpN xb mb = c at *
        clear hc
        go_wp2_with fail
        go_region_law (first
          | (go_simp; go_at_call 109; refine (HB.out _).mono ?_; rintro e w1 ⟨rfl, hb1⟩))
        all_goals
          have hB1 := of_drew hb1
          have HB1 := Lib.hid (HBX.out.below hB1)
          have z1 := HB1.out.lt
          clear hB1 hb1 h1 h2 m0 m1 f0 f1
          go_wp2
          go_roundw
          case rel => exact ⟨t + 1, by omega, by omega, by go_num, by rw [HN.out]; exact HB1.out⟩
          case measure => simp [intOf]; omega
    · have hte : t = l.length := by omega
      subst hte
      rw [List.take_length] at B
      obtain ⟨m, hm⟩ : ∃ m, m = bestN gtI l := ⟨_, rfl⟩
      rw [← hm] at B
      have HM := Lib.hid hm
      clear hm
      have m0 := B.m0
      have m1 := B.m1
      have c0 := B.c0
      have c1 := B.c1
      have f0 := B.f0 0
      have f1 := B.f0 1
      clear B
      go_wp2
      exact bodyPost_ret (v := agS m) (by simp [results, Tryz.results110, go_sem, c0, c1]) rfl ⟨by rw [HM.out], by go_grown⟩
end Go.Proofs.YtcfbcidakddhfaaGreatDoor
namespace Go.Proofs.YtcfbcidakddhfaaGreatDoor
open Go.RowKit

def sgL : List UInt8 := [61, 33, 94, 42]
def sgB (o : Int) : List UInt8 := if o = 1 then [61] else if o = 2 then [33, 61] else if o = 3 then [94, 61] else if o = 4 then [42, 61] else []
def opR (r : List UInt8) : Int := if Lib.hasPrefix r [61] = true then 1 else if Lib.hasPrefix r [33, 61] = true then 2 else if Lib.hasPrefix r [94, 61] = true then 3 else if Lib.hasPrefix r [42, 61] = true then 4 else 0
theorem opR_bd (r : List UInt8) : 0 ≤ opR r ∧ opR r ≤ 4 := by unfold opR; (repeat' split) <;> omega
theorem sgB_len (o : Int) : (sgB o).length ≤ 2 := by unfold sgB; (repeat' split) <;> decide
theorem hasPrefix_len {l p : List UInt8} (h : Lib.hasPrefix l p = true) : p.length ≤ l.length := (List.isPrefixOf_iff_prefix.1 h).length_le
theorem opR_len (r : List UInt8) : (sgB (opR r)).length ≤ r.length := by
  unfold opR
  split
  · have := hasPrefix_len ‹_›; simpa [sgB] using this
  split
  · have := hasPrefix_len ‹_›; simpa [sgB] using this
  split
  · have := hasPrefix_len ‹_›; simpa [sgB] using this
  split
  · have := hasPrefix_len ‹_›; simpa [sgB] using this
  · exact Nat.zero_le _
theorem unqL_le (l : List UInt8) : (unqL l).1.length ≤ l.length ∧ (unqL l).2 ≤ l.length := by
  have := unqB_len ⟨l.toArray⟩
  simpa [unqB, ByteArray.size] using this
def mkR (n : List UInt8) (o : Int) (v : List UInt8) : Rp := (⟨n.toArray⟩, o, ⟨v.toArray⟩)
/-- The rule with which a text begins at whose place k a sign begins, and how many bytes it has. -/
def ruleAt (t : List UInt8) (k : Nat) : Rp × Nat :=
  if (unqL ((t.drop k).drop (sgB (opR (t.drop k))).length)).2 = 0 ∨ ruleB (mkR (t.take k) (opR (t.drop k)) (unqL ((t.drop k).drop (sgB (opR (t.drop k))).length)).1) = false then (nilR, 0)
  else (mkR (t.take k) (opR (t.drop k)) (unqL ((t.drop k).drop (sgB (opR (t.drop k))).length)).1, k + (sgB (opR (t.drop k))).length + (unqL ((t.drop k).drop (sgB (opR (t.drop k))).length)).2)
def partR (t : List UInt8) : Rp × Nat := if Lib.indexAny t sgL < 0 then (nilR, 0) else ruleAt t (Lib.indexAny t sgL).toNat
theorem indexAny_lt (c : List UInt8) : ∀ l : List UInt8, Lib.indexAny l c < l.length
  | [] => by simp [Lib.indexAny]
  | b :: l => by
    have := indexAny_lt c l
    have h0 := Lib.indexAny_ge c l
    unfold Lib.indexAny
    rw [List.length_cons]
    split
    · omega
    · split <;> omega
theorem ruleAt_len {t : List UInt8} {k : Nat} (hk : k ≤ t.length) : (ruleAt t k).2 ≤ t.length ∧ (ruleAt t k).1.1.size ≤ t.length ∧ (ruleAt t k).1.2.2.size ≤ t.length := by
  have h1 := opR_len (t.drop k)
  have h2 := unqL_le ((t.drop k).drop (sgB (opR (t.drop k))).length)
  rw [List.length_drop, List.length_drop] at h2
  rw [List.length_drop] at h1
  unfold ruleAt
  split
  · exact ⟨Nat.zero_le _, Nat.zero_le _, Nat.zero_le _⟩
  · have e1 : (⟨(t.take k).toArray⟩ : ByteArray).size = (t.take k).length := by simp [ByteArray.size]
    have e2 : (⟨(unqL ((t.drop k).drop (sgB (opR (t.drop k))).length)).1.toArray⟩ : ByteArray).size = (unqL ((t.drop k).drop (sgB (opR (t.drop k))).length)).1.length := by simp [ByteArray.size]
    refine ⟨?_, ?_, ?_⟩
    · show k + _ + _ ≤ _
      omega
    · show ByteArray.size ⟨(t.take k).toArray⟩ ≤ _
      rw [e1, List.length_take]
      omega
    · show ByteArray.size ⟨(unqL ((t.drop k).drop (sgB (opR (t.drop k))).length)).1.toArray⟩ ≤ _
      rw [e2]
      omega
theorem partR_len (t : List UInt8) : (partR t).2 ≤ t.length ∧ (partR t).1.1.size ≤ t.length ∧ (partR t).1.2.2.size ≤ t.length := by
  unfold partR
  split
  · exact ⟨Nat.zero_le _, Nat.zero_le _, Nat.zero_le _⟩
  · have := indexAny_lt sgL t
    exact ruleAt_len (by omega)

def parseGo : Nat → List UInt8 → Nat → List Rp → List Rp × Nat
  | 0, _, _, _ => ([], 0)
  | f + 1, t, at_, acc => if (partR t).2 = 0 ∨ acc.length = 16 then ([], 0)
    else if Lib.hasPrefix (t.drop (partR t).2) [125] = true then (acc ++ [(partR t).1], at_ + (partR t).2 + 1)
    else if Lib.hasPrefix (t.drop (partR t).2) [44] = true then parseGo f (t.drop ((partR t).2 + 1)) (at_ + (partR t).2 + 1) (acc ++ [(partR t).1])
    else ([], 0)
def parseB (t : List UInt8) : List Rp × Nat :=
  if Lib.hasPrefix t [123, 125] = true then ([], 2) else if Lib.hasPrefix t [123] = true then parseGo 17 (t.drop 1) 1 [] else ([], 0)
def SmL (N : Nat) (l : List Rp) : Prop := ∀ x ∈ l, x.1.size ≤ N ∧ x.2.2.size ≤ N
theorem parseGo_sm (N : Nat) : ∀ (f : Nat) (t : List UInt8) (at_ : Nat) (acc : List Rp), t.length ≤ N → SmL N acc → SmL N (parseGo f t at_ acc).1
  | 0, _, _, _, _, _ => fun x hx => by simp [parseGo] at hx
  | f + 1, t, at_, acc, ht, ha => by
    have hp := partR_len t
    have hs : SmL N (acc ++ [(partR t).1]) := fun x hx => by
      rcases List.mem_append.1 hx with h | h
      · exact ha x h
      · simp at h; subst h; omega
    rw [parseGo]
    split
    · exact fun x hx => by simp at hx
    split
    · exact hs
    split
    · exact parseGo_sm N f _ _ _ (by rw [List.length_drop]; omega) hs
    · exact fun x hx => by simp at hx
theorem parseB_sm (t : List UInt8) : SmL t.length (parseB t).1 := by
  unfold parseB
  split
  · exact fun x hx => by simp at hx
  split
  · exact parseGo_sm _ _ _ _ _ (by rw [List.length_drop]; omega) (fun x hx => by simp at hx)
  · exact fun x hx => by simp at hx
theorem parse_awake : parseB [123, 97, 61, 34, 120, 34, 125, 46, 46] = ([(⟨#[97]⟩, 1, ⟨#[120]⟩)], 7) := by decide +kernel
theorem all_awake : allB [(⟨#[97]⟩, ⟨#[120]⟩)] [(⟨#[97]⟩, 1, ⟨#[120]⟩)] = true ∧ allB [] [(⟨#[97]⟩, 1, ⟨#[120]⟩)] = false := by decide +kernel
end Go.Proofs.YtcfbcidakddhfaaGreatDoor
namespace Go.Proofs.YtcfbcidakddhfaaGreatDoor
open Go.RowKit

theorem cB_zero (a b : List UInt8) : Lib.compareBytes a b = 0 ↔ a = b := by
  rw [compare_tri]
  by_cases h : a = b
  · simp [h]
  · by_cases h2 : a < b <;> simp [h, h2]
theorem cB_bd (a b : List UInt8) : -1 ≤ Lib.compareBytes a b ∧ Lib.compareBytes a b ≤ 1 := by
  rw [compare_tri]
  by_cases h : a = b
  · simp [h]
  · by_cases h2 : a < b <;> simp [h, h2]
theorem cB_anti (a b : List UInt8) : Lib.compareBytes b a = - Lib.compareBytes a b := by
  rw [compare_tri, compare_tri]
  by_cases h : a = b
  · simp [h]
  · have h' : ¬ b = a := fun e => h e.symm
    by_cases h2 : a < b
    · have h3 : ¬ b < a := fun e => List.lt_irrefl _ (List.lt_trans h2 e)
      simp [h, h', h2, h3]
    · have h3 : b < a := by
        rcases List.le_iff_lt_or_eq.1 (List.not_lt.1 h2) with e | e
        · exact e
        · exact absurd e.symm h
      simp [h, h', h2, h3]
theorem cB_trans {a b c : List UInt8} (h1 : Lib.compareBytes a b < 0) (h2 : Lib.compareBytes b c < 0) : Lib.compareBytes a c < 0 :=
  (compare_lt a c).2 (List.lt_trans ((compare_lt a b).1 h1) ((compare_lt b c).1 h2))
theorem cfA_bd (x y : Pp) : -1 ≤ cfA x y ∧ cfA x y ≤ 1 := by
  have h1 := cB_bd (key x) (key y)
  have h2 := cB_bd x.2.data.toList y.2.data.toList
  unfold cfA orI
  split <;> omega
theorem cfA_anti (x y : Pp) : cfA y x = - cfA x y := by
  unfold cfA orI
  rw [cB_anti (key x) (key y), cB_anti x.2.data.toList y.2.data.toList]
  by_cases h : Lib.compareBytes (key x) (key y) = 0
  · simp [h]
  · have : ¬ (- Lib.compareBytes (key x) (key y) = 0) := by omega
    simp [h]
theorem cfA_zero {x y : Pp} (h : cfA x y = 0) : key x = key y ∧ x.2.data.toList = y.2.data.toList := by
  unfold cfA orI at h
  split at h
  · rename_i h1
    exact ⟨(cB_zero _ _).1 h1, (cB_zero _ _).1 h⟩
  · rename_i h1
    exact absurd h h1
theorem cfA_left {x y : Pp} (z : Pp) (h : cfA x y = 0) : cfA x z = cfA y z := by
  obtain ⟨h1, h2⟩ := cfA_zero h
  unfold cfA
  rw [h1, h2]
theorem cfA_right {y z : Pp} (x : Pp) (h : cfA y z = 0) : cfA x y = cfA x z := by
  obtain ⟨h1, h2⟩ := cfA_zero h
  unfold cfA
  rw [h1, h2]
theorem cfA_trans {x y z : Pp} (h1 : cfA x y < 0) (h2 : cfA y z < 0) : cfA x z < 0 := by
  unfold cfA orI at *
  by_cases e1 : Lib.compareBytes (key x) (key y) = 0
  · rw [if_pos e1] at h1
    have k1 := (cB_zero _ _).1 e1
    rw [k1]
    by_cases e2 : Lib.compareBytes (key y) (key z) = 0
    · rw [if_pos e2] at h2 ⊢
      exact cB_trans h1 h2
    · rw [if_neg e2] at h2 ⊢
      exact h2
  · rw [if_neg e1] at h1
    by_cases e2 : Lib.compareBytes (key y) (key z) = 0
    · have k2 := (cB_zero _ _).1 e2
      rw [← k2, if_neg e1]
      exact h1
    · rw [if_neg e2] at h2
      have h3 := cB_trans h1 h2
      rw [if_neg (by omega)]
      exact h3
theorem cmpL_cons (x y : Pp) (a b : List Pp) : cmpL (x :: a) (y :: b) = if cfA x y = 0 then cmpL a b else cfA x y := by
  have := cmpL_stepC (a := x :: a) (b := y :: b) (k := 0) (by simp) (by simp)
  simpa using this
theorem cmpL_bd : ∀ a b : List Pp, -1 ≤ cmpL a b ∧ cmpL a b ≤ 1
  | [], [] => by simp [cmpL]
  | [], _ :: _ => by simp [cmpL]
  | _ :: _, [] => by simp [cmpL]
  | x :: a, y :: b => by
    have := cmpL_bd a b
    have := cfA_bd x y
    rw [cmpL_cons]
    split <;> omega
theorem cmpL_anti : ∀ a b : List Pp, cmpL b a = - cmpL a b
  | [], [] => by simp [cmpL]
  | [], _ :: _ => by simp [cmpL]
  | _ :: _, [] => by simp [cmpL]
  | x :: a, y :: b => by
    rw [cmpL_cons, cmpL_cons, cfA_anti x y, cmpL_anti a b]
    by_cases h : cfA x y = 0
    · simp [h]
    · have : ¬ (- cfA x y = 0) := by omega
      simp [h]
theorem cmpL_trans : ∀ a b c : List Pp, cmpL a b ≤ 0 → cmpL b c ≤ 0 → cmpL a c ≤ 0
  | [], _, [], _, _ => by simp [cmpL]
  | [], _, _ :: _, _, _ => by simp [cmpL]
  | _ :: _, [], _, h, _ => by simp [cmpL] at h
  | _ :: _, _ :: _, [], _, h => by simp [cmpL] at h
  | x :: a, y :: b, z :: c, h1, h2 => by
    rw [cmpL_cons] at h1 h2 ⊢
    by_cases e1 : cfA x y = 0
    · rw [if_pos e1] at h1
      rw [cfA_left z e1]
      by_cases e2 : cfA y z = 0
      · rw [if_pos e2] at h2 ⊢
        exact cmpL_trans a b c h1 h2
      · rw [if_neg e2] at h2 ⊢
        exact h2
    · rw [if_neg e1] at h1
      by_cases e2 : cfA y z = 0
      · rw [← cfA_right x e2, if_neg e1]
        exact h1
      · rw [if_neg e2] at h2
        have := cfA_trans (show cfA x y < 0 by omega) (show cfA y z < 0 by omega)
        rw [if_neg (by omega)]
        omega
theorem cmpL_zero : ∀ {a b : List Pp}, cmpL a b = 0 → a = b
  | [], [], _ => rfl
  | [], _ :: _, h => by simp [cmpL] at h
  | _ :: _, [], h => by simp [cmpL] at h
  | x :: a, y :: b, h => by
    rw [cmpL_cons] at h
    split at h
    · rename_i e
      obtain ⟨h1, h2⟩ := cfA_zero e
      rw [cmpL_zero h]
      obtain ⟨x1, x2⟩ := x
      obtain ⟨y1, y2⟩ := y
      have k1 : x1 = y1 := ByteArray.ext (Array.toList_inj.1 h1)
      have k2 : x2 = y2 := ByteArray.ext (Array.toList_inj.1 h2)
      rw [k1, k2]
    · exact absurd h ‹_›
end Go.Proofs.YtcfbcidakddhfaaGreatDoor
namespace Go.Proofs.YtcfbcidakddhfaaGreatDoor
open Go.RowKit

end Go.Proofs.YtcfbcidakddhfaaGreatDoor
namespace Go.Proofs.YtcfbcidakddhfaaGreatDoor
open Go.RowKit

end Go.Proofs.YtcfbcidakddhfaaGreatDoor
namespace Go.Proofs.YtcfbcidakddhfaaGreatDoor
open Go.RowKit

end Go.Proofs.YtcfbcidakddhfaaGreatDoor
