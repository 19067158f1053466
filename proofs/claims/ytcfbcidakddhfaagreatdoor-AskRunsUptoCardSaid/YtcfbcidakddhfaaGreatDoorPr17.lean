/- The document's letters of a name. -/
import Derived.Test.YtcfbcidakddhfaaGreatDoorPr15
import Derived.Test.YtcfbcidakddhfaaGreatDoorPr14
import Derived.Test.YtcfbcidakddhfaaGreatDoorPr12
import Derived.Test.YtcfbcidakddhfaaGreatDoorPr7
import Derived.Test.YtcfbcidakddhfaaGreatDoorPr4
import Derived.Test.YtcfbcidakddhfaaGreatDoorPr5
namespace Go.Proofs.YtcfbcidakddhfaaGreatDoor
open Go.RowKit

theorem parseGo_count : ∀ (f : Nat) (t : List UInt8) (at_ : Nat) (acc : List Rp), (parseGo f t at_ acc).1.length ≤ acc.length + f
  | 0, _, _, _ => by simp [parseGo]
  | f + 1, t, at_, acc => by
    rw [parseGo]
    split
    · simp
    split
    · simp
    split
    · have := parseGo_count f (t.drop ((partR t).2 + 1)) (at_ + (partR t).2 + 1) (acc ++ [(partR t).1])
      simp at this ⊢
      omega
    · simp
theorem parseB_count (t : List UInt8) : (parseB t).1.length ≤ 17 := by
  unfold parseB
  split
  · simp
  split
  · have := parseGo_count 17 (t.drop 1) 1 []
    simpa using this
  · simp

theorem noAny_name {s : ByteArray} (h : nameB s = true) (r : List UInt8) : Lib.NoAny (s.data.toList ++ r) sgL s.data.toList.length := fun j b hj hb => by
  rw [List.getElem?_append_left hj] at hb
  exact nch_not (nameB_nch h j b hb)
theorem sign_shape {o : Int} (h : opB o = true) : ∃ b r, sgB o = b :: r ∧ sgL.contains b = true ∧ ∀ q, opR (sgB o ++ 34 :: q) = o := by
  have h4 : o = 1 ∨ o = 2 ∨ o = 3 ∨ o = 4 := by simp [opB] at h; omega
  rcases h4 with rfl | rfl | rfl | rfl
  · exact ⟨61, [], rfl, rfl, fun q => by simp [sgB, opR, Lib.hasPrefix, List.isPrefixOf]⟩
  · exact ⟨33, [61], rfl, rfl, fun q => by simp [sgB, opR, Lib.hasPrefix, List.isPrefixOf]⟩
  · exact ⟨94, [61], rfl, rfl, fun q => by simp [sgB, opR, Lib.hasPrefix, List.isPrefixOf]⟩
  · exact ⟨42, [61], rfl, rfl, fun q => by simp [sgB, opR, Lib.hasPrefix, List.isPrefixOf]⟩
theorem quoteB_head (v : ByteArray) : ∃ q, quoteB v = 34 :: q := ⟨_, rfl⟩
theorem unqL_back (v : ByteArray) (r : List UInt8) : unqL (quoteB v ++ r) = (v.data.toList, (quoteB v).length) := by
  have h := unq_back v ⟨r.toArray⟩
  unfold unqB at h
  have e : (⟨(quoteB v).toArray⟩ ++ ⟨r.toArray⟩ : ByteArray).data.toList = quoteB v ++ r := by simp
  rw [e] at h
  exact h
theorem partR_back {x : Rp} (h : ruleB x = true) (r : List UInt8) : partR (partRL x ++ r) = (x, (partRL x).length) := by
  have h0 := h
  unfold ruleB at h
  rw [Bool.and_eq_true, Bool.and_eq_true] at h
  obtain ⟨⟨hn, ho⟩, _⟩ := h
  obtain ⟨b, sr, hs, hb, hop⟩ := sign_shape ho
  obtain ⟨q, hq⟩ := quoteB_head x.2.2
  have e : partRL x ++ r = x.1.data.toList ++ (sgB x.2.1 ++ (quoteB x.2.2 ++ r)) := by simp [partRL]
  have hidx : Lib.indexAny (partRL x ++ r) sgL = (x.1.data.toList.length : Int) := by
    rw [e]
    refine Lib.indexAny_hit (noAny_name hn _) (x := b) ?_ hb
    rw [List.getElem?_append_right (Nat.le_refl _), Nat.sub_self, hs]
    rfl
  have hd : (partRL x ++ r).drop x.1.data.toList.length = sgB x.2.1 ++ (quoteB x.2.2 ++ r) := by rw [e, List.drop_left]
  have ht : (partRL x ++ r).take x.1.data.toList.length = x.1.data.toList := by rw [e, List.take_left]
  have hopr : opR (sgB x.2.1 ++ (quoteB x.2.2 ++ r)) = x.2.1 := by rw [hq]; exact hop (q ++ r)
  have hu : unqL ((sgB x.2.1 ++ (quoteB x.2.2 ++ r)).drop (sgB x.2.1).length) = (x.2.2.data.toList, (quoteB x.2.2).length) := by
    rw [List.drop_left, unqL_back]
  have hmk : mkR x.1.data.toList x.2.1 x.2.2.data.toList = x := by obtain ⟨n, o, v⟩ := x; cases n; cases v; rfl
  unfold partR
  rw [hidx, if_neg (by omega), Int.toNat_natCast]
  unfold ruleAt
  rw [hd, ht, hopr, hu, hmk, if_neg ?_]
  · simp [partRL]; omega
  · rintro (h1 | h1)
    · rw [hq] at h1; simp at h1
    · rw [h0] at h1; cases h1
theorem join_tail (x : List UInt8) (l : List (List UInt8)) : Lib.join (x :: l) [44] = x ++ Lib.joinTail [44] l := Lib.join_cons ..
theorem go_back2 (bh : List UInt8) : ∀ (l : List Rp) (x : Rp) (f at_ : Nat) (acc : List Rp), f + acc.length = 17 → acc.length + (l.length + 1) ≤ 16 → (∀ y ∈ x :: l, ruleB y = true) →
    parseGo f (partRL x ++ (Lib.joinTail [44] (l.map partRL) ++ 125 :: bh)) at_ acc = (acc ++ x :: l, at_ + (partRL x).length + (Lib.joinTail [44] (l.map partRL)).length + 1)
  | [], x, f, at_, acc, hf, hc, hr => by
    obtain ⟨f, rfl⟩ : ∃ g, f = g + 1 := ⟨f - 1, by simp at hc; omega⟩
    have hp := partR_back (hr x (by simp)) (Lib.joinTail [44] ([] : List (List UInt8)) ++ 125 :: bh)
    rw [parseGo, List.map_nil, hp]
    have hpos : 0 < (partRL x).length := by obtain ⟨q, hq⟩ := quoteB_head x.2.2; simp [partRL, hq]; omega
    have hneg : ¬ ((x, (partRL x).length).2 = 0 ∨ acc.length = 16) := by
      rintro (h | h)
      · have h9 : (partRL x).length = 0 := h
        omega
      · have h9 : acc.length = 16 := h
        omega
    rw [if_neg hneg]
    have e : (partRL x ++ (Lib.joinTail [44] ([] : List (List UInt8)) ++ 125 :: bh)).drop (partRL x).length = 125 :: bh := by rw [List.drop_left]; rfl
    show (if Lib.hasPrefix ((partRL x ++ (Lib.joinTail [44] ([] : List (List UInt8)) ++ 125 :: bh)).drop (partRL x).length) [125] = true then _ else _) = _
    rw [e, if_pos (by simp [Lib.hasPrefix, List.isPrefixOf])]
    simp [Lib.joinTail]
  | y :: l, x, f, at_, acc, hf, hc, hr => by
    obtain ⟨f, rfl⟩ : ∃ g, f = g + 1 := ⟨f - 1, by simp at hc; omega⟩
    have hp := partR_back (hr x (by simp)) (Lib.joinTail [44] ((y :: l).map partRL) ++ 125 :: bh)
    have hj : Lib.joinTail [44] ((y :: l).map partRL) = 44 :: (partRL y ++ Lib.joinTail [44] (l.map partRL)) := by simp [Lib.joinTail]
    rw [parseGo, hp]
    have hpos : 0 < (partRL x).length := by obtain ⟨q, hq⟩ := quoteB_head x.2.2; simp [partRL, hq]; omega
    have hneg : ¬ ((x, (partRL x).length).2 = 0 ∨ acc.length = 16) := by
      rintro (h | h)
      · have h9 : (partRL x).length = 0 := h
        omega
      · have h9 : acc.length = 16 := h
        omega
    rw [if_neg hneg]
    have e : (partRL x ++ (Lib.joinTail [44] ((y :: l).map partRL) ++ 125 :: bh)).drop (partRL x).length = 44 :: (partRL y ++ (Lib.joinTail [44] (l.map partRL) ++ 125 :: bh)) := by rw [List.drop_left, hj]; simp
    have e1 : (partRL x ++ (Lib.joinTail [44] ((y :: l).map partRL) ++ 125 :: bh)).drop ((partRL x).length + 1) = partRL y ++ (Lib.joinTail [44] (l.map partRL) ++ 125 :: bh) := by rw [← List.drop_drop, e]; rfl
    show (if Lib.hasPrefix ((partRL x ++ (Lib.joinTail [44] ((y :: l).map partRL) ++ 125 :: bh)).drop (partRL x).length) [125] = true then _ else if Lib.hasPrefix ((partRL x ++ (Lib.joinTail [44] ((y :: l).map partRL) ++ 125 :: bh)).drop (partRL x).length) [44] = true then parseGo f ((partRL x ++ (Lib.joinTail [44] ((y :: l).map partRL) ++ 125 :: bh)).drop ((partRL x).length + 1)) (at_ + (partRL x).length + 1) (acc ++ [x]) else _) = _
    rw [e, e1, if_neg (by simp [Lib.hasPrefix, List.isPrefixOf]), if_pos (by simp [Lib.hasPrefix, List.isPrefixOf])]
    rw [go_back2 bh l y f _ _ (by rw [List.length_append]; simp; omega) (by rw [List.length_append]; simp at hc ⊢; omega) (fun z hz => hr z (by simp at hz ⊢; exact .inr hz)), hj]
    simp
    omega
theorem parse_back {l : List Rp} (h : rulesL l = true) (bh : List UInt8) : parseB (textR l ++ bh) = (l, (textR l).length) := by
  unfold rulesL at h
  rw [Bool.and_eq_true, decide_eq_true_eq] at h
  obtain ⟨hl, hr⟩ := h
  rw [List.all_eq_true] at hr
  cases l with
  | nil =>
    have e : textR [] ++ bh = 123 :: 125 :: bh := by simp [textR, Lib.join]
    rw [e]
    unfold parseB
    rw [if_pos (by simp [Lib.hasPrefix, List.isPrefixOf])]
    simp [textR, Lib.join]
  | cons x l =>
    have e : textR (x :: l) ++ bh = 123 :: (partRL x ++ (Lib.joinTail [44] (l.map partRL) ++ 125 :: bh)) := by
      unfold textR
      rw [List.map_cons, join_tail]
      simp
    rw [e]
    have hx := hr x (by simp)
    have hne : Lib.hasPrefix (123 :: (partRL x ++ (Lib.joinTail [44] (l.map partRL) ++ 125 :: bh))) [123, 125] = false := by
      have hn : nameB x.1 = true := by
        unfold ruleB at hx
        rw [Bool.and_eq_true, Bool.and_eq_true] at hx
        exact hx.1.1
      have h1 : 1 ≤ x.1.size := by
        unfold nameB at hn
        rw [Bool.and_eq_true, Bool.and_eq_true, decide_eq_true_eq] at hn
        exact hn.1.1
      have hll : x.1.data.toList.length = x.1.size := by simp
      cases hd : x.1.data.toList with
      | nil => rw [hd] at hll; simp at hll; omega
      | cons c r =>
        have hc := nameB_nch hn 0 c (by rw [hd]; rfl)
        have hc2 : ((125 : UInt8) == c) = false := by
          rw [beq_eq_false_iff_ne]
          rintro rfl
          revert hc; decide
        simp [partRL, hd, Lib.hasPrefix, List.isPrefixOf, hc2]
    unfold parseB
    rw [if_neg (by rw [hne]; decide), if_pos (by simp [Lib.hasPrefix, List.isPrefixOf]), List.drop_succ_cons, List.drop_zero]
    rw [go_back2 bh l x 17 1 [] rfl (by simpa using hl) hr]
    unfold textR
    rw [List.map_cons, join_tail]
    simp
    omega
end Go.Proofs.YtcfbcidakddhfaaGreatDoor
namespace Go.Proofs.YtcfbcidakddhfaaGreatDoor
open Go.RowKit

/-- The table of signs in memory. -/
def Sg (w : World) : Prop := w.cell? ⟨2, 1, none⟩ = some (.string ⟨#[61]⟩) ∧ w.cell? ⟨2, 2, none⟩ = some (.string ⟨#[33, 61]⟩) ∧ w.cell? ⟨2, 3, none⟩ = some (.string ⟨#[94, 61]⟩) ∧ w.cell? ⟨2, 4, none⟩ = some (.string ⟨#[42, 61]⟩)
theorem Sg.below {w w' : World} (h : Sg w) (hb : Below w.heap.size w w') : Sg w' := ⟨kept hb h.1, kept hb h.2.1, kept hb h.2.2.1, kept hb h.2.2.2⟩
theorem signOf_any (o : Int) (w : World) (hg : Sg w) : Calls Tryz.prog 80 #[.int .i64 o] w fun e w' => e = .returned (.string ⟨(sgB o).toArray⟩) ∧ w = w' := by
  obtain ⟨g1, g2, g3, g4⟩ := hg
  by_cases ho : opB o = true
  · have h4 : o = 1 ∨ o = 2 ∨ o = 3 ∨ o = 4 := by simp [opB] at ho; omega
    rcases h4 with rfl | rfl | rfl | rfl
    all_goals
      clear ho
      go_enter Tryz.func80, Tryz.ntmps80
      go_wp2_with (go_at_call 67; refine (isOp_any _ _).mono ?_; rintro e w' ⟨rfl, rfl⟩)
      go_ret
      exact ⟨rfl, rfl⟩
  · have ho : opB o = false := by simpa using ho
    have HF : Hid (sgB o = []) := Lib.hid (by
      simp [opB] at ho
      unfold sgB
      rw [if_neg (by omega), if_neg (by omega), if_neg (by omega), if_neg (by omega)])
    go_enter Tryz.func80, Tryz.ntmps80
    go_wp2_with (go_at_call 67; refine (isOp_any _ _).mono ?_; rintro e w' ⟨rfl, rfl⟩)
    go_ret
    rw [HF.out]
    exact ⟨rfl, rfl⟩

def opFrom (r : List UInt8) (k : Nat) : Int :=
  if k ≤ 1 ∧ Lib.hasPrefix r [61] = true then 1 else if k ≤ 2 ∧ Lib.hasPrefix r [33, 61] = true then 2 else if k ≤ 3 ∧ Lib.hasPrefix r [94, 61] = true then 3 else if k ≤ 4 ∧ Lib.hasPrefix r [42, 61] = true then 4 else 0
theorem opFrom_one (r : List UInt8) : opR r = opFrom r 1 := by simp [opR, opFrom]
theorem opFrom_five (r : List UInt8) : opFrom r 5 = 0 := by simp [opFrom]
set_option maxHeartbeats 1600000 in
theorem opOf_any (t : ByteArray) (w : World) (hg : Sg w) : Calls Tryz.prog 79 #[.string t] w fun e w' => e = .returned (.int .i64 (opR t.data.toList)) ∧ w = w' := by
  obtain ⟨g1, g2, g3, g4⟩ := hg
  have HO := Lib.hid (opFrom_one t.data.toList)
  go_enter Tryz.func79, Tryz.ntmps79
  go_wp2
  go_loop [3] (fun i => ∃ k : Nat, 1 ≤ k ∧ k ≤ 5 ∧ i = .int .i64 k ∧ Hid (opR t.data.toList = opFrom t.data.toList k)) (fun i => 5 - (intOf i).toNat)
  case atStart => exact ⟨1, by decide, by decide, rfl, HO⟩
  case round =>
    obtain ⟨k, h1k, hk, rfl, HT⟩ := hrel
    have h5 : k = 1 ∨ k = 2 ∨ k = 3 ∨ k = 4 ∨ k = 5 := by omega
    clear h1k hk HO
    rcases h5 with rfl | rfl | rfl | rfl | rfl
    · have HP := Lib.hid (fun W => hasPrefix_any t ⟨#[61]⟩ W)
      have e : (⟨#[61]⟩ : ByteArray).data.toList = [61] := rfl
      rw [e] at HP
      clear e
      by_cases hb : Lib.hasPrefix t.data.toList [61] = true
      · have HF : Hid (opR t.data.toList = 1) := Lib.hid (by rw [HT.out]; simp [opFrom, hb])
        rw [hb] at HP
        clear hb
        go_wp2_with (go_at_call 57; refine (HP.out _).mono ?_; rintro e w' ⟨rfl, rfl⟩)
        go_ret
        exact ⟨ret_int HF.out.symm, rfl⟩
      · have hb : Lib.hasPrefix t.data.toList [61] = false := by simpa using hb
        have HN : Hid (opR t.data.toList = opFrom t.data.toList 2) := Lib.hid (by rw [HT.out]; simp [opFrom, hb])
        rw [hb] at HP
        clear hb
        go_wp2_with (go_at_call 57; refine (HP.out _).mono ?_; rintro e w' ⟨rfl, rfl⟩)
        go_round
        case rel => exact ⟨2, by decide, by decide, rfl, HN⟩
        case measure => decide
    · have HP := Lib.hid (fun W => hasPrefix_any t ⟨#[33, 61]⟩ W)
      have e : (⟨#[33, 61]⟩ : ByteArray).data.toList = [33, 61] := rfl
      rw [e] at HP
      clear e
      by_cases hb : Lib.hasPrefix t.data.toList [33, 61] = true
      · have HF : Hid (opR t.data.toList = 2) := Lib.hid (by rw [HT.out]; simp [opFrom, hb])
        rw [hb] at HP
        clear hb
        go_wp2_with (go_at_call 57; refine (HP.out _).mono ?_; rintro e w' ⟨rfl, rfl⟩)
        go_ret
        exact ⟨ret_int HF.out.symm, rfl⟩
      · have hb : Lib.hasPrefix t.data.toList [33, 61] = false := by simpa using hb
        have HN : Hid (opR t.data.toList = opFrom t.data.toList 3) := Lib.hid (by rw [HT.out]; simp [opFrom, hb])
        rw [hb] at HP
        clear hb
        go_wp2_with (go_at_call 57; refine (HP.out _).mono ?_; rintro e w' ⟨rfl, rfl⟩)
        go_round
        case rel => exact ⟨3, by decide, by decide, rfl, HN⟩
        case measure => decide
    · have HP := Lib.hid (fun W => hasPrefix_any t ⟨#[94, 61]⟩ W)
      have e : (⟨#[94, 61]⟩ : ByteArray).data.toList = [94, 61] := rfl
      rw [e] at HP
      clear e
      by_cases hb : Lib.hasPrefix t.data.toList [94, 61] = true
      · have HF : Hid (opR t.data.toList = 3) := Lib.hid (by rw [HT.out]; simp [opFrom, hb])
        rw [hb] at HP
        clear hb
        go_wp2_with (go_at_call 57; refine (HP.out _).mono ?_; rintro e w' ⟨rfl, rfl⟩)
        go_ret
        exact ⟨ret_int HF.out.symm, rfl⟩
      · have hb : Lib.hasPrefix t.data.toList [94, 61] = false := by simpa using hb
        have HN : Hid (opR t.data.toList = opFrom t.data.toList 4) := Lib.hid (by rw [HT.out]; simp [opFrom, hb])
        rw [hb] at HP
        clear hb
        go_wp2_with (go_at_call 57; refine (HP.out _).mono ?_; rintro e w' ⟨rfl, rfl⟩)
        go_round
        case rel => exact ⟨4, by decide, by decide, rfl, HN⟩
        case measure => decide
    · have HP := Lib.hid (fun W => hasPrefix_any t ⟨#[42, 61]⟩ W)
      have e : (⟨#[42, 61]⟩ : ByteArray).data.toList = [42, 61] := rfl
      rw [e] at HP
      clear e
      by_cases hb : Lib.hasPrefix t.data.toList [42, 61] = true
      · have HF : Hid (opR t.data.toList = 4) := Lib.hid (by rw [HT.out]; simp [opFrom, hb])
        rw [hb] at HP
        clear hb
        go_wp2_with (go_at_call 57; refine (HP.out _).mono ?_; rintro e w' ⟨rfl, rfl⟩)
        go_ret
        exact ⟨ret_int HF.out.symm, rfl⟩
      · have hb : Lib.hasPrefix t.data.toList [42, 61] = false := by simpa using hb
        have HN : Hid (opR t.data.toList = opFrom t.data.toList 5) := Lib.hid (by rw [HT.out]; simp [opFrom, hb])
        rw [hb] at HP
        clear hb
        go_wp2_with (go_at_call 57; refine (HP.out _).mono ?_; rintro e w' ⟨rfl, rfl⟩)
        go_round
        case rel => exact ⟨5, by decide, by decide, rfl, HN⟩
        case measure => decide
    · have HF : Hid (opR t.data.toList = 0) := Lib.hid (by rw [HT.out, opFrom_five])
      go_wp2_with fail
      go_ret
      exact ⟨ret_int HF.out.symm, rfl⟩
end Go.Proofs.YtcfbcidakddhfaaGreatDoor
namespace Go.Proofs.YtcfbcidakddhfaaGreatDoor
open Go.RowKit

def okB (op : Int) (n : Nat) : Bool := decide (1 ≤ op) && decide (op ≤ 5) && decide ((n : Int) ≤ 65536)
theorem bad_ok (op : Int) (l : List Smp) : badB op l = !okB op l.length := rfl
set_option maxHeartbeats 800000 in
theorem isRight_any (op : Int) (A : Option Addr) (n cap : Nat) (w : World) : Calls Tryz.prog 69 #[.int .i64 op, .slice A n cap] w fun e w' => e = .returned (.bool (okB op n)) ∧ w' = w := by
  cases h1 : decide (1 ≤ op) <;> cases h2 : decide (op ≤ 5) <;> cases h3 : decide ((n : Int) ≤ 65536)
  all_goals
    unfold okB
    rw [h1, h2, h3]
    go_enter Tryz.func69, Tryz.ntmps69
    go_wp2
    go_ret
    exact ⟨rfl, rfl⟩
def FoldP (w : World) (p : Int × Bool × Int) (e : Ending) (w' : World) : Prop := e = .returned (.tuple #[.int .i64 p.1, .bool p.2.1, .int .i64 p.2.2]) ∧ Below w.heap.size w w'
set_option maxRecDepth 100000 in
set_option maxHeartbeats 1600000 in
theorem fold_any (op : Int) (K : Nat) (A : Option Addr) (n cap : Nat) (l : List Smp) (w : World) (hln : l.length = n) (hp : Sr encSm 2 w K A cap l) (hK : K ≤ w.heap.size) (hok : ∀ x ∈ l, Sok x) :
    Calls Tryz.prog 73 #[.int .i64 op, .slice A n cap] w (FoldP w (foldB op l)) := by
  subst hln
  cases hb : okB op l.length with
  | false =>
    have e : foldB op l = (0, false, 1) := if_pos (by rw [bad_ok, hb]; rfl)
    rw [e]
    have HR := Lib.hid (fun W => hb ▸ isRight_any op A l.length cap W)
    clear e hb hp hok
    go_enter Tryz.func73, Tryz.ntmps73
    go_wp2_with (go_at_call 69; refine (HR.out _).mono ?_; rintro e w1 ⟨rfl, rfl⟩)
    go_ret3
    exact ⟨rfl, Below.refl _ _⟩
  | true =>
    have HR := Lib.hid (fun W => hb ▸ isRight_any op A l.length cap W)
    have hnb : ¬ badB op l = true := by rw [bad_ok, hb]; simp
    have hle : l.length ≤ 65536 := by
      unfold okB at hb
      simp at hb
      omega
    by_cases h0 : l = []
    · subst h0
      have e : foldB op [] = (0, (op == 2), 0) := by unfold foldB; rw [if_neg hnb, if_pos rfl]
      rw [e]
      clear e hb hp hok hnb
      go_enter Tryz.func73, Tryz.ntmps73
      go_wp2_with (go_at_call 69; refine (HR.out _).mono ?_; rintro e w1 ⟨rfl, rfl⟩)
      go_ret3
      exact ⟨rfl, Below.refl _ _⟩
    · have hpos : 0 < l.length := by cases l with | nil => exact absurd rfl h0 | cons x r => simp
      have e : foldB op l = ((toldB op l).1, ((toldB op l).2 == 0), (toldB op l).2) := by unfold foldB; rw [if_neg hnb, if_neg h0]
      rw [e]
      have HT := Lib.hid (fun W (h : W = w) => told_any op K A l.length cap l W rfl (h ▸ hp) (h ▸ hK) hpos hle hok)
      generalize toldB op l = p at *
      obtain ⟨p1, p2⟩ := p
      simp only
      have i0 : ((l.length : Int) == 0) = false := beq_eq_false_iff_ne.2 (by omega)
      have i1 : ¬ l.length = 0 := by omega
      clear e hb hp hok hnb h0
      go_enter Tryz.func73, Tryz.ntmps73
      go_wp2_with (first
        | (go_at_call 69; refine (HR.out _).mono ?_; rintro e w1 ⟨rfl, rfl⟩)
        | (go_at_call 89; refine (HT.out _ rfl).mono ?_; rintro e w2 ⟨rfl, hb2⟩))
      go_ret3
      exact ⟨rfl, hb2⟩
end Go.Proofs.YtcfbcidakddhfaaGreatDoor
namespace Go.Proofs.YtcfbcidakddhfaaGreatDoor
open Go.RowKit

theorem nameB_one (t : ByteArray) (j : Nat) (h : j < t.size) : nameB (t.extract j (j + 1)) = letN ((t[j]).toNat : Int) := by
  have hl : (t.extract j (j + 1)).data.toList = [t[j]] := by
    rw [Lib.extract_data, Nat.add_sub_cancel_left, List.drop_eq_getElem_cons (by simpa using h)]
    rfl
  have hs : (t.extract j (j + 1)).size = 1 := by simp; omega
  unfold nameB
  rw [hs]
  have : byteAt (t.extract j (j + 1)) 0 = ((t[j]).toNat : Int) := by unfold byteAt; rw [hl]; rfl
  simp [nameTo, nameC, this]
theorem letL_cons (c : UInt8) (r : List UInt8) : letL (c :: r) = if nchB c = true then letL r + 1 else 0 := by
  unfold letL
  rw [List.takeWhile_cons]
  split <;> rfl
theorem letL_at {t : ByteArray} {j : Nat} (h : j < t.size) : letL (t.data.toList.drop j) = if nchB t[j] = true then letL (t.data.toList.drop (j + 1)) + 1 else 0 := by
  rw [drop_byte t j h, letL_cons]

end Go.Proofs.YtcfbcidakddhfaaGreatDoor
