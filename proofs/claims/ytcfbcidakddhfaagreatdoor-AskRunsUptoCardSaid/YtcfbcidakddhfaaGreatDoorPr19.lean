/- The document's Parse of rules. -/
import Derived.Test.YtcfbcidakddhfaaGreatDoorPr16
import Derived.Lib.Split
import Derived.Lib.IndexBytes
import Derived.Lib.IndexMore
import Derived.Lib.ParseIntBCases
import Derived.Test.YtcfbcidakddhfaaGreatDoorCards
import Derived.Test.YtcfbcidakddhfaaGreatDoorTie
import Derived.Test.YtcfbcidakddhfaaGreatDoorPr17
import Derived.Test.YtcfbcidakddhfaaGreatDoorPr9
import Derived.WalkKit
import Derived.HandedShaped
import Derived.Shelf.Vars
import Derived.Deep.DeepHandedRow
import Derived.Lib.LaidTab
import Derived.Lib.SmallJoins
import Derived.Test.YtcfbcidakddhfaaGreatDoorPr2
import Derived.Deep.CutBlock
import Derived.Test.YtcfbcidakddhfaaGreatDoorPr15
import Derived.Test.YtcfbcidakddhfaaGreatDoorPr5
import Derived.Test.YtcfbcidakddhfaaGreatDoorPr4
import Derived.Test.YtcfbcidakddhfaaGreatDoorPr1
import Derived.RegionTactic
import Derived.Test.YtcfbcidakddhfaaGreatDoorPr12
import Derived.Test.YtcfbcidakddhfaaGreatDoorPr14
namespace Go.Proofs.YtcfbcidakddhfaaGreatDoor
open Go.RowKit

theorem dec_digit : ∀ (n : Nat), ∀ x ∈ dec n, 48 ≤ x.toNat ∧ x.toNat ≤ 57 := by
  intro n
  induction n using Nat.strongRecOn with
  | _ n ih =>
    intro x hx
    by_cases h : n < 10
    · rw [dec_small h, List.mem_singleton] at hx
      subst hx
      have := digit_toNat h
      omega
    · rw [dec_big h, List.mem_append, List.mem_singleton] at hx
      rcases hx with hx | hx
      · exact ih (n / 10) (by omega) x hx
      · subst hx
        have := digit_toNat (n := n % 10) (by omega)
        omega
theorem dec_nodot (n : Nat) : ∀ x ∈ dec n, x ≠ 46 := fun x hx e => by
  have := dec_digit n x hx
  subst e
  simp at this

theorem indexByte_at (c : UInt8) (r : List UInt8) : ∀ (x : List UInt8), (∀ y ∈ x, y ≠ c) → Lib.indexByte (x ++ c :: r) c = x.length
  | [], _ => by simp [Lib.indexByte]
  | y :: x, h => by
    have ih := indexByte_at c r x fun z hz => h z (List.mem_cons_of_mem _ hz)
    have hy : y ≠ c := h y List.mem_cons_self
    simp [Lib.indexByte, hy, ih]
    try omega
theorem indexByte_not (c : UInt8) : ∀ (x : List UInt8), (∀ y ∈ x, y ≠ c) → Lib.indexByte x c = -1
  | [], _ => by simp [Lib.indexByte]
  | y :: x, h => by
    have ih := indexByte_not c x fun z hz => h z (List.mem_cons_of_mem _ hz)
    have hy : y ≠ c := h y List.mem_cons_self
    simp [Lib.indexByte, hy, ih]
theorem splitK_at (k : Nat) (x r : List UInt8) (h : ∀ y ∈ x, y ≠ 46) : Lib.splitK [46] 0 (k + 1) (x ++ 46 :: r) = x :: Lib.splitK [46] 0 k r := by
  have e : Lib.index (x ++ 46 :: r) [46] = (x.length : Int) := by rw [Lib.index_one, indexByte_at 46 r x h]
  have hd : (x ++ 46 :: r).drop (x.length + 1) = r := by
    rw [show x ++ 46 :: r = (x ++ [46]) ++ r by simp, List.drop_append_of_le_length (by simp)]
    simp
  have e1 : Lib.splitK [46] 0 (k + 1) (x ++ 46 :: r) = if Lib.index (x ++ 46 :: r) [46] == -1 then [x ++ 46 :: r] else (x ++ 46 :: r).take ((Lib.index (x ++ 46 :: r) [46]).toNat + 0) :: Lib.splitK [46] 0 k ((x ++ 46 :: r).drop ((Lib.index (x ++ 46 :: r) [46]).toNat + 1)) := rfl
  rw [e1, e, if_neg (by simp), Int.toNat_natCast, hd]
  simp
theorem splitK_end (k : Nat) (x : List UInt8) (h : ∀ y ∈ x, y ≠ 46) : Lib.splitK [46] 0 k x = [x] := by
  cases k with
  | zero => rfl
  | succ k =>
    unfold Lib.splitK
    rw [Lib.index_one, indexByte_not 46 x h]
    rfl
theorem text_split (a b c : Nat) : Lib.splitK [46] 0 3 (dec a ++ 46 :: (dec b ++ 46 :: dec c)) = [dec a, dec b, dec c] := by
  rw [splitK_at 2 _ _ (dec_nodot a), splitK_at 1 _ _ (dec_nodot b), splitK_end 1 _ (dec_nodot c)]

theorem parseUintM_app (M : Nat) (hM : M ≤ 18446744073709551615) : ∀ (n : Nat), n ≤ M → ∀ r, Lib.parseUintM M 0 (dec n ++ r) = Lib.parseUintM M n r := by
  intro n
  induction n using Nat.strongRecOn with
  | _ n ih =>
    intro hn r
    by_cases h : n < 10
    · rw [dec_small h]
      have d := digit_toNat h
      simp only [List.singleton_append, Lib.parseUintM]
      rw [if_pos (by omega), if_neg (by omega), if_neg (by omega)]
      congr 1
      omega
    · rw [dec_big h, List.append_assoc, ih (n / 10) (by omega) (by omega)]
      have d := digit_toNat (n := n % 10) (by omega)
      simp only [List.singleton_append, Lib.parseUintM]
      rw [if_pos (by omega), if_neg (by omega), if_neg (by omega)]
      congr 1
      omega
theorem parse_dec (n : Nat) (hn : n ≤ 4611686018427387904) : Lib.parseIntB 64 (dec n) = .ok (n : Int) := by
  have hne : dec n ≠ [] := fun e => by have := dec_pos n; rw [e] at this; simp at this
  obtain ⟨x, r, e⟩ := List.exists_cons_of_ne_nil hne
  have hx := dec_digit n x (by rw [e]; exact List.mem_cons_self)
  have hu : Lib.parseUintB 64 (x :: r) = .ok n := by
    unfold Lib.parseUintB
    rw [if_neg (by simp), ← e]
    have := parseUintM_app (2 ^ 64 - 1) (by decide) n (by omega) []
    rw [List.append_nil] at this
    rw [this]
    rfl
  rw [e]
  unfold Lib.parseIntB
  simp only
  rw [if_neg (by omega), hu]
  simp only
  rw [if_neg (by omega), if_neg (by omega), if_neg (by omega)]
theorem dec_inj {m n : Nat} (hm : m ≤ 4611686018427387904) (hn : n ≤ 4611686018427387904) (h : dec m = dec n) : m = n := by
  have := parse_dec m hm
  rw [h, parse_dec n hn] at this
  injection this with this
  omega

/-- The text t is that of the right stamp with these parts. -/
def Reads (t : List UInt8) (a b c : Nat) : Prop := (a ≤ 4611686018427387904 ∧ b ≤ 4294967295 ∧ c ≤ 4294967295) ∧ t = dec a ++ 46 :: (dec b ++ 46 :: dec c)
theorem Reads.split {t : List UInt8} {a b c : Nat} (h : Reads t a b c) : Lib.splitK [46] 0 3 t = [dec a, dec b, dec c] := by rw [h.2, text_split]
theorem Reads.inj {t : List UInt8} {a b c a' b' c' : Nat} (h : Reads t a b c) (h' : Reads t a' b' c') : a = a' ∧ b = b' ∧ c = c' := by
  have e := h.split.symm.trans h'.split
  simp only [List.cons.injEq, and_true] at e
  obtain ⟨e1, e2, e3⟩ := e
  obtain ⟨⟨h1, h2, h3⟩, _⟩ := h
  obtain ⟨⟨h1', h2', h3'⟩, _⟩ := h'
  exact ⟨dec_inj h1 h1' e1, dec_inj (by omega) (by omega) e2, dec_inj (by omega) (by omega) e3⟩
theorem Reads.size {t : List UInt8} {a b c : Nat} (h : Reads t a b c) : 5 ≤ t.length := by
  rw [h.2]
  have := dec_pos a
  have := dec_pos b
  have := dec_pos c
  simp; omega
theorem textB_dec (a b c : Nat) : sttextB a b c = dec a ++ 46 :: (dec b ++ 46 :: dec c) := by
  unfold sttextB
  rw [itoa_pos (by omega), itoa_pos (by omega), itoa_pos (by omega)]
  rfl
end Go.Proofs.YtcfbcidakddhfaaGreatDoor
namespace Go.Proofs.YtcfbcidakddhfaaGreatDoor
open Go.ChangeShapes Go.WideShapes Go.ChangeAt Go.RowKit Go.Joins Go.Deep

def strData {H : Type} (zs : List (List UInt8)) : DataW H := .agg (zs.map fun z => .lit (.string z))
theorem cells_of_strs {H : Type} {enc : TypeId × Value → H} {P : Program} {w : World} {base : Nat} {sp : Nat → Bool} {held : Bool} {fuel : Nat} {t e : TypeId} {n : Nat} {cs : List Value} {zs : List (List UInt8)} {p : List MemPlace}
    (ht : P.underlying t = some (.array n e)) (he : P.underlying e = some .string) (hce : P.cellsOf e = 1) (hct : P.cellsOf t = n)
    (h : DataW.trod enc P w base sp held fuel t cs = some (strData zs, p)) : cs = zs.map fun z => Value.string ⟨z.toArray⟩ := by
  cases fuel with
  | zero => simp [DataW.trod] at h
  | succ fuel =>
    simp only [DataW.trod, ht, hce, hct, Nat.mul_one] at h
    split at h
    · rename_i hl
      obtain ⟨xs, hm, hx⟩ := Option.map_eq_some_iff.1 h
      have hxs : xs.map (·.1) = zs.map fun z => (DataW.lit (.string z) : DataW H) := by
        have := congrArg Prod.fst hx
        simpa [strData] using this
      have hxl : xs.length = n := by simpa using Lib.mapM_length hm
      have hzl : zs.length = n := by
        have := congrArg List.length hxs
        simp at this
        omega
      apply List.ext_getElem?
      intro i
      by_cases hi : i < n
      · obtain ⟨b, hb, hf⟩ := Lib.mapM_at hm i i (by simp [hi])
        obtain ⟨z, hc, rfl, _⟩ := DataW.trod_string he hf
        have h1 : cs[i]? = some (.string z) := by
          have := congrArg (·[0]?) hc
          simpa [List.getElem?_take, List.getElem?_drop] using this
        have h2 : (xs.map (·.1))[i]? = some (DataW.lit (.string z.data.toList) : DataW H) := by simp [hb]
        rw [hxs] at h2
        simp only [List.getElem?_map, Option.map_eq_some_iff, DataW.lit.injEq, Lit.string.injEq] at h2
        obtain ⟨z', hz', he'⟩ := h2
        subst he'
        simp [h1, hz']
      · rw [List.getElem?_eq_none (by omega), List.getElem?_eq_none (by simp; omega)]
    · cases h

theorem gSig : Tryz.prog.globalNamed "slackwater/match.signs" = some 2 := by kernel_rfl
theorem gSigType : (Tryz.prog.globals[2]?).map (·.type) = some 177 := by kernel_rfl
theorem cellsSig : Tryz.prog.cellsOf 177 = 5 := by kernel_rfl
theorem cellsStr : Tryz.prog.cellsOf 9 = 1 := by kernel_rfl
theorem sg_of {W : World} {rest : List (String × DataW Unit)} (h : laidMet Tryz.prog (("slackwater/match.signs", strData [[], [61], [33, 61], [94, 61], [42, 61]]) :: rest) W) : Sg W := by
  obtain ⟨ps, ⟨g', t', cs, fuel, p, q, hg', ht', hvar, hd, _, _⟩, _⟩ := h
  obtain rfl := Option.some.inj (gSig.symm.trans hg')
  obtain rfl := Option.some.inj (gSigType.symm.trans ht')
  have hc := cells_of_strs Tryz.underlying177 Tryz.underlying9 cellsStr cellsSig hd
  have hv := World.var?_cell gSig hvar
  have ha : ∀ (i : Nat) (u : Value), cs.toList[i]? = some u → W.cell? ⟨2, i, none⟩ = some u := fun i u hu => by
    have := hv i
    rw [this]
    simpa using hu
  rw [hc] at ha
  exact ⟨ha 1 _ rfl, ha 2 _ rfl, ha 3 _ rfl, ha 4 _ rfl⟩

/-- A world for the witness: the settled one, the table holding its signs. -/
noncomputable def laidWorld (os : Os) : World :=
  { World.holding Tryz.prog os ⟨#[], #[], []⟩ with heap := (World.holding Tryz.prog os ⟨#[], #[], []⟩).heap.modify 2 fun
      | .cells _ t frozen => .cells #[.string ⟨#[]⟩, .string ⟨#[61]⟩, .string ⟨#[33, 61]⟩, .string ⟨#[94, 61]⟩, .string ⟨#[42, 61]⟩] t frozen
      | o => o }

theorem mx_of {w : World} (h : w.ShapedOpen Tryz.prog) : Mx w :=
  cell_of_shapedOpen_int (P := Tryz.prog) (g := 1) (zero := #[.int .i64 0]) (t := 3) h (of_decide_eq_true (by kernel_rfl)) (by kernel_rfl) rfl (by kernel_rfl) (by kernel_rfl) Tryz.underlying3

theorem cells_rr : Tryz.prog.cellsOf 107 = 3 := by kernel_rfl
theorem one_rr : ∀ {fs : Array Field}, Tryz.prog.underlying 107 = some (.struct fs) → oneCellFields Tryz.prog fs = true := by
  intro fs h
  rw [Tryz.underlying107] at h
  injection h with h
  injection h with h
  subst h
  kernel_rfl

set_option maxRecDepth 100000 in
theorem open_rls {H : Type} {enc : TypeId × Value → H} {W : World} {base : Nat} {v : Value} {d : DataW H} {p : List MemPlace}
    (hv : Value.okWide Tryz.prog W .any base 22 v) (h : DataW.Trod enc Tryz.prog W 0 (fun _ => true) true 22 v d p) :
    ∃ A cap l, v = .slice A l.length cap ∧ Rr W W.heap.size A cap l ∧ l.length ≤ Rows.uptoBulk d ∧ ∀ x ∈ l, x.1.size ≤ Rows.uptoBulk d ∧ x.2.2.size ≤ Rows.uptoBulk d := by
  obtain ⟨a1, len, cap, rfl⟩ := okWide_slice Tryz.underlying22 hv
  obtain ⟨fuel, hf⟩ := h
  rcases open_slice Tryz.underlying22 hf with ⟨hcs, hx⟩ | ⟨a, len', cap', m, n, D, Pl, hcs, _, hl, hmx, hmm, hx, hi⟩
  · simp [Value.cells] at hcs
    obtain ⟨rfl, rfl, rfl⟩ := hcs
    exact ⟨none, 0, [], rfl, Sr.none_ _ _, by simp, fun x hx => by simp at hx⟩
  · simp [Value.cells] at hcs
    obtain ⟨rfl, rfl, rfl⟩ := hcs
    have hlm : len ≤ m := by rw [hmm]; split <;> omega
    have each : ∀ i, i < len → ∃ x : Rp, W.cell? (a.add (i * 3)) = some (.string x.1) ∧ W.cell? (a.add (i * 3 + 1)) = some (.int .i64 x.2.1) ∧ W.cell? (a.add (i * 3 + 2)) = some (.string x.2.2) ∧ D i = .agg [.lit (.string x.1.data.toList), .lit (.int .i64 x.2.1), .lit (.string x.2.2.data.toList)] := fun i hil => by
      obtain ⟨cs', hc, ht⟩ := hi i (by omega)
      rw [cells_rr] at hc
      obtain ⟨_, hcl, hat⟩ := World.cells?_some hc
      obtain ⟨ys, n', _, hy, _, hlen, hg⟩ := DataW.trod_struct Tryz.underlying107 ht
      match cs', hcl with
      | [u0, u1, u2], _ =>
        have hone := one_rr Tryz.underlying107
        have g0 := hg 0 _ rfl
        have g1 := hg 1 _ rfl
        have g2 := hg 2 _ rfl
        obtain ⟨o0, k0⟩ := hone_of hone 0 _ rfl
        obtain ⟨o1, k1⟩ := hone_of hone 1 _ rfl
        obtain ⟨o2, k2⟩ := hone_of hone 2 _ rfl
        rw [o0, k0] at g0
        rw [o1, k1] at g1
        rw [o2, k2] at g2
        simp only [List.drop_zero, List.take_succ_cons, List.take_zero, List.drop_succ_cons] at g0 g1 g2
        match ys, hlen with
        | [y0, y1, y2], _ =>
          obtain ⟨s0, e0, d0, _⟩ := DataW.trod_string Tryz.underlying9 g0
          obtain ⟨s1, e1, d1, _⟩ := DataW.trod_int Tryz.underlying3 g1
          obtain ⟨s2, e2, d2, _⟩ := DataW.trod_string Tryz.underlying9 g2
          simp at e0 e1 e2
          subst e0 e1 e2 d0 d1 d2
          have h0 := hat 0 (by omega)
          have h1 := hat 1 (by omega)
          have h2 := hat 2 (by omega)
          rw [Go.Deep.add_add] at h0 h1 h2
          rw [Nat.add_zero] at h0
          simp only [Prod.mk.injEq] at hy
          exact ⟨(s0, s1, s2), h0, h1, h2, by rw [hy.1]; rfl⟩
    obtain ⟨f, hf'⟩ := choose_lt each
    have hll : ((List.range len).map f).length = len := by simp
    simp only [Prod.mk.injEq] at hx
    have hbulk := len_le_bulk ((List.range len).map D)
    simp only [List.length_map, List.length_range] at hbulk
    refine ⟨some a, cap, (List.range len).map f, by rw [hll], ⟨by rw [hll]; exact hl, hmx, (fun h => by cases h), fun hn => ⟨a, rfl, ?_, fun i x hk => ?_⟩⟩, ?_, ?_⟩
    · rw [hll] at hn
      have := World.block_lt_of_cell? W _ (hf' 0 hn).1
      rwa [el_block_of_add] at this
    · simp only [List.getElem?_map, Option.map_eq_some_iff] at hk
      obtain ⟨j, hj, he⟩ := hk
      obtain ⟨hj1, hj2⟩ := List.getElem?_eq_some_iff.1 hj
      simp at hj1 hj2
      subst hj2
      have h2 := hf' i hj1
      rw [he] at h2
      intro q u hu
      match q, hu with
      | 0, hu =>
        simp [encR] at hu
        subst hu
        exact h2.1
      | 1, hu =>
        simp [encR] at hu
        subst hu
        exact h2.2.1
      | 2, hu =>
        simp [encR] at hu
        subst hu
        exact h2.2.2.1
    · rw [hll, hx.1]
      simp only [Rows.uptoBulk]
      omega
    · intro x hxm
      obtain ⟨i, hi1, rfl⟩ := List.mem_map.1 hxm
      rw [List.mem_range] at hi1
      have hD := (hf' i hi1).2.2.2
      have hmem : D i ∈ (List.range len).map D := List.mem_map.2 ⟨i, List.mem_range.2 hi1, rfl⟩
      have hb := bulk_mem _ _ hmem
      rw [hD] at hb
      simp only [Rows.uptoBulk, Rows.uptoBulkAll] at hb
      have l1 : (f i).1.data.toList.length = (f i).1.size := by simp
      have l2 : (f i).2.2.data.toList.length = (f i).2.2.size := by simp
      rw [hx.1]
      simp only [Rows.uptoBulk]
      omega
end Go.Proofs.YtcfbcidakddhfaaGreatDoor
namespace Go.Proofs.YtcfbcidakddhfaaGreatDoor
open Go.RowKit Go.BigFrame

theorem u64_of (t : Int) : ∃ U : Nat, IntKind.u64.wrap t = (U : Int) ∧ U < 18446744073709551616 := by
  refine ⟨(t % 18446744073709551616).toNat, ?_, by omega⟩
  simp [IntKind.wrap, IntKind.bits, IntKind.signed]
  omega
theorem elemSm : Tryz.prog.elem 100 = 130 := by unfold Program.elem; rw [Tryz.underlying100]
theorem undS : Tryz.prog.underlying 100 = some (.slice (Tryz.prog.elem 100)) := by rw [elemSm]; exact Tryz.underlying100
theorem szS : ∀ w, (sizeOf (Tryz.prog.elem 100)).run Tryz.prog w = .ok 2 w := fun _ => by kernel_rfl
/-- What Delta tells of a list that isn't empty, nor too long. -/
theorem delta_is {l : List Smp} (h0 : 0 < l.length) (h1 : l.length ≤ 65536) : foldB 5 l = ((rangeB (lastI l - firstI l)).1, ((rangeB (lastI l - firstI l)).2 == 0), (rangeB (lastI l - firstI l)).2) := by
  have hb : ¬ badB 5 l = true := by
    unfold badB
    simp
    omega
  have hn : ¬ l = [] := by rintro rfl; simp at h0
  unfold foldB
  rw [if_neg hb, if_neg hn]
  rfl
theorem range_cases (x : Int) : (rangeB x = (x, 0) ∧ -9223372036854775808 ≤ x ∧ x ≤ 9223372036854775807) ∨ rangeB x = (0, 20) := by
  unfold rangeB
  split
  · exact .inl ⟨rfl, by assumption⟩
  · exact .inr rfl
theorem first_take {l : List Smp} {k : Nat} : firstI (l.take (k + 1)) = firstI l := by cases l <;> simp [firstI]
theorem last_take {l : List Smp} {k : Nat} (h : k < l.length) : lastI (l.take (k + 1)) = (l.getD k (0, 0)).2 := by
  unfold lastI
  rw [List.length_take, show min (k + 1) l.length - 1 = k by omega, List.getD_eq_getElem?_getD, List.getD_eq_getElem?_getD, List.getElem?_take, if_pos (by omega)]
theorem first_drop {l : List Smp} {k : Nat} : firstI (l.drop k) = (l.getD k (0, 0)).2 := by
  unfold firstI
  rw [List.getD_eq_getElem?_getD, List.getD_eq_getElem?_getD, List.getElem?_drop, Nat.add_zero]
theorem last_drop {l : List Smp} {k : Nat} (h : k < l.length) : lastI (l.drop k) = lastI l := by
  unfold lastI
  rw [List.length_drop, List.getD_eq_getElem?_getD, List.getD_eq_getElem?_getD, List.getElem?_drop, show k + (l.length - k - 1) = l.length - 1 by omega]

end Go.Proofs.YtcfbcidakddhfaaGreatDoor
namespace Go.Proofs.YtcfbcidakddhfaaGreatDoor
open Go.RowKit

abbrev emptyS : ByteArray := ⟨#[]⟩
theorem str_add (a b : ByteArray) (h : a.size + b.size ≤ 9223372036854775807) : Op.stringOp .add a b = pure (.string (a ++ b)) := by
  have : ¬ ((a.size + b.size : Nat) : Int) > IntKind.i64.max := by
    have e : IntKind.i64.max = 9223372036854775807 := rfl
    rw [e]; omega
  unfold Op.stringOp
  simp only [if_neg this]
theorem info_str : (Tryz.prog.info? 9).map (fun i => (i.zero, i.size, i.bytes)) = some (some (.string ⟨#[]⟩), 1, 16) := by kernel_rfl
theorem flatS (l : List ByteArray) : l.flatMap encS = l.map Value.string := by
  induction l with
  | nil => rfl
  | cons x l ih => rw [List.flatMap_cons, ih]; rfl
theorem so_stored {w : World} {K g n cap : Nat} {T : TypeId} {l : List ByteArray} (h : So encS 1 w K T (.slice (some ⟨g, 0, none⟩) n cap) l) (hn : n = l.length) (j : Nat) (c : ByteArray) : So encS 1 (w.setCell ⟨g, j, none⟩ (.string c)) K T (.slice (some ⟨g, 0, none⟩) n cap) (l.set j c) := by
  subst hn
  have := World.ownsRow.stored h j (.string c)
  unfold So
  rw [List.length_set, flatS, List.map_set, ← flatS]
  exact this.1
theorem so_slot {w : World} {K g n cap k : Nat} {T : TypeId} {l : List ByteArray} (h : So encS 1 w K T (.slice (some ⟨g, 0, none⟩) n cap) l) (hn : n = l.length) (hk : k < l.length) : w.cell? ⟨g, k, none⟩ = some (.string l[k]) ∧ w.frozen? ⟨g, k, none⟩ = false := by
  subst hn
  refine ⟨?_, h.frozenAt k⟩
  rw [h.cellAt k (by omega), flatS]
  simp [hk]

theorem setR_next (l : List Rp) (k : Nat) (hk : k < l.length) (y : ByteArray) (hy : y = partRS (l.getD k nilR)) : ((l.take k).map partRS ++ List.replicate (l.length - k) emptyS).set k y = (l.take (k + 1)).map partRS ++ List.replicate (l.length - (k + 1)) emptyS := by
  have h1 : ((l.take k).map partRS).length = k := by simp; omega
  rw [List.set_append_right _ _ (by omega), h1, Nat.sub_self]
  have h2 : l.length - k = (l.length - (k + 1)) + 1 := by omega
  rw [h2, List.replicate_succ, List.set_cons_zero, List.take_succ_eq_append_getElem hk, List.map_append, List.append_assoc, hy, getR_eq hk]
  rfl

end Go.Proofs.YtcfbcidakddhfaaGreatDoor
namespace Go.Proofs.YtcfbcidakddhfaaGreatDoor
open Go.RowKit

/-- The last of the signs below k with which a text begins. -/
def opTo (r : List UInt8) : Nat → Int
  | 0 => 0
  | k + 1 => if 1 ≤ k ∧ Lib.hasPrefix r (sgB k) = true then (k : Int) else opTo r k
theorem opTo_five (r : List UInt8) : opTo r 5 = opR r := by
  have e1 : sgB ((1 : Nat) : Int) = [61] := rfl
  have e2 : sgB ((2 : Nat) : Int) = [33, 61] := rfl
  have e3 : sgB ((3 : Nat) : Int) = [94, 61] := rfl
  have e4 : sgB ((4 : Nat) : Int) = [42, 61] := rfl
  simp only [opTo, e1, e2, e3, e4, opR]
  cases r with
  | nil => rfl
  | cons b r' =>
    by_cases h1 : b = 61
    · subst h1; simp [Lib.hasPrefix, List.isPrefixOf]
    by_cases h2 : b = 33
    · subst h2; simp [Lib.hasPrefix, List.isPrefixOf]
    by_cases h3 : b = 94
    · subst h3; simp [Lib.hasPrefix, List.isPrefixOf]
    have f1 : ((61 : UInt8) == b) = false := by simpa using fun e => h1 e.symm
    have f2 : ((33 : UInt8) == b) = false := by simpa using fun e => h2 e.symm
    have f3 : ((94 : UInt8) == b) = false := by simpa using fun e => h3 e.symm
    simp [Lib.hasPrefix, List.isPrefixOf, f1, f2, f3]
def RdPost2 (w : World) (r : List Rp × Nat) (e : Ending) (w' : World) : Prop :=
  ∃ A c, e = .returned (.tuple #[.slice A r.1.length c, .int .i64 (r.2 : Int)]) ∧ Rd w' w.heap.size (.slice A r.1.length c) r.1 ∧ Below w.heap.size w w'
theorem rd_none (w w' : World) (h : Below w.heap.size w w') : RdPost2 w ([], 0) (.returned (.tuple #[.slice none 0 0, .int .i64 0])) w' := ⟨none, 0, rfl, So.empty _ _ _ _ _, h⟩
theorem ret_slc2 {A : Option Addr} {n m c : Nat} {a b : Int} (h : n = m) (h2 : a = b) : Ending.returned (.tuple #[.slice A n c, .int .i64 a]) = .returned (.tuple #[.slice A m c, .int .i64 b]) := by rw [h, h2]
theorem stand_pre (t p : ByteArray) (k : Nat) (h : k ≤ t.size) : standZ t p k = Lib.hasPrefix (t.data.toList.drop k) p.data.toList := by rw [standZ_in h]; rfl

theorem stands_at (t p : ByteArray) (j : Nat) (i : Int) (w : World) (hi : i = (j : Int)) (hs : t.size ≤ 1048576) (hp : p.size ≤ 2) (hj : j ≤ t.size) :
    Calls Tryz.prog 64 #[.string t, .int .i64 i, .string p] w fun e w' => e = .returned (.bool (Lib.hasPrefix (t.data.toList.drop j) p.data.toList)) ∧ w = w' := by
  subst hi
  have h := stands_any t p j w (by omega) (by omega) (by omega)
  rw [stand_pre t p j hj] at h
  exact h
end Go.Proofs.YtcfbcidakddhfaaGreatDoor
