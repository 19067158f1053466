/- slices.Clone of labels. -/
import Derived.Test.YtcfbcidakddhfaaGreatDoorPr5
import Derived.Test.YtcfbcidakddhfaaGreatDoorPr4
import Derived.Shelf.GgSortFunc.InsertionK
import Derived.Shelf.SlSortCmp.Insertion
import Derived.Shelf.Strings.BuilderK
import Derived.WalkSpells
namespace Go.Proofs.YtcfbcidakddhfaaGreatDoor
open Go.RowKit

/-- A value and how many bytes it has; new memory alone. -/
def UnqPost (w : World) (r : List UInt8 × Nat) (e : Ending) (w' : World) : Prop := e = .returned (.tuple #[.string ⟨r.1.toArray⟩, .int .i64 (r.2 : Int)]) ∧ Below w.heap.size w w'
theorem ret_unq {a b : ByteArray} {n m : Int} (h : a = b) (h2 : n = m) : Ending.returned (.tuple #[.string a, .int .i64 n]) = .returned (.tuple #[.string b, .int .i64 m]) := by rw [h, h2]

set_option maxHeartbeats 3200000 in
theorem unquote_any (t : ByteArray) (w : World) (hs : t.size ≤ 1000000000000) : Calls Tryz.prog 81 #[.string t] w (UnqPost w (unqB t)) := by
  by_cases h0 : t.size = 0
  · rw [unqB_nil h0]
    have e1 : t.toList = [] := by rw [Lib.toList_data]; exact List.eq_nil_of_length_eq_zero (by simpa using h0)
    have e2 : (t.toList == []) = true := by rw [e1]; rfl
    have H0 := Lib.hid h0
    clear h0
    go_enter Tryz.func81, Tryz.ntmps81
    go_wp2
    go_ret2
    exact ⟨rfl, Below.refl _ _⟩
  have hpos : 0 < t.size := by omega
  have e1 : ¬ t.toList = [] := by
    rw [Lib.toList_data]
    intro e
    have := congrArg List.length e
    simp at this
    exact h0 (by simpa using this)
  have e2 : (t.toList == []) = false := by simpa using e1
  by_cases hc : ((t[0]).toNat : Int) = 34
  · have hstart := unqB_yes hpos hc
    have HS := Lib.hid hstart
    have HC := Lib.hid hc
    have hc2 : (((t[0]).toNat : Int) == 34) = true := by rw [hc]; rfl
    have hc3 : (((t[0]).toNat : Int) != 34) = false := by rw [hc]; rfl
    generalize unqB t = R at *
    clear hstart hc e1 h0
    go_enter Tryz.func81, Tryz.ntmps81
    go_wp2_with fail
    have b0 := Bd.new w
    have B0 : Below w.heap.size w (w.alloc (.cells #[.pointer none, .slice none 0 0] 181)) := (Below.refl _ _).alloc (Nat.le_refl _) _
    clear hc2 hc3 e2
    go_loopw [5, 18] (fun gv i wr => ∃ (k : Nat) (g : Bool) (acc : List UInt8), k + 1 ≤ t.size ∧ i = .int .i64 k ∧ gv = .bool g ∧ acc.length ≤ k ∧ Bd wr w.heap.size w.heap.size acc ∧ Hid (R = unqGo (t.data.toList.drop (k + 1)) g acc (k + 1)) ∧ Below w.heap.size w wr) (fun _ i _ => t.size - (intOf i).toNat)
    case atStart => exact ⟨0, false, [], by omega, rfl, rfl, by simp, b0, HS, B0⟩
    case round =>
      obtain ⟨k, g, acc, hk, rfl, rfl, hal, hbd, HT, hbl⟩ := hrel
      have z := hbl.size
      clear b0 B0
      by_cases hlt : k + 1 < t.size
      · have i0 : (k : Int) < (t.size : Int) - 1 := by omega
        cases g with
        | true =>
          by_cases hg : gN ((t[k + 1]).toNat : Int) = true
          · have HN : Hid (R = unqGo (t.data.toList.drop (k + 1 + 1)) false (acc ++ [t[k + 1]]) (k + 1 + 1)) := Lib.hid (by rw [HT.out, go_guard_yes hlt _ _ hg])
            go_wp2_with (go_at_call 100; refine (isGuarded_any _ _).mono ?_; rintro e w' ⟨rfl, rfl⟩)
            refine (wb_any w.heap.size w.heap.size _ t[k + 1] _ _ rfl hbd (by omega) z).mono ?_
            rintro e w3 ⟨rfl, b3, hB3⟩
            have B3 := hbl.trans hB3
            clear hbd hbl hB3
            go_wp2_with fail
            go_roundw
            case rel => exact ⟨k + 1, false, _, by omega, by go_num, rfl, by simp; omega, b3, HN, B3⟩
            case measure => simp [intOf]; omega
          · have hg : gN ((t[k + 1]).toNat : Int) = false := by simpa using hg
            have HF : Hid (R = ([], 0)) := Lib.hid (by rw [HT.out, go_guard_no hlt _ _ hg])
            go_wp2_with (go_at_call 100; refine (isGuarded_any _ _).mono ?_; rintro e w' ⟨rfl, rfl⟩)
            go_ret2
            exact ⟨by rw [HF.out]; rfl, hbl⟩
        | false =>
          by_cases h34 : ((t[k + 1]).toNat : Int) = 34
          · have HF : Hid (R = (acc, k + 1 + 1)) := Lib.hid (by rw [HT.out, go_quote hlt _ _ h34])
            have c1 : (((t[k + 1]).toNat : Int) == 34) = true := by rw [h34]; rfl
            have H34 := Lib.hid h34
            clear h34
            go_wp2_with fail
            refine (bstr_any w.heap.size w.heap.size _ _ hbd z).mono ?_
            rintro e w3 ⟨rfl, hB3⟩
            have B3 := hbl.trans hB3
            go_wp2_with fail
            go_ret2
            exact ⟨by rw [HF.out]; exact ret_unq rfl (by omega), B3⟩
          · have c1 : (((t[k + 1]).toNat : Int) == 34) = false := by simpa using h34
            by_cases h92 : ((t[k + 1]).toNat : Int) = 92
            · have HN : Hid (R = unqGo (t.data.toList.drop (k + 1 + 1)) true acc (k + 1 + 1)) := Lib.hid (by rw [HT.out, go_slash hlt _ _ h92])
              have c2 : (((t[k + 1]).toNat : Int) == 92) = true := by rw [h92]; rfl
              have H92 := Lib.hid h92
              clear h92 h34
              go_wp2_with fail
              go_roundw
              case rel => exact ⟨k + 1, true, _, by omega, by go_num, rfl, by omega, hbd, HN, hbl⟩
              case measure => simp [intOf]; omega
            · have c2 : (((t[k + 1]).toNat : Int) == 92) = false := by simpa using h92
              have HN : Hid (R = unqGo (t.data.toList.drop (k + 1 + 1)) false (acc ++ [t[k + 1]]) (k + 1 + 1)) := Lib.hid (by rw [HT.out, go_plain hlt _ _ h34 h92])
              clear h34 h92
              go_wp2_with fail
              refine (wb_any w.heap.size w.heap.size _ t[k + 1] _ _ rfl hbd (by omega) z).mono ?_
              rintro e w3 ⟨rfl, b3, hB3⟩
              have B3 := hbl.trans hB3
              clear hbd hbl hB3
              go_wp2_with fail
              go_roundw
              case rel => exact ⟨k + 1, false, _, by omega, by go_num, rfl, by simp; omega, b3, HN, B3⟩
              case measure => simp [intOf]; omega
      · have HF : Hid (R = ([], 0)) := Lib.hid (by rw [HT.out, go_end (by omega)])
        have i0 : ¬ (k : Int) < (t.size : Int) - 1 := by omega
        go_wp2_with fail
        go_ret2
        exact ⟨by rw [HF.out]; rfl, hbl⟩
  · have HF : Hid (unqB t = ([], 0)) := Lib.hid (unqB_no hpos hc)
    have hc2 : (((t[0]).toNat : Int) == 34) = false := by simpa using hc
    have hc3 : (((t[0]).toNat : Int) != 34) = true := by simpa using hc
    clear hc e1 h0
    go_enter Tryz.func81, Tryz.ntmps81
    go_wp2_with fail
    go_ret2
    exact ⟨by rw [HF.out]; rfl, Below.refl _ _⟩
end Go.Proofs.YtcfbcidakddhfaaGreatDoor
namespace Go.Proofs.YtcfbcidakddhfaaGreatDoor
open Go.RowKit
open Go.Sort (flatK get_flatK size_flatK HoldsK putRowK)

section
variable {α : Type} [Inhabited α] {enc : α → List Value} {k : Nat}

theorem flatK_list (henc : ∀ x, (enc x).length = k) (hk : 0 < k) (d : Array α) : (flatK enc k d).toList = d.toList.flatMap enc := by
  apply List.ext_getElem?
  intro t
  rcases Nat.lt_or_ge t (d.size * k) with ht | ht
  · have hq : t / k < d.size := Nat.div_lt_of_lt_mul (by rwa [Nat.mul_comm] at ht)
    have hr : t % k < k := Nat.mod_lt _ hk
    have e1 : (flatK enc k d)[t]! = (enc d[t / k]!)[t % k]! := get_flatK enc k d t ht
    have hs : t < (flatK enc k d).size := by rw [size_flatK]; exact ht
    have e2 : (flatK enc k d).toList[t]? = some (flatK enc k d)[t]! := by
      rw [Array.getElem?_toList, Array.getElem?_eq_getElem hs, getElem!_pos _ t hs]
    have hx : d[t / k]! = d[t / k] := getElem!_pos d (t / k) hq
    have hu : (enc d[t / k])[t % k]? = some (enc d[t / k])[t % k]! := by
      have hl : t % k < (enc d[t / k]).length := by rw [henc]; exact hr
      rw [List.getElem?_eq_getElem hl, getElem!_pos (enc d[t / k]) (t % k) hl]
    have e3 := flatMap_get henc d.toList (t / k) d[t / k] (by rw [Array.getElem?_toList, Array.getElem?_eq_getElem hq]) (t % k) _ hu
    rw [Nat.mul_comm, Nat.div_add_mod] at e3
    rw [e2, e3, e1, hx]
  · rw [List.getElem?_eq_none (by rw [Array.length_toList, size_flatK]; exact ht), List.getElem?_eq_none (by rw [flatMap_len henc, Array.length_toList]; exact ht)]

variable {w : World} {K g n cap : Nat} {T : TypeId} {l : List α}
omit [Inhabited α] in
theorem So.len (h : So enc k w K T (.slice (some ⟨g, 0, none⟩) n cap) l) : n = l.length := by
  rcases h.2 with ⟨he, _⟩ | ⟨g', cap', cur, he, _⟩
  · cases he
  · injection he
theorem So.holdsK (henc : ∀ x, (enc x).length = k) (hk : 0 < k) (h : So enc k w K T (.slice (some ⟨g, 0, none⟩) n cap) l) : HoldsK enc k w g 0 l.toArray := by
  have hn := h.len
  subst hn
  intro j hj
  rw [size_flatK] at hj
  have hj' : j < (l.flatMap enc).length := by rw [flatMap_len henc]; simpa using hj
  have hs : j < (flatK enc k l.toArray).size := by rw [size_flatK]; exact hj
  have e : (flatK enc k l.toArray).toList[j]? = (l.flatMap enc)[j]? := by rw [flatK_list henc hk]
  refine ⟨?_, by rw [Nat.zero_add]; exact h.frozenAt j⟩
  have hc := h.cellAt j (by simpa using hj)
  rw [Nat.zero_add, hc, getElem!_pos _ j hs]
  rw [Array.getElem?_toList, Array.getElem?_eq_getElem hs] at e
  exact e.symm

theorem So.sorted (henc : ∀ x, (enc x).length = k) (hk : 0 < k) (h : So enc k w K T (.slice (some ⟨g, 0, none⟩) n cap) l) (d' : Array α) (hd : d'.size = l.length) (m : Nat) (os : Array Obj) :
    So enc k (sortWorldK enc k w g 0 m d' os) K T (.slice (some ⟨g, 0, none⟩) n cap) d'.toList ∧ ∀ B, B ≤ g → Below B w (sortWorldK enc k w g 0 m d' os) := by
  have hn := h.len
  subst hn
  rcases h.2 with ⟨he, _⟩ | ⟨g', cap', cur, he, hb, hg, hn, hc, hs, ht⟩
  · cases he
  injection he with h1 h2 h3
  injection h1 with h1
  injection h1 with h1
  subst h1 h3
  have hlt : g < w.heap.size := by
    rcases Nat.lt_or_ge g w.heap.size with h | h
    · exact h
    · rw [Array.getElem?_eq_none h] at hg; cases hg
  have hF : (flatK enc k d').size = l.length * k := by rw [size_flatK, hd]
  have hput : (sortWorldK enc k w g 0 m d' os).heap[g]? = some (.cells (Sort.putCells id 0 (flatK enc k d') cur) T (0, 0)) := by
    unfold sortWorldK
    rw [Sort.heap_grow_old _ _ (by unfold putRowK; rw [Sort.size_putRow]; exact hlt)]
    unfold putRowK Sort.putRow Sort.mapBlock
    rw [Array.getElem?_modify, if_pos rfl]
    show (w.heap[g]?).map _ = _
    rw [hg]
    rfl
  have hother : ∀ i, i < w.heap.size → i ≠ g → (sortWorldK enc k w g 0 m d' os).heap[i]? = w.heap[i]? := by
    intro i hi hne
    unfold sortWorldK
    rw [Sort.heap_grow_old _ _ (by unfold putRowK; rw [Sort.size_putRow]; exact hi)]
    unfold putRowK Sort.putRow Sort.mapBlock
    rw [Array.getElem?_modify, if_neg (fun e => hne e.symm)]
    rfl
  have hsz : w.heap.size ≤ (sortWorldK enc k w g 0 m d' os).heap.size := by
    unfold sortWorldK
    rw [Sort.size_grow]
    unfold putRowK
    rw [Sort.size_putRow]
    exact Nat.le_add_right _ _
  refine ⟨⟨by rw [flatMap_len henc], .inr ⟨g, cap, _, ?_, hb, hput, by rw [Array.length_toList, hd]; exact hn, hc, by simp [Sort.putCells, hs], ?_⟩⟩, fun B hB => ⟨rfl, rfl, rfl, hsz, fun i hi => hother i (by omega) (by omega)⟩⟩
  · rw [show d'.toList.length = l.length by simp [hd]]
  · have hcs : l.length * k ≤ cur.size := by rw [hs]; exact Nat.mul_le_mul_right _ hn
    rw [Array.length_toList, hd, ← flatK_list henc hk]
    apply List.ext_getElem?
    intro t
    rw [List.getElem?_take]
    split
    · rename_i hlt
      have h1 : t < (flatK enc k d').size := by rw [hF]; exact hlt
      rw [Array.getElem?_toList, Array.getElem?_toList, Array.getElem?_eq_getElem h1]
      unfold Sort.putCells
      rw [Array.getElem?_mapIdx, Array.getElem?_eq_getElem (by omega)]
      simp only [Option.map_some]
      rw [if_pos ⟨Nat.zero_le _, by rw [Nat.zero_add]; exact h1⟩, Nat.sub_zero, getElem!_pos _ t h1]
      rfl
    · rw [List.getElem?_eq_none]
      rw [Array.length_toList, hF]; omega
end
end Go.Proofs.YtcfbcidakddhfaaGreatDoor
namespace Go.Proofs.YtcfbcidakddhfaaGreatDoor
open Go.Shelf Go.RowKit

def Bf (w : World) (B b : Nat) (l : List UInt8) : Prop := Lib.IsBuilderF 181 5 B b (Lib.byteCells l) w
abbrev Okb (b : Nat) (w w' : World) : Prop := Lib.OthersKept 5 (some b) w w'
theorem Bf.new (w : World) : Bf (w.alloc (.cells #[.pointer none, .slice none 0 0] 181)) w.heap.size w.heap.size [] := Lib.IsBuilderF.of (Bd.new w)
theorem Bf.below {w w' : World} {B b : Nat} {l : List UInt8} (h : Bf w B b l) (hb : Below w.heap.size w w') : Bf w' B b l := by
  have key : ∀ p, Lib.BuilderAtF 181 5 B b p (Lib.byteCells l) w → Lib.BuilderAtF 181 5 B b p (Lib.byteCells l) w' := by
    intro p h
    have hlt := h.lt
    obtain ⟨h1, v, h2, h3, h4⟩ := h
    refine ⟨h1, v, (hb.block b hlt).trans h2, ?_, h4⟩
    obtain ⟨h5, h6⟩ := h3
    refine ⟨h5, ?_⟩
    rcases h6 with h6 | ⟨g, cap, cur, fz, e, hg, hh, hr⟩
    · exact .inl h6
    · have hgl : g < w.heap.size := by
        rcases Nat.lt_or_ge g w.heap.size with h | h
        · exact h
        · rw [Array.getElem?_eq_none h] at hh; cases hh
      exact .inr ⟨g, cap, cur, fz, e, hg, (hb.block g hgl).trans hh, hr⟩
  rcases h with h | h
  · exact .inl (key _ h)
  · exact .inr (key _ h)
/-- A row that is no row of bytes stands. -/
structure Rwo (w : World) (g : Nat) (cs : Array Value) (T : TypeId) : Prop where
  hp : w.heap[g]? = some (.cells cs T)
theorem Rwo.cell {w : World} {g : Nat} {cs : Array Value} {T : TypeId} (h : Rwo w g cs T) {i : Nat} {v : Value} (hi : cs[i]? = some v) : w.cell? ⟨g, i, none⟩ = some v :=
  (cell_of_row w g i cs T (0, 0) h.hp).trans hi
theorem Rwo.lt {w : World} {g : Nat} {cs : Array Value} {T : TypeId} (h : Rwo w g cs T) : g < w.heap.size := by
  rcases Nat.lt_or_ge g w.heap.size with h9 | h9
  · exact h9
  · have := h.hp
    rw [Array.getElem?_eq_none h9] at this; cases this
theorem Rwo.below {w w' : World} {g : Nat} {cs : Array Value} {T : TypeId} (h : Rwo w g cs T) (hb : Below w.heap.size w w') : Rwo w' g cs T := ⟨(hb.block g h.lt).trans h.hp⟩
theorem Rwo.okb {w w' : World} {g b : Nat} {cs : Array Value} {T : TypeId} (h : Rwo w g cs T) (hk : Okb b w w') (hg : g ≠ b) (hT : T ≠ 5) : Rwo w' g cs T :=
  ⟨hk g _ h.hp (fun e => hg (Option.some.inj e)) fun c fz e => by injection e with _ e2 _; exact hT e2⟩
theorem fwb_any (B b : Nat) (l : List UInt8) (c : UInt8) (n : Int) (w : World) (hn : n = (c.toNat : Int)) (h : Bf w B b l) (hlen : l.length + 1 ≤ 140737488355328) (hBw : B ≤ w.heap.size) :
    Calls Tryz.prog 102 #[.pointer (some ⟨b, 0, none⟩), .int .u8 n] w fun e w' => e = .returned .nilIface ∧ Bf w' B b (l ++ [c]) ∧ Below B w w' ∧ Okb b w w' := by
  subst hn
  refine (Any.Builder_WriteByte_k shb167 shbX B b (Lib.byteCells l) (c.toNat : Int) w h (by rw [Lib.byteCells_length]; exact hlen) hBw).mono ?_
  rintro e w' ⟨he, hb, hw, hk⟩
  refine ⟨he, .inr ?_, hw, hk⟩
  have e2 : Lib.byteCells (l ++ [c]) = Lib.byteCells l ++ [.int .u8 (c.toNat : Int)] := by simp [Lib.byteCells]
  rw [e2]
  exact hb
theorem fstr_any (B b : Nat) (l : List UInt8) (w : World) (h : Bf w B b l) (hBw : B ≤ w.heap.size) :
    Calls Tryz.prog 101 #[.pointer (some ⟨b, 0, none⟩)] w fun e w' => e = .returned (.string ⟨l.toArray⟩) ∧ Below B w w' :=
  (Any.Builder_String_any_k shb169 shbX B b l w h hBw).mono fun _ _ h => ⟨h.1, h.2.2.1⟩
end Go.Proofs.YtcfbcidakddhfaaGreatDoor
namespace Go.Proofs.YtcfbcidakddhfaaGreatDoor
open Go.RowKit

/-- One more of the two has come up. -/
def upG (i p : Nat) (b : Bool) : Bool := match Nat.beq i p with | true => true | false => b
theorem upG_eq (l : Nat → Bool) (i p : Nat) : updR l i true p = upG i p (l p) := by
  by_cases e : p = i
  · subst e
    rw [updR_same]
    unfold upG
    rw [Nat.beq_refl]
  · rw [updR_ne _ _ e]
    unfold upG
    have hb : Nat.beq i p = false := by
      cases h : Nat.beq i p with
      | false => rfl
      | true => exact absurd (Nat.eq_of_beq_eq_true h).symm e
    rw [hb]
theorem region_G {P : Program} {Q : Exit → Act → World → Prop} {ops : Array Oper} {id : Nat} {a0 : Act} {w0 : World} (G : Bool → Bool → World → Prop) (p q : Nat) (xs : List Value)
    (F : (Nat → Value) → Act) (hF : ∀ vs, F vs = putAll vs 0 ops.toList a0) (hm : P.follows .mixedOrders = true) (hf : fitsR ops = true) (hp : (Nat.blt p ops.size && Nat.blt q ops.size) = true)
    (hQ : ∀ c (x y : Act) w, x.defers = y.defers → Q (.panic c) x w → Q (.panic c) y w)
    (h0 : G false false w0.drew)
    (hstep : AllOps (fun i o => ∀ vs b c w, G b c w → AllD (fun j => vs j = xs.getD j undef) (depsOf o) → (Nat.beq i p = true → b = false) → (Nat.beq i q = true → c = false) →
      ∀ K : Act → World → Prop, (∀ w', G (upG i p b) (upG i q c) w' → K ((F vs).put o.dst (xs.getD i undef)) w') →
        if Region.wanted o (yielded ops (F vs).tmps) = true then Oper.wp P o (F vs) w K Q else K ((F vs).put o.dst undef) w) 0 ops.toList)
    (hend : ∀ vs w, G true true w → (∀ i, i < ops.size → vs i = xs.getD i undef) → Q .normal (F vs) w) :
    (Code.region id ops true).wp P Q a0 w0 := by
  simp only [Bool.and_eq_true, Nat.blt_eq] at hp
  refine region_inv hm hf F hF hQ (fun l vs w => G (l p) (l q) w ∧ ∀ i, l i = true → vs i = xs.getD i undef) ⟨h0, fun _ h => by cases h⟩ ?_ (fun l vs w hl hJ => ?_)
  · intro i o ho l vs w ⟨hG, hV⟩ hli hall K hK
    have hd := mem_deps ho hall
    have ho' : ops.toList[i]? = some o := by rw [Array.getElem?_toList]; exact ho
    have go := hstep.get ho'
    rw [Nat.zero_add] at go
    have hdep : AllD (fun j => vs j = xs.getD j undef) (depsOf o) := by
      have hdo : depsAt ops i = depsOf o := by simp [depsAt, ho]
      rw [hdo] at hd
      exact AllD.of (fun j hj => hV j hj) (AllL.mk hd)
    refine go vs (l p) (l q) w hG hdep (fun h => by have := Nat.eq_of_beq_eq_true h; subst this; exact hli) (fun h => by have := Nat.eq_of_beq_eq_true h; subst this; exact hli) K fun w' hG' => hK _ w' ⟨?_, fun j hj => ?_⟩
    · rw [upG_eq, upG_eq]; exact hG'
    · by_cases ej : j = i
      · subst ej; rw [updR_same]
      · rw [updR_ne _ _ ej] at hj ⊢
        exact hV j hj
  · have h1 := hJ.1
    rw [hl p hp.1, hl q hp.2] at h1
    exact hend vs w h1 fun i hi => hJ.2 i (hl i hi)
end Go.Proofs.YtcfbcidakddhfaaGreatDoor
namespace Go.Proofs.YtcfbcidakddhfaaGreatDoor
open Go.RowKit

set_option maxHeartbeats 800000 in
theorem clone_any (K : Nat) (A : Option Addr) (n cap : Nat) (l : List Pp) (w : World) (hn : l.length = n) (hb : Lr w K A cap l) (hK : K ≤ w.heap.size) (hsz : l.length * 32 ≤ 140737488355328) :
    Calls Tryz.prog 40 #[.slice A n cap] w (NewA w l) := by
  subst hn
  have hle := hb.le
  have hmax := hb.max
  unfold maxLen at hmax
  cases A with
  | none =>
    have hc := hb.nil rfl
    have hl : l = [] := List.eq_nil_of_length_eq_zero (by omega)
    subst hl hc
    have hq := Lib.run_eql_slice_nil (P := Tryz.prog) w 47 54 none 0 0 0 0 Tryz.underlying47
    go_enter Tryz.func40, Tryz.ntmps40
    go_wp2
    go_ret
    exact ⟨none, 0, rfl, So.empty _ _ _ _ _, Below.refl _ _⟩
  | some ad =>
    have hq := Lib.run_eql_slice_nil (P := Tryz.prog) w 47 54 (some ad) l.length cap 0 0 Tryz.underlying47
    go_enter Tryz.func40, Tryz.ntmps40
    go_wp2_with (at_builtin; refine wpList_appE Tryz.underlying47 info_ap rfl (by decide) encP_len encP_one _ rfl (.tmp 5) (.tmp 6) rfl w.heap.size (.slice (some ⟨w.heap.size, 0, none⟩) 0 0) [] rfl (lit_so _ w.heap.size _ w.heap.size rfl (Nat.le_refl _) _ 0 [] encP_len rfl rfl (by decide)) (some ad) l.length cap l rfl rfl K (hb.alloc hK _) l.length (by simp) (by unfold maxLen; omega) hsz (by simp) ?_; intro A2 cap2 w2 hown2 hgrow2 hat2; have B2 : Below w.heap.size w w2 := grown_belowE ((Below.refl _ _).alloc (Nat.le_refl _) _) hgrow2 (by simp) (by simp [Value.ownBlock]))
    go_ret
    exact ⟨A2, cap2, rfl, hown2, B2⟩
end Go.Proofs.YtcfbcidakddhfaaGreatDoor
