/- The program's Quote. -/
import Derived.Shelf.Strings.Builder1
import Derived.Test.YtcmpenmaphmifaaGreatDoorProg
import Derived.Test.YtcmpenmaphmifaaGreatDoorPk0
import Derived.Shelf.Strings.BuilderK
import Derived.Test.YtcmpenmaphmifaaGreatDoorPk5
import Derived.Test.YtcmpenmaphmifaaGreatDoorPk6
import Derived.Test.YtcmpenmaphmifaaGreatDoorPk7
import Derived.Deep.QuietTactic
import Derived.BigQuiet
import Derived.IntWalk
import Derived.Test.YtcmpenmaphmifaaGreatDoorRows
import Derived.LoopTactic
namespace Go.Proofs.YtcmpenmaphmifaaGreatDoor
open Go.Shelf Go.RowKit

def shbRen : Ren := ⟨fun | 167 => 44 | 169 => 46 | 240 => 75 | 276 => 106 | n => n, fun | 9 => 9 | 3 => 3 | 4 => 4 | 0 => 0 | 20 => 20 | 72 => 102 | 70 => 99 | 37 => 100 | 75 => 104 | 127 => 160 | 164 => 188 | 5 => 5 | 80 => 113 | n => n, fun | n => n⟩
theorem shb167 : Lays.n167 Tryz.prog shbRen := {
  mixed := by kernel_rfl
  f167 := Tryz.func44.trans (congrArg some (by kernel_rfl))
  f240 := Tryz.func75.trans (congrArg some (by kernel_rfl))
  f276 := Tryz.func106.trans (congrArg some (by kernel_rfl))
  t0 := Tryz.underlying0
  a0 := Tryz.isAgg0
  z0 := Tryz.sizeOf0
  v0 := Tryz.zeroValue0
  t4 := Tryz.underlying4
  a4 := Tryz.isAgg4
  z4 := Tryz.sizeOf4
  v4 := Tryz.zeroValue4
  t5 := Tryz.underlying5
  a5 := Tryz.isAgg5
  z5 := Tryz.sizeOf5
  v5 := Tryz.zeroValue5
  t9 := Tryz.underlying9
  a9 := Tryz.isAgg9
  z9 := Tryz.sizeOf9
  v9 := Tryz.zeroValue9
  t20 := Tryz.underlying20
  a20 := Tryz.isAgg20
  z20 := Tryz.sizeOf20
  v20 := Tryz.zeroValue20
  t37 := Tryz.underlying100
  a37 := Tryz.isAgg100
  z37 := Tryz.sizeOf100
  v37 := Tryz.zeroValue100
  t70 := Tryz.underlying99
  a70 := Tryz.isAgg99
  z70 := Tryz.sizeOf99
  v70 := Tryz.zeroValue99
  t72 := Tryz.underlying102
  a72 := Tryz.isAgg102
  z72 := Tryz.sizeOf102
  v72 := Tryz.zeroValue102
  t75 := Tryz.underlying104
  a75 := Tryz.isAgg104
  z75 := Tryz.sizeOf104
  v75 := Tryz.zeroValue104
  t164 := Tryz.underlying188
  a164 := Tryz.isAgg188
  z164 := Tryz.sizeOf188
  v164 := Tryz.zeroValue188 }
theorem shb169 : Lays.n169 Tryz.prog shbRen := {
  mixed := by kernel_rfl
  f169 := Tryz.func46.trans (congrArg some (by kernel_rfl))
  t0 := Tryz.underlying0
  a0 := Tryz.isAgg0
  z0 := Tryz.sizeOf0
  v0 := Tryz.zeroValue0
  t3 := Tryz.underlying3
  a3 := Tryz.isAgg3
  z3 := Tryz.sizeOf3
  v3 := Tryz.zeroValue3
  t9 := Tryz.underlying9
  a9 := Tryz.isAgg9
  z9 := Tryz.sizeOf9
  v9 := Tryz.zeroValue9
  t37 := Tryz.underlying100
  a37 := Tryz.isAgg100
  z37 := Tryz.sizeOf100
  v37 := Tryz.zeroValue100
  t70 := Tryz.underlying99
  a70 := Tryz.isAgg99
  z70 := Tryz.sizeOf99
  v70 := Tryz.zeroValue99
  t72 := Tryz.underlying102
  a72 := Tryz.isAgg102
  z72 := Tryz.sizeOf102
  v72 := Tryz.zeroValue102
  t127 := Tryz.underlying160
  a127 := Tryz.isAgg160
  z127 := Tryz.sizeOf160
  v127 := Tryz.zeroValue160 }
theorem shbX : Builder.Extra Tryz.prog shbRen := {
  sizeBuilder := by kernel_rfl
  liesBuilder := by kernel_rfl
  t5 := Tryz.underlying5
  a5 := Tryz.isAgg5
  z5 := Tryz.sizeOf5
  v5 := Tryz.zeroValue5
  infoByte := by kernel_rfl
  cellsByte := by kernel_rfl
  sizeByte := by kernel_rfl
  neB5 := by decide }

/-- A builder of the call's own (blocks from B on) in block b, that holds the bytes l. -/
def Bd (w : World) (B b : Nat) (l : List UInt8) : Prop := Lib.IsBuilder 102 5 B b (Lib.byteCells l) w
theorem Bd.new (w : World) : Bd (w.alloc (.cells #[.pointer none, .slice none 0 0] 102)) w.heap.size w.heap.size [] :=
  .inl ⟨Nat.le_refl _, .slice none 0 0, heap_alloc_new w _, World.ownsRow_nil _ _ _ _, by simp [Value.ownBlock]⟩
theorem Bd.alloc {w : World} {B b : Nat} {l : List UInt8} (h : Bd w B b l) (o : Obj) : Bd (w.alloc o) B b l := by
  have key : ∀ p, Lib.BuilderAt 102 5 B b p (Lib.byteCells l) w → Lib.BuilderAt 102 5 B b p (Lib.byteCells l) (w.alloc o) := by
    intro p h
    obtain ⟨h1, v, h2, h3, h4⟩ := h
    have hlt : b < w.heap.size := by
      rcases Nat.lt_or_ge b w.heap.size with h | h
      · exact h
      · rw [Array.getElem?_eq_none h] at h2; cases h2
    exact ⟨h1, v, (Below.heap_alloc w o b hlt).trans h2, World.ownsRow.alloc h3 o, h4⟩
  rcases h with h | h
  · exact .inl (key _ h)
  · exact .inr (key _ h)
theorem wb_any (B b : Nat) (l : List UInt8) (c : UInt8) (n : Int) (w : World) (hn : n = (c.toNat : Int)) (h : Bd w B b l) (hlen : l.length + 1 ≤ 140737488355328) (hBw : B ≤ w.heap.size) :
    Calls Tryz.prog 44 #[.pointer (some ⟨b, 0, none⟩), .int .u8 n] w fun e w' => e = .returned .nilIface ∧ Bd w' B b (l ++ [c]) ∧ Below B w w' := by
  subst hn
  refine (Any.Builder_WriteByte shb167 shbX B b (Lib.byteCells l) (c.toNat : Int) w h (by rw [Lib.byteCells_length]; exact hlen) hBw).mono ?_
  rintro e w' ⟨he, hb, hw⟩
  refine ⟨he, .inr ?_, hw⟩
  have e2 : Lib.byteCells (l ++ [c]) = Lib.byteCells l ++ [.int .u8 (c.toNat : Int)] := by simp [Lib.byteCells]
  rw [e2]
  exact hb
theorem bstr_any (B b : Nat) (l : List UInt8) (w : World) (h : Bd w B b l) (hBw : B ≤ w.heap.size) :
    Calls Tryz.prog 46 #[.pointer (some ⟨b, 0, none⟩)] w fun e w' => e = .returned (.string ⟨l.toArray⟩) ∧ Below B w w' :=
  Any.Builder_String_any shb169 shbX B b l w h hBw
end Go.Proofs.YtcmpenmaphmifaaGreatDoor
namespace Go.Proofs.YtcmpenmaphmifaaGreatDoor
open Go.Shelf Go.RowKit

def shwRen : Ren := ⟨fun | 166 => 40 | 240 => 75 | 276 => 106 | n => n, fun | 9 => 9 | 3 => 3 | 4 => 4 | 0 => 0 | 20 => 20 | 72 => 102 | 70 => 99 | 37 => 100 | 75 => 104 | 127 => 160 | 164 => 188 | 5 => 5 | 80 => 113 | n => n, fun | n => n⟩
theorem shw166 : Lays.n166 Tryz.prog shwRen := {
  mixed := by kernel_rfl
  f166 := Tryz.func40.trans (congrArg some (by kernel_rfl))
  f240 := Tryz.func75.trans (congrArg some (by kernel_rfl))
  f276 := Tryz.func106.trans (congrArg some (by kernel_rfl))
  t0 := Tryz.underlying0
  a0 := Tryz.isAgg0
  z0 := Tryz.sizeOf0
  v0 := Tryz.zeroValue0
  t3 := Tryz.underlying3
  a3 := Tryz.isAgg3
  z3 := Tryz.sizeOf3
  v3 := Tryz.zeroValue3
  t4 := Tryz.underlying4
  a4 := Tryz.isAgg4
  z4 := Tryz.sizeOf4
  v4 := Tryz.zeroValue4
  t9 := Tryz.underlying9
  a9 := Tryz.isAgg9
  z9 := Tryz.sizeOf9
  v9 := Tryz.zeroValue9
  t20 := Tryz.underlying20
  a20 := Tryz.isAgg20
  z20 := Tryz.sizeOf20
  v20 := Tryz.zeroValue20
  t37 := Tryz.underlying100
  a37 := Tryz.isAgg100
  z37 := Tryz.sizeOf100
  v37 := Tryz.zeroValue100
  t70 := Tryz.underlying99
  a70 := Tryz.isAgg99
  z70 := Tryz.sizeOf99
  v70 := Tryz.zeroValue99
  t72 := Tryz.underlying102
  a72 := Tryz.isAgg102
  z72 := Tryz.sizeOf102
  v72 := Tryz.zeroValue102
  t75 := Tryz.underlying104
  a75 := Tryz.isAgg104
  z75 := Tryz.sizeOf104
  v75 := Tryz.zeroValue104
  t164 := Tryz.underlying188
  a164 := Tryz.isAgg188
  z164 := Tryz.sizeOf188
  v164 := Tryz.zeroValue188 }
theorem shwX : Builder.Extra Tryz.prog shwRen := {
  sizeBuilder := by kernel_rfl
  liesBuilder := by kernel_rfl
  t5 := Tryz.underlying5
  a5 := Tryz.isAgg5
  z5 := Tryz.sizeOf5
  v5 := Tryz.zeroValue5
  infoByte := by kernel_rfl
  cellsByte := by kernel_rfl
  sizeByte := by kernel_rfl
  neB5 := by decide }

theorem ws_any (B b : Nat) (l : List UInt8) (s : ByteArray) (w : World) (h : Bd w B b l) (hlen : l.length + s.size ≤ 140737488355328) (hBw : B ≤ w.heap.size) :
    Calls Tryz.prog 40 #[.pointer (some ⟨b, 0, none⟩), .string s] w fun e w' => e = .returned (.tuple #[.int .i64 s.size, .nilIface]) ∧ Bd w' B b (l ++ s.data.toList) ∧ Below B w w' := by
  refine (Any.Builder_WriteString shw166 shwX B b (Lib.byteCells l) s w h (by rw [Lib.byteCells_length]; exact hlen) hBw).mono ?_
  rintro e w' ⟨he, hb, hw⟩
  refine ⟨he, .inr ?_, hw⟩
  have e2 : Lib.byteCells (l ++ s.data.toList) = Lib.byteCells l ++ Lib.strCells s := by simp [Lib.byteCells, Lib.strCells]
  rw [e2]
  exact hb
end Go.Proofs.YtcmpenmaphmifaaGreatDoor
namespace Go.Proofs.YtcmpenmaphmifaaGreatDoor
open Go.Shelf Go.RowKit

def Bf (w : World) (B b : Nat) (l : List UInt8) : Prop := Lib.IsBuilderF 102 5 B b (Lib.byteCells l) w
abbrev Okb (b : Nat) (w w' : World) : Prop := Lib.OthersKept 5 (some b) w w'
theorem Bf.new (w : World) : Bf (w.alloc (.cells #[.pointer none, .slice none 0 0] 102)) w.heap.size w.heap.size [] := Lib.IsBuilderF.of (Bd.new w)
theorem Bf.below {w w' : World} {B b : Nat} {l : List UInt8} (h : Bf w B b l) (hb : Below w.heap.size w w') : Bf w' B b l := by
  have key : ∀ p, Lib.BuilderAtF 102 5 B b p (Lib.byteCells l) w → Lib.BuilderAtF 102 5 B b p (Lib.byteCells l) w' := by
    intro p h
    have hlt := h.lt
    obtain ⟨h1, v, h2, h3, h4⟩ := h
    refine ⟨h1, v, (hb.block b hlt).trans h2, ?_, h4⟩
    obtain ⟨h5, h6⟩ := h3
    refine ⟨h5, ?_⟩
    rcases h6 with h6 | ⟨g, cap, cur, fz, e, hg, hh, hr⟩
    · exact .inl h6
    · have hgl : g < w.heap.size := by
        rcases Nat.lt_or_ge g w.heap.size with h | h
        · exact h
        · rw [Array.getElem?_eq_none h] at hh; cases hh
      exact .inr ⟨g, cap, cur, fz, e, hg, (hb.block g hgl).trans hh, hr⟩
  rcases h with h | h
  · exact .inl (key _ h)
  · exact .inr (key _ h)
/-- A row that is no row of bytes stands. -/
structure Rwo (w : World) (g : Nat) (cs : Array Value) (T : TypeId) : Prop where
  hp : w.heap[g]? = some (.cells cs T)
theorem Rwo.cell {w : World} {g : Nat} {cs : Array Value} {T : TypeId} (h : Rwo w g cs T) {i : Nat} {v : Value} (hi : cs[i]? = some v) : w.cell? ⟨g, i, none⟩ = some v :=
  (cell_of_row w g i cs T (0, 0) h.hp).trans hi
theorem Rwo.lt {w : World} {g : Nat} {cs : Array Value} {T : TypeId} (h : Rwo w g cs T) : g < w.heap.size := by
  rcases Nat.lt_or_ge g w.heap.size with h9 | h9
  · exact h9
  · have := h.hp
    rw [Array.getElem?_eq_none h9] at this; cases this
theorem Rwo.below {w w' : World} {g : Nat} {cs : Array Value} {T : TypeId} (h : Rwo w g cs T) (hb : Below w.heap.size w w') : Rwo w' g cs T := ⟨(hb.block g h.lt).trans h.hp⟩
theorem Rwo.okb {w w' : World} {g b : Nat} {cs : Array Value} {T : TypeId} (h : Rwo w g cs T) (hk : Okb b w w') (hg : g ≠ b) (hT : T ≠ 5) : Rwo w' g cs T :=
  ⟨hk g _ h.hp (fun e => hg (Option.some.inj e)) fun c fz e => by injection e with _ e2 _; exact hT e2⟩
theorem fwb_any (B b : Nat) (l : List UInt8) (c : UInt8) (n : Int) (w : World) (hn : n = (c.toNat : Int)) (h : Bf w B b l) (hlen : l.length + 1 ≤ 140737488355328) (hBw : B ≤ w.heap.size) :
    Calls Tryz.prog 44 #[.pointer (some ⟨b, 0, none⟩), .int .u8 n] w fun e w' => e = .returned .nilIface ∧ Bf w' B b (l ++ [c]) ∧ Below B w w' ∧ Okb b w w' := by
  subst hn
  refine (Any.Builder_WriteByte_k shb167 shbX B b (Lib.byteCells l) (c.toNat : Int) w h (by rw [Lib.byteCells_length]; exact hlen) hBw).mono ?_
  rintro e w' ⟨he, hb, hw, hk⟩
  refine ⟨he, .inr ?_, hw, hk⟩
  have e2 : Lib.byteCells (l ++ [c]) = Lib.byteCells l ++ [.int .u8 (c.toNat : Int)] := by simp [Lib.byteCells]
  rw [e2]
  exact hb
theorem fws_any (B b : Nat) (l : List UInt8) (s : ByteArray) (w : World) (h : Bf w B b l) (hlen : l.length + s.size ≤ 140737488355328) (hBw : B ≤ w.heap.size) :
    Calls Tryz.prog 40 #[.pointer (some ⟨b, 0, none⟩), .string s] w fun e w' => e = .returned (.tuple #[.int .i64 s.size, .nilIface]) ∧ Bf w' B b (l ++ s.data.toList) ∧ Below B w w' ∧ Okb b w w' := by
  refine (Any.Builder_WriteString_k shw166 shwX B b (Lib.byteCells l) s w h (by rw [Lib.byteCells_length]; exact hlen) hBw).mono ?_
  rintro e w' ⟨he, hb, hw, hk⟩
  refine ⟨he, .inr ?_, hw, hk⟩
  have e2 : Lib.byteCells (l ++ s.data.toList) = Lib.byteCells l ++ Lib.strCells s := by simp [Lib.byteCells, Lib.strCells]
  rw [e2]
  exact hb
theorem fstr_any (B b : Nat) (l : List UInt8) (w : World) (h : Bf w B b l) (hBw : B ≤ w.heap.size) :
    Calls Tryz.prog 46 #[.pointer (some ⟨b, 0, none⟩)] w fun e w' => e = .returned (.string ⟨l.toArray⟩) ∧ Below B w w' :=
  (Any.Builder_String_any_k shb169 shbX B b l w h hBw).mono fun _ _ h => ⟨h.1, h.2.2.1⟩
end Go.Proofs.YtcmpenmaphmifaaGreatDoor
namespace Go.Proofs.YtcmpenmaphmifaaGreatDoor
open Go.RowKit

/-- A query as a value: its rules at A. -/
abbrev qv (q : Qr) (A : Option Addr) (c : Nat) : Value := .agg #[.int .i64 q.op, .slice A q.rs.length c, .int .i64 q.fr, .int .i64 q.to_, .int .i64 q.st, .bool q.nt]
abbrev qc (q : Qr) (A : Option Addr) (c : Nat) : Array Value := #[.int .i64 q.op, .slice A q.rs.length c, .int .i64 q.fr, .int .i64 q.to_, .int .i64 q.st, .bool q.nt]
/-- A query's numbers fit. -/
structure Qok (q : Qr) : Prop where
  o1 : -9223372036854775808 ≤ q.op
  o2 : q.op ≤ 9223372036854775807
  f1 : -9223372036854775808 ≤ q.fr
  f2 : q.fr ≤ 9223372036854775807
  t1 : -9223372036854775808 ≤ q.to_
  t2 : q.to_ ≤ 9223372036854775807
  s1 : -9223372036854775808 ≤ q.st
  s2 : q.st ≤ 9223372036854775807
theorem akIsOp_any (n : Int) (w : World) : Calls Tryz.prog 33 #[.int .i64 n] w fun e w' => e = .returned (.bool (opQ n)) ∧ w = w' := by
  cases h1 : decide (0 ≤ n) <;> cases h2 : decide (n < 6)
  all_goals
    unfold opQ
    rw [h1, h2]
    go_enter Tryz.func33, Tryz.ntmps33
    go_wp2
    go_ret
    exact ⟨rfl, rfl⟩
set_option maxHeartbeats 800000 in
theorem akIsSpan_any (a b : Int) (w : World) : Calls Tryz.prog 35 #[.int .i64 a, .int .i64 b] w fun e w' => e = .returned (.bool (spanB a b)) ∧ w = w' := by
  cases h1 : decide (0 ≤ a) <;> cases h2 : decide (a ≤ b) <;> cases h3 : decide (b ≤ 4611686018427387904)
  all_goals
    unfold spanB
    rw [h1, h2, h3]
    go_enter Tryz.func35, Tryz.ntmps35
    go_wp2
    go_ret
    exact ⟨rfl, rfl⟩
section
variable {q : Qr} {A : Option Addr} {c K : Nat} {w : World}
set_option maxHeartbeats 1600000 in
theorem akIsStep_any (h2 : q.st ≤ 9223372036854775807) : Calls Tryz.prog 36 #[qv q A c] w fun e w' => e = .returned (.bool (stepQ q.op q.fr q.to_ q.st)) ∧ Below w.heap.size w w' := by
  have B0 : Below w.heap.size w (w.alloc (.cells (qc q A c) 27)) := (Below.refl _ _).alloc (Nat.le_refl _) _
  by_cases h0 : q.op = 0
  · have e0 : (q.op == (0 : Int)) = true := by simpa using h0
    have HF : Hid (stepQ q.op q.fr q.to_ q.st = (q.st == 0)) := Lib.hid (by unfold stepQ; rw [if_pos h0])
    clear h0
    go_enter Tryz.func36, Tryz.ntmps36
    go_wp2
    go_ret
    exact ⟨by rw [HF.out]; rfl, B0⟩
  · have e0 : (q.op == (0 : Int)) = false := by simpa using h0
    have HF : Hid (stepQ q.op q.fr q.to_ q.st = (((windowsB q.op [] q.fr q.to_ q.st).1 == 0) && decide (q.st ≤ 4611686018427387904))) := Lib.hid (by unfold stepQ; rw [if_neg h0])
    have HW := Lib.hid (fun W => windows_any q.op 0 none 0 0 [] q.fr q.to_ q.st W rfl (Sr.none_ _ _) (Nat.zero_le _) (fun x hx => by cases hx) h2)
    generalize windowsB q.op [] q.fr q.to_ q.st = P at HF HW
    obtain ⟨r, cs⟩ := P
    clear h0
    have HB0 := Lib.hid B0
    go_enter Tryz.func36, Tryz.ntmps36
    go_wp2_with fail
    refine (HW.out _).mono ?_
    rintro e w1 ⟨A9, c9, rfl, _, b1⟩
    have x4 : w1.cell? ⟨w.heap.size, 4, none⟩ = some (.int .i64 q.st) := kept b1 (by simp [go_sem])
    have hz := b1.size
    have hz2 : w.heap.size < w1.heap.size := by simp at hz; omega
    have HB1 : Hid (Below w.heap.size w w1) := Lib.hid (HB0.out.trans (b1.mono (by simp)))
    clear b1 hz B0
    cases hr : (r == (0 : Int)) with
    | false =>
      rw [hr] at HF
      go_wp2
      go_ret
      exact ⟨by rw [HF.out]; rfl, HB1.out⟩
    | true =>
      rw [hr] at HF
      go_wp2
      go_ret
      exact ⟨by rw [HF.out]; rfl, HB1.out⟩
set_option maxHeartbeats 1600000 in
theorem akRight_any (hr : Rr w K A c q.rs) (hK : K ≤ w.heap.size) (hS : SmR q.rs) (h2 : q.st ≤ 9223372036854775807) :
    Calls Tryz.prog 10 #[qv q A c] w fun e w' => e = .returned (.bool (rightQ q)) ∧ Below w.heap.size w w' := by
  have hcl := hr.le
  have B0 : Below w.heap.size w (w.alloc (.cells (qc q A c) 27)) := (Below.refl _ _).alloc (Nat.le_refl _) _
  have HO := Lib.hid (fun W => akIsOp_any q.op W)
  have HSp := Lib.hid (fun W => akIsSpan_any q.fr q.to_ W)
  have HSt := Lib.hid (fun W => akIsStep_any (q := q) (A := A) (c := c) (w := W) h2)
  have HR := Lib.hid (rightR_any K A q.rs.length c q.rs (w.alloc (.cells (qc q A c) 27)) rfl (hr.alloc hK _) (by simp; omega) hS)
  have HB0 := Lib.hid B0
  have HF : Hid (rightQ q = (opQ q.op && (rulesL q.rs && (spanB q.fr q.to_ && stepQ q.op q.fr q.to_ q.st)))) := Lib.hid rfl
  clear hr hS
  cases h1 : opQ q.op with
  | false =>
    rw [h1] at HF HO
    go_enter Tryz.func10, Tryz.ntmps10
    go_wp2_with (go_at_call 33; refine (HO.out _).mono ?_; rintro e w' ⟨rfl, rfl⟩)
    go_ret
    exact ⟨by rw [HF.out]; rfl, B0⟩
  | true =>
    rw [h1] at HF HO
    generalize rulesL q.rs = r1 at HF HR
    generalize spanB q.fr q.to_ = r2 at HF HSp
    generalize stepQ q.op q.fr q.to_ q.st = r3 at HF HSt
    go_enter Tryz.func10, Tryz.ntmps10
    go_wp2_with fail
    refine (HO.out _).mono ?_
    rintro e w' ⟨rfl, rfl⟩
    go_wp2_with fail
    refine HR.out.mono ?_
    rintro e w1 ⟨rfl, b1⟩
    have x0 : w1.cell? ⟨w.heap.size, 0, none⟩ = some (.int .i64 q.op) := kept b1 (by simp [go_sem])
    have x1 : w1.cell? ⟨w.heap.size, 1, none⟩ = some (.slice A q.rs.length c) := kept b1 (by simp [go_sem])
    have x2 : w1.cell? ⟨w.heap.size, 2, none⟩ = some (.int .i64 q.fr) := kept b1 (by simp [go_sem])
    have x3 : w1.cell? ⟨w.heap.size, 3, none⟩ = some (.int .i64 q.to_) := kept b1 (by simp [go_sem])
    have x4 : w1.cell? ⟨w.heap.size, 4, none⟩ = some (.int .i64 q.st) := kept b1 (by simp [go_sem])
    have x5 : w1.cell? ⟨w.heap.size, 5, none⟩ = some (.bool q.nt) := kept b1 (by simp [go_sem])
    have hz := b1.size
    have hz2 : w.heap.size < w1.heap.size := by simp at hz; omega
    have B1 : Below w.heap.size w w1 := HB0.out.trans (b1.mono (by simp))
    have HB1 := Lib.hid B1
    clear b1 hz B0 HR HB0
    cases r1 with
    | false =>
      go_wp2
      go_ret
      exact ⟨by rw [HF.out]; rfl, HB1.out⟩
    | true =>
      go_wp2_with fail
      refine (HSp.out _).mono ?_
      rintro e w' ⟨rfl, rfl⟩
      cases r2 with
      | false =>
        go_wp2
        go_ret
        exact ⟨by rw [HF.out]; rfl, HB1.out⟩
      | true =>
        go_wp2_with fail
        refine (HSt.out _).mono ?_
        rintro e w2 ⟨rfl, b2⟩
        have HB2 : Hid (Below w.heap.size w w2) := Lib.hid (HB1.out.trans (b2.mono HB1.out.size))
        clear b2 B1 HB1
        go_wp2
        go_ret
        exact ⟨by rw [HF.out]; rfl, HB2.out⟩
end
/-- The table of words. -/
def Wo (w : World) : Prop := ∀ i : Nat, i < 6 → w.cell? ⟨0, i, none⟩ = some (.string (strB (wordQ (i : Int))))
theorem Wo.below {w w' : World} (h : Wo w) (hb : Below w.heap.size w w') : Wo w' := fun i hi => kept hb (h i hi)
set_option maxHeartbeats 1600000 in
theorem wordOf_any (op : Int) (w : World) (h : Wo w) : Calls Tryz.prog 41 #[.int .i64 op] w fun e w' => e = .returned (.string (strB (wordQ op))) ∧ w = w' := by
  have HO := Lib.hid (fun W => akIsOp_any op W)
  cases ho : opQ op with
  | false =>
    rw [ho] at HO
    have HF : Hid (wordQ op = [63]) := Lib.hid (by
      simp only [opQ, Bool.and_eq_false_iff, decide_eq_false_iff_not] at ho
      unfold wordQ
      rw [if_neg (by omega), if_neg (by omega), if_neg (by omega), if_neg (by omega), if_neg (by omega), if_neg (by omega)])
    clear ho
    go_enter Tryz.func41, Tryz.ntmps41
    go_wp2_with (go_at_call 33; refine (HO.out _).mono ?_; rintro e w' ⟨rfl, rfl⟩)
    go_ret
    exact ⟨by rw [HF.out]; rfl, rfl⟩
  | true =>
    rw [ho] at HO
    simp only [opQ, Bool.and_eq_true, decide_eq_true_eq] at ho
    obtain ⟨n, rfl⟩ := Int.eq_ofNat_of_zero_le ho.1
    have hn : n < 6 := by omega
    have hc := h n hn
    have i0 : 0 ≤ (n : Int) := ho.1
    have i1 : (n : Int) < 6 := ho.2
    clear ho h
    go_enter Tryz.func41, Tryz.ntmps41
    go_wp2_with (go_at_call 33; refine (HO.out _).mono ?_; rintro e w' ⟨rfl, rfl⟩)
    go_ret
    exact ⟨rfl, rfl⟩
set_option maxHeartbeats 1600000 in
theorem rWord_any (op : Int) (w : World) : Calls Tryz.prog 30 #[.int .i64 op] w fun e w' => e = .returned (.string (strB (wordQ op))) ∧ w = w' := by
  by_cases h0 : op = 0
  · subst h0
    go_enter Tryz.func30, Tryz.ntmps30
    go_wp2
    go_ret
    exact ⟨rfl, rfl⟩
  by_cases h1 : op = 1
  · subst h1
    go_enter Tryz.func30, Tryz.ntmps30
    go_wp2
    go_ret
    exact ⟨rfl, rfl⟩
  by_cases h2 : op = 2
  · subst h2
    go_enter Tryz.func30, Tryz.ntmps30
    go_wp2
    go_ret
    exact ⟨rfl, rfl⟩
  by_cases h3 : op = 3
  · subst h3
    go_enter Tryz.func30, Tryz.ntmps30
    go_wp2
    go_ret
    exact ⟨rfl, rfl⟩
  by_cases h4 : op = 4
  · subst h4
    go_enter Tryz.func30, Tryz.ntmps30
    go_wp2
    go_ret
    exact ⟨rfl, rfl⟩
  by_cases h5 : op = 5
  · subst h5
    go_enter Tryz.func30, Tryz.ntmps30
    go_wp2
    go_ret
    exact ⟨rfl, rfl⟩
  have HF : Hid (wordQ op = [63]) := Lib.hid (by unfold wordQ; rw [if_neg h0, if_neg h1, if_neg h2, if_neg h3, if_neg h4, if_neg h5])
  have e0 : (op == (0 : Int)) = false := by simpa using h0
  have e1 : (op == (1 : Int)) = false := by simpa using h1
  have e2 : (op == (2 : Int)) = false := by simpa using h2
  have e3 : (op == (3 : Int)) = false := by simpa using h3
  have e4 : (op == (4 : Int)) = false := by simpa using h4
  have e5 : (op == (5 : Int)) = false := by simpa using h5
  clear h0 h1 h2 h3 h4 h5
  go_enter Tryz.func30, Tryz.ntmps30
  go_wp2
  go_ret
  exact ⟨by rw [HF.out]; rfl, rfl⟩
end Go.Proofs.YtcmpenmaphmifaaGreatDoor
namespace Go.Proofs.YtcmpenmaphmifaaGreatDoor
open Go.RowKit Go.BigFrame

/-- A value of the statement: known, or a new slice that holds these cells. -/
def Pn (w : World) : Value ⊕ Array Value → Value → World → Prop
  | .inl x, u, _ => u = x
  | .inr l, u, wx => ∃ g, u = .slice (some ⟨g, 0, none⟩) l.size l.size ∧ w.heap.size ≤ g ∧ Rwo wx g l 110
theorem Pn.mono {w wx wy : World} {p : Value ⊕ Array Value} {u : Value} (h : Pn w p u wx) (hb : Below wx.heap.size wx wy) : Pn w p u wy := by
  cases p with
  | inl x => exact h
  | inr l =>
    obtain ⟨g, e, z, hr⟩ := h
    exact ⟨g, e, z, hr.below hb⟩
def ptrsQ (b : Nat) (op : Int) : Array Value := if op = 0 then #[.pointer (some ⟨b, 2, none⟩), .pointer (some ⟨b, 3, none⟩)] else #[.pointer (some ⟨b, 2, none⟩), .pointer (some ⟨b, 3, none⟩), .pointer (some ⟨b, 4, none⟩)]
set_option maxRecDepth 100000 in
set_option maxHeartbeats 3200000 in
theorem numbersOf_any (b : Nat) (op : Int) (w : World) (x0 : w.cell? ⟨b, 0, none⟩ = some (.int .i64 op)) :
    Calls Tryz.prog 43 #[.pointer (some ⟨b, 0, none⟩)] w fun e w' => ∃ g, e = .returned (.slice (some ⟨g, 0, none⟩) (ptrsQ b op).size (ptrsQ b op).size) ∧ Below w.heap.size w w' ∧ w.heap.size ≤ g ∧ Rwo w' g (ptrsQ b op) 110 := by
  by_cases h0 : op = 0
  · have e0 : (op == (0 : Int)) = true := by simpa using h0
    have e : ptrsQ b op = #[.pointer (some ⟨b, 2, none⟩), .pointer (some ⟨b, 3, none⟩)] := if_pos h0
    rw [e]
    clear h0 e
    go_enter Tryz.func43, Tryz.ntmps43
    go_wp2_with fail
    apply region_V (Pn w) (Below w.heap.size w) [.inl (.pointer (some ⟨b, 0, none⟩)), .inl (.pointer (some ⟨b, 0, none⟩)), .inl (.pointer (some ⟨b, 2, none⟩)), .inl (.pointer (some ⟨b, 0, none⟩)), .inl (.pointer (some ⟨b, 0, none⟩)), .inl (.pointer (some ⟨b, 3, none⟩)), .inr #[.pointer (some ⟨b, 2, none⟩), .pointer (some ⟨b, 3, none⟩)], .inr #[.pointer (some ⟨b, 2, none⟩), .pointer (some ⟨b, 3, none⟩)]] (.inl undef)
    case mono => exact fun p v w0 w1 h hb => Pn.mono h hb
    case hm => kernel_rfl
    case hf => kernel_rfl
    case hQ => exact (by intro c x y w e h; exact And.intro (e.symm.trans (And.left h)) (And.right h))
    case hF => intro vs; simp only [putAll, Act.put, List.setIfInBounds_toArray, List.set_cons_zero, List.set_cons_succ, Nat.reduceAdd]; rfl
    case h0 => exact ⟨rfl, rfl, rfl, Nat.le_refl _, fun _ _ => rfl⟩
    case hstep =>
      repeat' (first | exact AllOps.nil | apply AllOps.cons)
      · intro vs wx hG hd K hK
        replace hK : ∀ (uu : Value) (w' : World), Below wx.heap.size wx w' → ((Below w.heap.size w)) w' → (Pn w) (.inl (.pointer (some ⟨b, 0, none⟩))) uu w' → K _ w' := hK
        simp only [Act.put, List.setIfInBounds_toArray, List.set_cons_zero, List.set_cons_succ] at hK ⊢
        have HK := Lib.hid hK
        have HG := Lib.hid hG
        clear hK hd
        clear hG
        go_simp
        exact HK.out _ _ (Below.refl _ _) HG.out rfl
      · intro vs wx hG hd K hK
        have e0 : vs 0 = .pointer (some ⟨b, 0, none⟩) := hd.get (j := 0) (by simp [depsOf, Region.binds])
        replace hK : ∀ (uu : Value) (w' : World), Below wx.heap.size wx w' → ((Below w.heap.size w)) w' → (Pn w) (.inl (.pointer (some ⟨b, 0, none⟩))) uu w' → K _ w' := hK
        simp only [Act.put, List.setIfInBounds_toArray, List.set_cons_zero, List.set_cons_succ, e0] at hK ⊢
        have HK := Lib.hid hK
        have HG := Lib.hid hG
        clear hK hd e0
        clear hG
        go_simp
        exact HK.out _ _ (Below.refl _ _) HG.out rfl
      · intro vs wx hG hd K hK
        have e1 : vs 1 = .pointer (some ⟨b, 0, none⟩) := hd.get (j := 1) (by simp [depsOf, Region.binds])
        replace hK : ∀ (uu : Value) (w' : World), Below wx.heap.size wx w' → ((Below w.heap.size w)) w' → (Pn w) (.inl (.pointer (some ⟨b, 2, none⟩))) uu w' → K _ w' := hK
        simp only [Act.put, List.setIfInBounds_toArray, List.set_cons_zero, List.set_cons_succ, e1] at hK ⊢
        have HK := Lib.hid hK
        have HG := Lib.hid hG
        clear hK hd e1
        clear hG
        go_simp
        exact HK.out _ _ (Below.refl _ _) HG.out rfl
      · intro vs wx hG hd K hK
        replace hK : ∀ (uu : Value) (w' : World), Below wx.heap.size wx w' → ((Below w.heap.size w)) w' → (Pn w) (.inl (.pointer (some ⟨b, 0, none⟩))) uu w' → K _ w' := hK
        simp only [Act.put, List.setIfInBounds_toArray, List.set_cons_zero, List.set_cons_succ] at hK ⊢
        have HK := Lib.hid hK
        have HG := Lib.hid hG
        clear hK hd
        clear hG
        go_simp
        exact HK.out _ _ (Below.refl _ _) HG.out rfl
      · intro vs wx hG hd K hK
        have e3 : vs 3 = .pointer (some ⟨b, 0, none⟩) := hd.get (j := 3) (by simp [depsOf, Region.binds])
        replace hK : ∀ (uu : Value) (w' : World), Below wx.heap.size wx w' → ((Below w.heap.size w)) w' → (Pn w) (.inl (.pointer (some ⟨b, 0, none⟩))) uu w' → K _ w' := hK
        simp only [Act.put, List.setIfInBounds_toArray, List.set_cons_zero, List.set_cons_succ, e3] at hK ⊢
        have HK := Lib.hid hK
        have HG := Lib.hid hG
        clear hK hd e3
        clear hG
        go_simp
        exact HK.out _ _ (Below.refl _ _) HG.out rfl
      · intro vs wx hG hd K hK
        have e4 : vs 4 = .pointer (some ⟨b, 0, none⟩) := hd.get (j := 4) (by simp [depsOf, Region.binds])
        replace hK : ∀ (uu : Value) (w' : World), Below wx.heap.size wx w' → ((Below w.heap.size w)) w' → (Pn w) (.inl (.pointer (some ⟨b, 3, none⟩))) uu w' → K _ w' := hK
        simp only [Act.put, List.setIfInBounds_toArray, List.set_cons_zero, List.set_cons_succ, e4] at hK ⊢
        have HK := Lib.hid hK
        have HG := Lib.hid hG
        clear hK hd e4
        clear hG
        go_simp
        exact HK.out _ _ (Below.refl _ _) HG.out rfl
      · intro vs wx hG hd K hK
        have e2 : vs 2 = .pointer (some ⟨b, 2, none⟩) := hd.get (j := 2) (by simp [depsOf, Region.binds])
        have e5 : vs 5 = .pointer (some ⟨b, 3, none⟩) := hd.get (j := 5) (by simp [depsOf, Region.binds])
        replace hK : ∀ (uu : Value) (w' : World), Below wx.heap.size wx w' → ((Below w.heap.size w)) w' → (Pn w) (.inr #[.pointer (some ⟨b, 2, none⟩), .pointer (some ⟨b, 3, none⟩)]) uu w' → K _ w' := hK
        simp only [Act.put, List.setIfInBounds_toArray, List.set_cons_zero, List.set_cons_succ, e2, e5] at hK ⊢
        have HK := Lib.hid hK
        have HG := Lib.hid hG
        clear hK hd e2 e5
        clear hG
        go_simp
        exact HK.out _ _ ((Below.refl _ _).alloc (Nat.le_refl _) _) (HG.out.alloc HG.out.size _) ⟨wx.heap.size, rfl, HG.out.size, ⟨heap_alloc_new wx _⟩⟩
      · intro vs wx hG hd K hK
        obtain ⟨g, e6, z, hr⟩ : ∃ g, vs 6 = .slice (some ⟨g, 0, none⟩) 2 2 ∧ w.heap.size ≤ g ∧ Rwo wx g #[.pointer (some ⟨b, 2, none⟩), .pointer (some ⟨b, 3, none⟩)] 110 := hd.get (j := 6) (by simp [depsOf, Region.binds])
        replace hK : ∀ (uu : Value) (w' : World), Below wx.heap.size wx w' → ((Below w.heap.size w)) w' → (Pn w) (.inr #[.pointer (some ⟨b, 2, none⟩), .pointer (some ⟨b, 3, none⟩)]) uu w' → K _ w' := hK
        simp only [Act.put, List.setIfInBounds_toArray, List.set_cons_zero, List.set_cons_succ, e6] at hK ⊢
        have HK := Lib.hid hK
        have HG := Lib.hid hG
        clear hK hd e6
        clear hG
        go_simp
        exact HK.out _ _ (Below.refl _ _) HG.out ⟨g, rfl, z, hr⟩
    case hend =>
      intro vs wx hG hv
      obtain ⟨g, e9, z, hr⟩ : ∃ g, vs 7 = .slice (some ⟨g, 0, none⟩) 2 2 ∧ w.heap.size ≤ g ∧ Rwo wx g #[.pointer (some ⟨b, 2, none⟩), .pointer (some ⟨b, 3, none⟩)] 110 := hv 7 (by decide)
      rw [e9]
      have HG := Lib.hid hG
      have HR := Lib.hid hr
      clear hG hv e9 hr
      go_wp2_with fail
      go_ret
      exact ⟨g, rfl, HG.out, z, HR.out⟩

  · have e0 : (op == (0 : Int)) = false := by simpa using h0
    have e : ptrsQ b op = #[.pointer (some ⟨b, 2, none⟩), .pointer (some ⟨b, 3, none⟩), .pointer (some ⟨b, 4, none⟩)] := if_neg h0
    rw [e]
    clear h0 e
    go_enter Tryz.func43, Tryz.ntmps43
    go_wp2_with fail
    apply region_V (Pn w) (Below w.heap.size w) [.inl (.pointer (some ⟨b, 0, none⟩)), .inl (.pointer (some ⟨b, 0, none⟩)), .inl (.pointer (some ⟨b, 2, none⟩)), .inl (.pointer (some ⟨b, 0, none⟩)), .inl (.pointer (some ⟨b, 0, none⟩)), .inl (.pointer (some ⟨b, 3, none⟩)), .inl (.pointer (some ⟨b, 0, none⟩)), .inl (.pointer (some ⟨b, 0, none⟩)), .inl (.pointer (some ⟨b, 4, none⟩)), .inr #[.pointer (some ⟨b, 2, none⟩), .pointer (some ⟨b, 3, none⟩), .pointer (some ⟨b, 4, none⟩)], .inr #[.pointer (some ⟨b, 2, none⟩), .pointer (some ⟨b, 3, none⟩), .pointer (some ⟨b, 4, none⟩)]] (.inl undef)
    case mono => exact fun p v w0 w1 h hb => Pn.mono h hb
    case hm => kernel_rfl
    case hf => kernel_rfl
    case hQ => exact (by intro c x y w e h; exact And.intro (e.symm.trans (And.left h)) (And.right h))
    case hF => intro vs; simp only [putAll, Act.put, List.setIfInBounds_toArray, List.set_cons_zero, List.set_cons_succ, Nat.reduceAdd]; rfl
    case h0 => exact ⟨rfl, rfl, rfl, Nat.le_refl _, fun _ _ => rfl⟩
    case hstep =>
      repeat' (first | exact AllOps.nil | apply AllOps.cons)
      · intro vs wx hG hd K hK
        replace hK : ∀ (uu : Value) (w' : World), Below wx.heap.size wx w' → ((Below w.heap.size w)) w' → (Pn w) (.inl (.pointer (some ⟨b, 0, none⟩))) uu w' → K _ w' := hK
        simp only [Act.put, List.setIfInBounds_toArray, List.set_cons_zero, List.set_cons_succ] at hK ⊢
        have HK := Lib.hid hK
        have HG := Lib.hid hG
        clear hK hd
        clear hG
        go_simp
        exact HK.out _ _ (Below.refl _ _) HG.out rfl
      · intro vs wx hG hd K hK
        have e0 : vs 0 = .pointer (some ⟨b, 0, none⟩) := hd.get (j := 0) (by simp [depsOf, Region.binds])
        replace hK : ∀ (uu : Value) (w' : World), Below wx.heap.size wx w' → ((Below w.heap.size w)) w' → (Pn w) (.inl (.pointer (some ⟨b, 0, none⟩))) uu w' → K _ w' := hK
        simp only [Act.put, List.setIfInBounds_toArray, List.set_cons_zero, List.set_cons_succ, e0] at hK ⊢
        have HK := Lib.hid hK
        have HG := Lib.hid hG
        clear hK hd e0
        clear hG
        go_simp
        exact HK.out _ _ (Below.refl _ _) HG.out rfl
      · intro vs wx hG hd K hK
        have e1 : vs 1 = .pointer (some ⟨b, 0, none⟩) := hd.get (j := 1) (by simp [depsOf, Region.binds])
        replace hK : ∀ (uu : Value) (w' : World), Below wx.heap.size wx w' → ((Below w.heap.size w)) w' → (Pn w) (.inl (.pointer (some ⟨b, 2, none⟩))) uu w' → K _ w' := hK
        simp only [Act.put, List.setIfInBounds_toArray, List.set_cons_zero, List.set_cons_succ, e1] at hK ⊢
        have HK := Lib.hid hK
        have HG := Lib.hid hG
        clear hK hd e1
        clear hG
        go_simp
        exact HK.out _ _ (Below.refl _ _) HG.out rfl
      · intro vs wx hG hd K hK
        replace hK : ∀ (uu : Value) (w' : World), Below wx.heap.size wx w' → ((Below w.heap.size w)) w' → (Pn w) (.inl (.pointer (some ⟨b, 0, none⟩))) uu w' → K _ w' := hK
        simp only [Act.put, List.setIfInBounds_toArray, List.set_cons_zero, List.set_cons_succ] at hK ⊢
        have HK := Lib.hid hK
        have HG := Lib.hid hG
        clear hK hd
        clear hG
        go_simp
        exact HK.out _ _ (Below.refl _ _) HG.out rfl
      · intro vs wx hG hd K hK
        have e3 : vs 3 = .pointer (some ⟨b, 0, none⟩) := hd.get (j := 3) (by simp [depsOf, Region.binds])
        replace hK : ∀ (uu : Value) (w' : World), Below wx.heap.size wx w' → ((Below w.heap.size w)) w' → (Pn w) (.inl (.pointer (some ⟨b, 0, none⟩))) uu w' → K _ w' := hK
        simp only [Act.put, List.setIfInBounds_toArray, List.set_cons_zero, List.set_cons_succ, e3] at hK ⊢
        have HK := Lib.hid hK
        have HG := Lib.hid hG
        clear hK hd e3
        clear hG
        go_simp
        exact HK.out _ _ (Below.refl _ _) HG.out rfl
      · intro vs wx hG hd K hK
        have e4 : vs 4 = .pointer (some ⟨b, 0, none⟩) := hd.get (j := 4) (by simp [depsOf, Region.binds])
        replace hK : ∀ (uu : Value) (w' : World), Below wx.heap.size wx w' → ((Below w.heap.size w)) w' → (Pn w) (.inl (.pointer (some ⟨b, 3, none⟩))) uu w' → K _ w' := hK
        simp only [Act.put, List.setIfInBounds_toArray, List.set_cons_zero, List.set_cons_succ, e4] at hK ⊢
        have HK := Lib.hid hK
        have HG := Lib.hid hG
        clear hK hd e4
        clear hG
        go_simp
        exact HK.out _ _ (Below.refl _ _) HG.out rfl
      · intro vs wx hG hd K hK
        replace hK : ∀ (uu : Value) (w' : World), Below wx.heap.size wx w' → ((Below w.heap.size w)) w' → (Pn w) (.inl (.pointer (some ⟨b, 0, none⟩))) uu w' → K _ w' := hK
        simp only [Act.put, List.setIfInBounds_toArray, List.set_cons_zero, List.set_cons_succ] at hK ⊢
        have HK := Lib.hid hK
        have HG := Lib.hid hG
        clear hK hd
        clear hG
        go_simp
        exact HK.out _ _ (Below.refl _ _) HG.out rfl
      · intro vs wx hG hd K hK
        have e6 : vs 6 = .pointer (some ⟨b, 0, none⟩) := hd.get (j := 6) (by simp [depsOf, Region.binds])
        replace hK : ∀ (uu : Value) (w' : World), Below wx.heap.size wx w' → ((Below w.heap.size w)) w' → (Pn w) (.inl (.pointer (some ⟨b, 0, none⟩))) uu w' → K _ w' := hK
        simp only [Act.put, List.setIfInBounds_toArray, List.set_cons_zero, List.set_cons_succ, e6] at hK ⊢
        have HK := Lib.hid hK
        have HG := Lib.hid hG
        clear hK hd e6
        clear hG
        go_simp
        exact HK.out _ _ (Below.refl _ _) HG.out rfl
      · intro vs wx hG hd K hK
        have e7 : vs 7 = .pointer (some ⟨b, 0, none⟩) := hd.get (j := 7) (by simp [depsOf, Region.binds])
        replace hK : ∀ (uu : Value) (w' : World), Below wx.heap.size wx w' → ((Below w.heap.size w)) w' → (Pn w) (.inl (.pointer (some ⟨b, 4, none⟩))) uu w' → K _ w' := hK
        simp only [Act.put, List.setIfInBounds_toArray, List.set_cons_zero, List.set_cons_succ, e7] at hK ⊢
        have HK := Lib.hid hK
        have HG := Lib.hid hG
        clear hK hd e7
        clear hG
        go_simp
        exact HK.out _ _ (Below.refl _ _) HG.out rfl
      · intro vs wx hG hd K hK
        have e2 : vs 2 = .pointer (some ⟨b, 2, none⟩) := hd.get (j := 2) (by simp [depsOf, Region.binds])
        have e5 : vs 5 = .pointer (some ⟨b, 3, none⟩) := hd.get (j := 5) (by simp [depsOf, Region.binds])
        have e8 : vs 8 = .pointer (some ⟨b, 4, none⟩) := hd.get (j := 8) (by simp [depsOf, Region.binds])
        replace hK : ∀ (uu : Value) (w' : World), Below wx.heap.size wx w' → ((Below w.heap.size w)) w' → (Pn w) (.inr #[.pointer (some ⟨b, 2, none⟩), .pointer (some ⟨b, 3, none⟩), .pointer (some ⟨b, 4, none⟩)]) uu w' → K _ w' := hK
        simp only [Act.put, List.setIfInBounds_toArray, List.set_cons_zero, List.set_cons_succ, e2, e5, e8] at hK ⊢
        have HK := Lib.hid hK
        have HG := Lib.hid hG
        clear hK hd e2 e5 e8
        clear hG
        go_simp
        exact HK.out _ _ ((Below.refl _ _).alloc (Nat.le_refl _) _) (HG.out.alloc HG.out.size _) ⟨wx.heap.size, rfl, HG.out.size, ⟨heap_alloc_new wx _⟩⟩
      · intro vs wx hG hd K hK
        obtain ⟨g, e9, z, hr⟩ : ∃ g, vs 9 = .slice (some ⟨g, 0, none⟩) 3 3 ∧ w.heap.size ≤ g ∧ Rwo wx g #[.pointer (some ⟨b, 2, none⟩), .pointer (some ⟨b, 3, none⟩), .pointer (some ⟨b, 4, none⟩)] 110 := hd.get (j := 9) (by simp [depsOf, Region.binds])
        replace hK : ∀ (uu : Value) (w' : World), Below wx.heap.size wx w' → ((Below w.heap.size w)) w' → (Pn w) (.inr #[.pointer (some ⟨b, 2, none⟩), .pointer (some ⟨b, 3, none⟩), .pointer (some ⟨b, 4, none⟩)]) uu w' → K _ w' := hK
        simp only [Act.put, List.setIfInBounds_toArray, List.set_cons_zero, List.set_cons_succ, e9] at hK ⊢
        have HK := Lib.hid hK
        have HG := Lib.hid hG
        clear hK hd e9
        clear hG
        go_simp
        exact HK.out _ _ (Below.refl _ _) HG.out ⟨g, rfl, z, hr⟩
    case hend =>
      intro vs wx hG hv
      obtain ⟨g, e9, z, hr⟩ : ∃ g, vs 10 = .slice (some ⟨g, 0, none⟩) 3 3 ∧ w.heap.size ≤ g ∧ Rwo wx g #[.pointer (some ⟨b, 2, none⟩), .pointer (some ⟨b, 3, none⟩), .pointer (some ⟨b, 4, none⟩)] 110 := hv 10 (by decide)
      rw [e9]
      have HG := Lib.hid hG
      have HR := Lib.hid hr
      clear hG hv e9 hr
      go_wp2_with fail
      go_ret
      exact ⟨g, rfl, HG.out, z, HR.out⟩

end Go.Proofs.YtcmpenmaphmifaaGreatDoor
namespace Go.Proofs.YtcmpenmaphmifaaGreatDoor
open Go.RowKit

theorem below_drewN {B : Nat} {a w : World} (h : Below B a w) (n : Nat) : Below B a (w.drewN n) := ⟨h.os, h.tape, h.output, h.size, h.block⟩

end Go.Proofs.YtcmpenmaphmifaaGreatDoor
namespace Go.Proofs.YtcmpenmaphmifaaGreatDoor
open Go.RowKit

theorem isGuarded_any (n : Int) (w : World) : Calls Tryz.prog 107 #[.int .u8 n] w fun e w' => e = .returned (.bool (gN n)) ∧ w = w' := by
  go_enter Tryz.func107, Tryz.ntmps107
  go_wp2
  all_goals go_ret
  all_goals exact ⟨ret_bool (by rw [Bool.eq_iff_iff]; first | (simp [gN] at *; done) | (simp [gN] at *; omega)), rfl⟩

/-- A string, and new memory alone. -/
def NewStr (w : World) (s : ByteArray) (e : Ending) (w' : World) : Prop := e = .returned (.string s) ∧ Below w.heap.size w w'

set_option maxHeartbeats 1600000 in
theorem quote_any (s : ByteArray) (w : World) (hs : s.size ≤ 1000000000000) : Calls Tryz.prog 77 #[.string s] w (NewStr w ⟨(quoteB s).toArray⟩) := by
  go_enter Tryz.func77, Tryz.ntmps77
  go_wp2_with fail
  have b0 := Bd.new w
  refine (wb_any w.heap.size w.heap.size [] 34 _ _ rfl b0 (by simp) (by simp)).mono ?_
  rintro e w1 ⟨rfl, b1, hB1⟩
  have B1 : Below w.heap.size w w1 := ((Below.refl _ w).alloc (Nat.le_refl _) _).trans hB1
  clear b0 hB1
  go_wp2_with fail
  go_loopw [8] (fun i wr => ∃ k : Nat, k ≤ s.size ∧ i = .int .i64 k ∧ Bd wr w.heap.size w.heap.size (quoteTo s k) ∧ Below w.heap.size w wr) (fun i _ => s.size - (intOf i).toNat)
  case atStart => exact ⟨0, Nat.zero_le _, rfl, by rw [quoteTo_zero]; exact b1, B1⟩
  case round =>
    obtain ⟨k, hk, rfl, hbd, hbl⟩ := hrel
    have z := hbl.size
    have hlen := quoteTo_len s k
    clear b1 B1
    by_cases hlt : k < s.size
    · by_cases hg : gN ((s[k]).toNat : Int) = true
      · have HQ := Lib.hid (quoteTo_yes s k hlt hg)
        go_wp2_with (go_at_call 107; refine (isGuarded_any _ _).mono ?_; rintro e w' ⟨rfl, rfl⟩)
        refine (wb_any w.heap.size w.heap.size _ 92 _ _ rfl hbd (by omega) z).mono ?_
        rintro e w2 ⟨rfl, b2, hB2⟩
        have B2 := hbl.trans hB2
        clear hbd hbl hB2
        go_wp2_with fail
        refine (wb_any w.heap.size w.heap.size _ s[k] _ _ rfl b2 (by simp; omega) B2.size).mono ?_
        rintro e w3 ⟨rfl, b3, hB3⟩
        have B3 := B2.trans hB3
        clear b2 hB3 B2
        go_wp2_with fail
        go_roundw
        case rel => exact ⟨k + 1, by omega, by go_num, by rw [HQ.out]; exact b3, B3⟩
        case measure => simp [intOf]; omega
      · have hg : gN ((s[k]).toNat : Int) = false := by simpa using hg
        have HQ := Lib.hid (quoteTo_no s k hlt hg)
        go_wp2_with (go_at_call 107; refine (isGuarded_any _ _).mono ?_; rintro e w' ⟨rfl, rfl⟩)
        refine (wb_any w.heap.size w.heap.size _ s[k] _ _ rfl hbd (by omega) z).mono ?_
        rintro e w3 ⟨rfl, b3, hB3⟩
        have B3 := hbl.trans hB3
        clear hbd hbl hB3
        go_wp2_with fail
        go_roundw
        case rel => exact ⟨k + 1, by omega, by go_num, by rw [HQ.out]; exact b3, B3⟩
        case measure => simp [intOf]; omega
    · have hks : k = s.size := by omega
      have b4 : Bd wr w.heap.size w.heap.size (quoteTo s s.size) := hks ▸ hbd
      clear hbd hks
      go_wp2_with fail
      refine (wb_any w.heap.size w.heap.size _ 34 _ _ rfl b4 (by have := quoteTo_len s s.size; omega) z).mono ?_
      rintro e w2 ⟨rfl, b2, hB2⟩
      have B2 := hbl.trans hB2
      clear b4 hbl hB2
      go_wp2_with fail
      refine (bstr_any w.heap.size w.heap.size _ _ b2 B2.size).mono ?_
      rintro e w3 ⟨rfl, hB3⟩
      have B3 := B2.trans hB3
      go_wp2_with fail
      go_ret
      exact ⟨rfl, B3⟩
end Go.Proofs.YtcmpenmaphmifaaGreatDoor
