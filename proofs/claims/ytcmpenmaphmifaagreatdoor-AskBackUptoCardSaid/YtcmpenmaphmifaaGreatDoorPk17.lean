/- The program's parseRule. -/
import Derived.Shelf.Strings.Cut
import Derived.Test.YtcmpenmaphmifaaGreatDoorProg
import Derived.Test.YtcmpenmaphmifaaGreatDoorPk16
import Derived.Test.YtcmpenmaphmifaaGreatDoorRows
import Derived.Test.YtcmpenmaphmifaaGreatDoorPk0
import Derived.Lib.AtoiErrMem
import Derived.Test.YtcmpenmaphmifaaGreatDoorPk15
import Derived.Test.YtcmpenmaphmifaaGreatDoorPk9
import Derived.Test.YtcmpenmaphmifaaGreatDoorPk11
import Derived.Test.YtcmpenmaphmifaaGreatDoorPk10
import Derived.RegionTactic
namespace Go.Proofs.YtcmpenmaphmifaaGreatDoor
open Go.Shelf Go.RowKit
def sh_lays145_ren : Go.Shelf.Ren := ⟨fun | 145 => 26 | 220 => 61 | 219 => 90 | 217 => 120 | 225 => 121 | 224 => 122 | 267 => 123 | 266 => 144 | 314 => 145 | n => n, fun | 9 => 9 | 4 => 4 | 59 => 78 | 3 => 3 | 5 => 5 | 46 => 207 | 146 => 224 | 51 => 59 | n => n, fun | 1 => 2 | n => n⟩
theorem sh_lays145 : Go.Proofs.Lays.n145 Tryz.prog sh_lays145_ren := {
  mixed := by kernel_rfl
  f145 := Tryz.func26.trans (congrArg some (by kernel_rfl))
  f217 := Tryz.func120.trans (congrArg some (by kernel_rfl))
  f219 := Tryz.func90.trans (congrArg some (by kernel_rfl))
  f220 := Tryz.func61.trans (congrArg some (by kernel_rfl))
  f224 := Tryz.func122.trans (congrArg some (by kernel_rfl))
  f225 := Tryz.func121.trans (congrArg some (by kernel_rfl))
  f266 := Tryz.func144.trans (congrArg some (by kernel_rfl))
  f267 := Tryz.func123.trans (congrArg some (by kernel_rfl))
  f314 := Tryz.func145.trans (congrArg some (by kernel_rfl))
  t3 := Tryz.underlying3
  a3 := Tryz.isAgg3
  z3 := Tryz.sizeOf3
  v3 := Tryz.zeroValue3
  t4 := Tryz.underlying4
  a4 := Tryz.isAgg4
  z4 := Tryz.sizeOf4
  v4 := Tryz.zeroValue4
  t5 := Tryz.underlying5
  a5 := Tryz.isAgg5
  z5 := Tryz.sizeOf5
  v5 := Tryz.zeroValue5
  t9 := Tryz.underlying9
  a9 := Tryz.isAgg9
  z9 := Tryz.sizeOf9
  v9 := Tryz.zeroValue9
  t46 := Tryz.underlying207
  a46 := Tryz.isAgg207
  z46 := Tryz.sizeOf207
  v46 := Tryz.zeroValue207
  t51 := Tryz.underlying59
  a51 := Tryz.isAgg59
  z51 := Tryz.sizeOf59
  v51 := Tryz.zeroValue59
  t59 := Tryz.underlying78
  a59 := Tryz.isAgg78
  z59 := Tryz.sizeOf78
  v59 := Tryz.zeroValue78
  t146 := Tryz.underlying224
  a146 := Tryz.isAgg224
  z146 := Tryz.sizeOf224
  v146 := Tryz.zeroValue224
  g1 := by kernel_rfl }
theorem cut_any (s sep : ByteArray) (m : Int) (w : World) (hs : s.size < 4294967281) (hm : w.cell? ⟨2, 0, none⟩ = some (.int .i64 m)) :
    Calls Tryz.prog 26 #[.string s, .string sep] w fun e w' => e = .returned (.tuple #[.string ⟨(Lib.cut s.data.toList sep.data.toList).1.toArray⟩, .string ⟨(Lib.cut s.data.toList sep.data.toList).2.1.toArray⟩, .bool (Lib.cut s.data.toList sep.data.toList).2.2]) ∧ ∃ n, w' = w.drewN n := Any.strings_Cut sh_lays145 s sep m w hs hm
end Go.Proofs.YtcmpenmaphmifaaGreatDoor
namespace Go.Proofs.YtcmpenmaphmifaaGreatDoor
open Go.RowKit

theorem nDigits_le : ∀ (k m : Nat), m < 10 ^ (k + 1) → Lib.nDigits m ≤ k + 1
  | 0, m, h => by rw [Lib.nDigits_small (by simpa using h)]; omega
  | k + 1, m, h => by
    by_cases h9 : m < 10
    · rw [Lib.nDigits_small h9]; omega
    · rw [Lib.nDigits_big h9]
      have := nDigits_le k (m / 10) (by rw [Nat.pow_succ] at h; omega)
      omega
theorem dec_len19 {m : Nat} (h : m ≤ 9223372036854775807) : (dec m).length ≤ 19 := by
  unfold dec; rw [Lib.decDigits_length]; exact nDigits_le 18 m (by omega)
theorem dec_lead : ∀ (m : Nat), 1 ≤ m → (dec m)[0]? ≠ some 48 := by
  intro m
  induction m using Nat.strongRecOn with
  | _ m ih =>
    intro hm
    by_cases h : m < 10
    · rw [dec_small h]
      intro e
      simp only [List.getElem?_cons_zero, Option.some.injEq] at e
      have := digit_toNat h
      rw [e] at this
      simp at this
      omega
    · rw [dec_big h, List.getElem?_append_left (dec_pos _)]
      exact ih (m / 10) (by omega) (by omega)
theorem dec_step {n d : Nat} (hn : 1 ≤ n) (hd : d < 10) : dec (n * 10 + d) = dec n ++ [UInt8.ofNat (48 + d)] := by
  rw [dec_big (by omega)]
  rw [show (n * 10 + d) / 10 = n by omega, show (n * 10 + d) % 10 = d by omega]
theorem byte_back (c : UInt8) (h0 : 48 ≤ c.toNat) : UInt8.ofNat (48 + (c.toNat - 48)) = c := by
  rw [show 48 + (c.toNat - 48) = c.toNat by omega]; simp

/-- What of a text has been read so far. -/
def Got (l : List UInt8) (k n : Nat) : Prop := (k = 0 ∧ n = 0) ∨ (0 < k ∧ dec n = l.take k ∧ n < 10 ^ k)
theorem Got.step {l : List UInt8} {k n : Nat} {c : UInt8} (h : Got l k n) (hk : l[k]? = some c) (h0 : 48 ≤ c.toNat) (h9 : c.toNat ≤ 57) (hl : l.length = 1 ∨ l[0]? ≠ some 48) : Got l (k + 1) (n * 10 + (c.toNat - 48)) := by
  have hkl : k < l.length := by
    rcases Nat.lt_or_ge k l.length with h' | h'
    · exact h'
    · rw [List.getElem?_eq_none h'] at hk; cases hk
  have hc : l[k] = c := by rw [List.getElem?_eq_getElem hkl] at hk; injection hk
  rcases h with ⟨rfl, rfl⟩ | ⟨hp, hd, hb⟩
  · refine .inr ⟨by omega, ?_, by omega⟩
    rw [Nat.zero_mul, Nat.zero_add, dec_small (by omega), byte_back c h0, List.take_add_one, hk]
    rfl
  · have hn : 1 ≤ n := by
      rcases Nat.eq_zero_or_pos n with e | e
      · subst e
        exfalso
        rw [dec_small (by decide)] at hd
        have h1 : (l.take k).length = 1 := by rw [← hd]; rfl
        rw [List.length_take] at h1
        have h2 : l[0]? = some 48 := by
          have := congrArg (·[0]?) hd
          simp only [List.getElem?_take, if_pos hp] at this
          exact this.symm
        rcases hl with hl | hl
        · omega
        · exact hl h2
      · exact e
    refine .inr ⟨by omega, ?_, ?_⟩
    · rw [dec_step hn (by omega), byte_back c h0, hd, List.take_add_one, hk]
      rfl
    · rw [Nat.pow_succ]; omega
theorem Got.lt {l : List UInt8} {k n : Nat} (h : Got l k n) (hk : k ≤ 19) : n < 10000000000000000000 := by
  rcases h with ⟨rfl, rfl⟩ | ⟨_, _, hb⟩
  · decide
  · have : 10 ^ k ≤ 10 ^ 19 := Nat.pow_le_pow_right (by decide) hk
    omega
theorem Got.done {l : List UInt8} {n : Nat} (h : Got l l.length n) (hl : 1 ≤ l.length) : l = dec n := by
  rcases h with ⟨e, _⟩ | ⟨_, hd, _⟩
  · omega
  · rw [hd, List.take_length]
/-- Which number at most 'most' a text spells; false: none. -/
def NumIs (l : List UInt8) (most n : Nat) (ok : Bool) : Prop := (ok = true → n ≤ most ∧ l = dec n) ∧ (ok = false → ∀ m, m ≤ most → l ≠ dec m)
theorem NumIs.no {l : List UInt8} {most n : Nat} (h : ∀ m, m ≤ most → l ≠ dec m) : NumIs l most n false := ⟨(fun e => by cases e), fun _ => h⟩
theorem NumIs.end_ {l : List UInt8} {most n : Nat} (hm : most ≤ 9223372036854775807) (h : l = dec n) (hn : n < 10000000000000000000) : NumIs l most n (decide (n ≤ most)) := by
  refine ⟨fun e => ⟨of_decide_eq_true e, h⟩, fun e m hmm hd => ?_⟩
  have hmb : m ≤ 9223372036854775807 := Nat.le_trans hmm hm
  have hnm : ¬ n ≤ most := of_decide_eq_false e
  have e1 : Lib.parseUintM 18446744073709551615 0 (dec n) = .ok n := by
    have := parseUintM_app 18446744073709551615 (by decide) n (by omega) []
    rw [List.append_nil] at this; rw [this]; rfl
  have e2 : Lib.parseUintM 18446744073709551615 0 (dec m) = .ok m := by
    have := parseUintM_app 18446744073709551615 (by decide) m (by omega) []
    rw [List.append_nil] at this; rw [this]; rfl
  rw [← h, hd, e2] at e1
  injection e1 with e1
  omega
theorem num_empty {l : List UInt8} (h : l.length = 0) (most n : Nat) : NumIs l most n false := NumIs.no fun m _ e => by have := dec_pos m; rw [← e] at this; omega
theorem num_long {l : List UInt8} (h : 19 < l.length) {most : Nat} (hm : most ≤ 9223372036854775807) (n : Nat) : NumIs l most n false := NumIs.no fun m hmm e => by have := dec_len19 (m := m) (by omega); rw [← e] at this; omega
theorem num_lead {l : List UInt8} (h : 1 < l.length) (h0 : l[0]? = some 48) (most n : Nat) : NumIs l most n false := NumIs.no fun m hmm e => by
  rcases Nat.eq_zero_or_pos m with h' | h'
  · subst h'; rw [dec_small (by decide)] at e; rw [e] at h; simp at h
  · rw [e] at h0; exact dec_lead m h' h0
theorem num_byte {l : List UInt8} {k : Nat} {c : UInt8} (hk : l[k]? = some c) (h : c.toNat < 48 ∨ 57 < c.toNat) (most n : Nat) : NumIs l most n false := NumIs.no fun m _ e => by
  have := dec_digit m c (by rw [← e]; exact List.mem_of_getElem? hk)
  omega
end Go.Proofs.YtcmpenmaphmifaaGreatDoor
namespace Go.Proofs.YtcmpenmaphmifaaGreatDoor
open Go.RowKit

abbrev stv (a b c : Int) : Value := .agg #[.int .i64 a, .int .u32 b, .int .u32 c]

set_option maxHeartbeats 400000 in
theorem stto_any (a b c : Int) (w : World) :
    Calls Tryz.prog 55 #[.agg #[.int .i64 a, .int .u32 b, .int .u32 c]] w fun e w' => e = .returned (.agg #[.int .i64 a, .int .u32 b, .int .u32 c]) ∧ Below w.heap.size w w' := by
  go_enter Tryz.func55, Tryz.ntmps55
  go_wp2
  exact bodyPost_ret (v := .agg #[.int .i64 a, .int .u32 b, .int .u32 c]) (by simp [results, Tryz.results55, go_sem]) rfl ⟨rfl, by go_grown⟩

set_option maxHeartbeats 400000 in
theorem stfrom_any (a b c : Int) (w : World) :
    Calls Tryz.prog 60 #[.agg #[.int .i64 a, .int .u32 b, .int .u32 c]] w fun e w' => e = .returned (.agg #[.int .i64 a, .int .u32 b, .int .u32 c]) ∧ Below w.heap.size w w' := by
  go_enter Tryz.func60, Tryz.ntmps60
  go_wp2
  exact bodyPost_ret (v := .agg #[.int .i64 a, .int .u32 b, .int .u32 c]) (by simp [results, Tryz.results60, go_sem]) rfl ⟨rfl, by go_grown⟩

/-- Is a Wall right? -/
def rightB (a : Int) : Bool := decide (0 ≤ a ∧ a ≤ 4611686018427387904)

/-- How two stamps stand: -1, 0, 1. -/
def cmpS (a b c x y z : Int) : Int := if a < x then -1 else if x < a then 1 else if b < y then -1 else if y < b then 1 else if c < z then -1 else if z < c then 1 else 0
end Go.Proofs.YtcmpenmaphmifaaGreatDoor
namespace Go.Proofs.YtcmpenmaphmifaaGreatDoor
open Go.RowKit

/-- The two errors lie in their variables. -/
structure Errs (w : World) : Prop where
  s : ∃ te pe, w.cell? ⟨4, 0, none⟩ = some (.iface te pe)
  r : ∃ te pe, w.cell? ⟨5, 0, none⟩ = some (.iface te pe)
theorem Errs.below {w w' : World} (h : Errs w) (hb : Below w.heap.size w w') : Errs w' := by
  obtain ⟨⟨a, b, h1⟩, ⟨c, d, h2⟩⟩ := h
  exact ⟨⟨a, b, kept hb h1⟩, ⟨c, d, kept hb h2⟩⟩
def IntPost (w : World) (l : List UInt8) (e : Ending) (w' : World) : Prop :=
  Below w.heap.size w w' ∧ ((∃ v : Int, Lib.parseIntB 64 l = .ok v ∧ e = .returned (.tuple #[.int .i64 v, .nilIface])) ∨
    ((∀ v, Lib.parseIntB 64 l ≠ .ok v) ∧ ∃ (v : Int) (N : Nat), e = .returned (.tuple #[.int .i64 v, .iface 231 (.pointer (some ⟨N, 0, none⟩))])))
theorem parseInt_any (s : ByteArray) (w : World) (hs : s.size ≤ 281474976710656) (he : Errs w) :
    Calls Tryz.prog 96 #[.string s, .int .i64 10, .int .i64 64] w (IntPost w s.data.toList) := by
  obtain ⟨⟨te, pe, h1⟩, ⟨te', pe', h2⟩⟩ := he
  cases h : Lib.parseIntB 64 s.data.toList
  · rename_i v
    refine (Tryz.strconv_ParseInt_10_at64_ok s (by omega) v h w).mono fun e w' hh => ?_
    obtain ⟨rfl, hw⟩ := hh
    refine ⟨?_, .inl ⟨v, h, rfl⟩⟩
    rcases hw with rfl | ⟨t, rfl⟩
    · exact Below.refl _ _
    · exact Lib.bytesWorld_below _ _ _
  · refine (Tryz.strconv_ParseInt_10_at64_syntax s hs h _ w h1 (.inr ⟨te, pe, rfl⟩)).mono fun e w' hh => ?_
    obtain ⟨N, rfl, _, _, hb⟩ := hh
    exact ⟨hb, .inr ⟨(fun v hv => by rw [h] at hv; cases hv), _, N, rfl⟩⟩
  · refine (Tryz.strconv_ParseInt_10_at64_range s hs h _ w h2 (.inr ⟨te', pe', rfl⟩)).mono fun e w' hh => ?_
    obtain ⟨N, rfl, _, _, hb⟩ := hh
    exact ⟨hb, .inr ⟨(fun v hv => by rw [h] at hv; cases hv), _, N, rfl⟩⟩

/-- The call's own memory: its result's variable, its parts, its words. -/
structure PW (w : World) (x0 x1 x2 : Int) (s : Nat → ByteArray) (wr : World) : Prop where
  bl : Below w.heap.size w wr
  sz : w.heap.size + 3 ≤ wr.heap.size
  r0 : wr.cell? ⟨w.heap.size, 0, none⟩ = some (.int .i64 0)
  r1 : wr.cell? ⟨w.heap.size, 1, none⟩ = some (.int .u32 0)
  r2 : wr.cell? ⟨w.heap.size, 2, none⟩ = some (.int .u32 0)
  rf : ∀ i, wr.frozen? ⟨w.heap.size, i, none⟩ = false
  p0 : wr.cell? ⟨w.heap.size + 1, 0, none⟩ = some (.int .i64 x0)
  p1 : wr.cell? ⟨w.heap.size + 1, 1, none⟩ = some (.int .i64 x1)
  p2 : wr.cell? ⟨w.heap.size + 1, 2, none⟩ = some (.int .i64 x2)
  pf : ∀ i, wr.frozen? ⟨w.heap.size + 1, i, none⟩ = false
  c : ∀ i, i < 3 → wr.cell? ⟨w.heap.size + 2, i, none⟩ = some (.string (s i))
section
variable {w wr w' : World} {x0 x1 x2 y : Int} {s : Nat → ByteArray}
theorem PW.below (h : PW w x0 x1 x2 s wr) (hb : Below wr.heap.size wr w') : PW w x0 x1 x2 s w' := by
  have sz := h.sz
  have z := hb.size
  exact ⟨h.bl.trans (hb.mono (by omega)), by omega, kept hb h.r0, kept hb h.r1, kept hb h.r2, fun i => (hb.frozen (p := ⟨w.heap.size, i, none⟩) (by show w.heap.size < _; omega)).trans (h.rf i), kept hb h.p0, kept hb h.p1, kept hb h.p2,
    fun i => (hb.frozen (p := ⟨w.heap.size + 1, i, none⟩) (by show w.heap.size + 1 < _; omega)).trans (h.pf i), fun i hi => kept hb (h.c i hi)⟩
theorem PW.set_ (J : PW w x0 x1 x2 s wr) (i : Nat) (y : Int) : Below w.heap.size w (wr.setCell ⟨w.heap.size + 1, i, none⟩ (.int .i64 y)) ∧ w.heap.size + 3 ≤ (wr.setCell ⟨w.heap.size + 1, i, none⟩ (.int .i64 y)).heap.size ∧
    (∀ b j v, (b ≠ w.heap.size + 1 ∨ j ≠ i) → wr.cell? ⟨b, j, none⟩ = some v → (wr.setCell ⟨w.heap.size + 1, i, none⟩ (.int .i64 y)).cell? ⟨b, j, none⟩ = some v) ∧
    (∀ v, wr.cell? ⟨w.heap.size + 1, i, none⟩ = some v → (wr.setCell ⟨w.heap.size + 1, i, none⟩ (.int .i64 y)).cell? ⟨w.heap.size + 1, i, none⟩ = some (.int .i64 y)) ∧
    (∀ b j, wr.frozen? ⟨b, j, none⟩ = false → (wr.setCell ⟨w.heap.size + 1, i, none⟩ (.int .i64 y)).frozen? ⟨b, j, none⟩ = false) := by
  refine ⟨J.bl.setCell (by simp) _, by simpa using J.sz, fun b j v hne h => ?_, fun v h => ?_, fun b j h => ?_⟩
  · rw [World.cell?_setCell_other]
    · exact h
    · intro e
      injection e with e1 e2
      rcases hne with h' | h'
      · exact h' e1.symm
      · exact h' e2.symm
  · exact World.cell?_setCell_same (w := wr) (a := ⟨w.heap.size + 1, i, none⟩) (v := .int .i64 y) h
  · simpa using h
theorem PW.set0 (J : PW w x0 x1 x2 s wr) (y : Int) : PW w y x1 x2 s (wr.setCell ⟨w.heap.size + 1, 0, none⟩ (.int .i64 y)) := by
  obtain ⟨h1, h2, h3, h4, h5⟩ := J.set_ 0 y
  exact ⟨h1, h2, h3 _ _ _ (.inl (by omega)) J.r0, h3 _ _ _ (.inl (by omega)) J.r1, h3 _ _ _ (.inl (by omega)) J.r2, fun i => h5 _ _ (J.rf i), h4 _ J.p0, h3 _ _ _ (.inr (by omega)) J.p1, h3 _ _ _ (.inr (by omega)) J.p2, fun i => h5 _ _ (J.pf i), fun i hi => h3 _ _ _ (.inl (by omega)) (J.c i hi)⟩
theorem PW.set1 (J : PW w x0 x1 x2 s wr) (y : Int) : PW w x0 y x2 s (wr.setCell ⟨w.heap.size + 1, 1, none⟩ (.int .i64 y)) := by
  obtain ⟨h1, h2, h3, h4, h5⟩ := J.set_ 1 y
  exact ⟨h1, h2, h3 _ _ _ (.inl (by omega)) J.r0, h3 _ _ _ (.inl (by omega)) J.r1, h3 _ _ _ (.inl (by omega)) J.r2, fun i => h5 _ _ (J.rf i), h3 _ _ _ (.inr (by omega)) J.p0, h4 _ J.p1, h3 _ _ _ (.inr (by omega)) J.p2, fun i => h5 _ _ (J.pf i), fun i hi => h3 _ _ _ (.inl (by omega)) (J.c i hi)⟩
theorem PW.set2 (J : PW w x0 x1 x2 s wr) (y : Int) : PW w x0 x1 y s (wr.setCell ⟨w.heap.size + 1, 2, none⟩ (.int .i64 y)) := by
  obtain ⟨h1, h2, h3, h4, h5⟩ := J.set_ 2 y
  exact ⟨h1, h2, h3 _ _ _ (.inl (by omega)) J.r0, h3 _ _ _ (.inl (by omega)) J.r1, h3 _ _ _ (.inl (by omega)) J.r2, fun i => h5 _ _ (J.rf i), h3 _ _ _ (.inr (by omega)) J.p0, h3 _ _ _ (.inr (by omega)) J.p1, h4 _ J.p2, fun i => h5 _ _ (J.pf i), fun i hi => h3 _ _ _ (.inl (by omega)) (J.c i hi)⟩
end

def ParsePost (w : World) (t : List UInt8) (e : Ending) (w' : World) : Prop :=
  Below w.heap.size w w' ∧ ((∃ a b c : Nat, Reads t a b c ∧ e = .returned (.tuple #[stv a b c, .int .i64 0])) ∨ ((∀ a b c, ¬ Reads t a b c) ∧ e = .returned (.tuple #[stv 0 0 0, .int .i64 10])))
end Go.Proofs.YtcmpenmaphmifaaGreatDoor
namespace Go.Proofs.YtcmpenmaphmifaaGreatDoor
open Go.RowKit Go.BigFrame

theorem wdx0 (v0 v1 v2 v3 v4 v5 : Value) (w : World) : (Instr.index 136 (.agg #[v0, v1, v2, v3, v4, v5]) (.int .i64 0)).run Tryz.prog w = .ok v0 w := by kernel_rfl
theorem wdx1 (v0 v1 v2 v3 v4 v5 : Value) (w : World) : (Instr.index 136 (.agg #[v0, v1, v2, v3, v4, v5]) (.int .i64 1)).run Tryz.prog w = .ok v1 w := by kernel_rfl
theorem wdx2 (v0 v1 v2 v3 v4 v5 : Value) (w : World) : (Instr.index 136 (.agg #[v0, v1, v2, v3, v4, v5]) (.int .i64 2)).run Tryz.prog w = .ok v2 w := by kernel_rfl
theorem wdx3 (v0 v1 v2 v3 v4 v5 : Value) (w : World) : (Instr.index 136 (.agg #[v0, v1, v2, v3, v4, v5]) (.int .i64 3)).run Tryz.prog w = .ok v3 w := by kernel_rfl
theorem wdx4 (v0 v1 v2 v3 v4 v5 : Value) (w : World) : (Instr.index 136 (.agg #[v0, v1, v2, v3, v4, v5]) (.int .i64 4)).run Tryz.prog w = .ok v4 w := by kernel_rfl
theorem wdx5 (v0 v1 v2 v3 v4 v5 : Value) (w : World) : (Instr.index 136 (.agg #[v0, v1, v2, v3, v4, v5]) (.int .i64 5)).run Tryz.prog w = .ok v5 w := by kernel_rfl
theorem beqB (l : List UInt8) (t : ByteArray) : ((strB l).toList == t.toList) = decide (t.data.toList = l) := by
  rw [Lib.toList_data, Lib.toList_data]
  have e : (strB l).data.toList = l := ls_strB l
  rw [e]
  by_cases h : t.data.toList = l
  · rw [decide_eq_true h, h]; simp
  · rw [decide_eq_false h]
    simpa using fun e => h e.symm
set_option maxRecDepth 100000 in
set_option maxHeartbeats 3200000 in
theorem akOpOf_any (t : ByteArray) (w : World) (h : Wo w) : Calls Tryz.prog 27 #[.string t] w fun e w' => e = .returned (.tuple #[.int .i64 ((opA t.data.toList).getD 0), .bool (opA t.data.toList).isSome]) ∧ w = w' := by
  obtain ⟨u0, hu0⟩ : ∃ u, u = strB (wordQ 0) := ⟨_, rfl⟩
  have c0 : w.cell? ⟨0, 0, none⟩ = some (.string u0) := by rw [hu0]; exact h 0 (by decide)
  have j0 := wdx0
  obtain ⟨u1, hu1⟩ : ∃ u, u = strB (wordQ 1) := ⟨_, rfl⟩
  have c1 : w.cell? ⟨0, 1, none⟩ = some (.string u1) := by rw [hu1]; exact h 1 (by decide)
  have j1 := wdx1
  obtain ⟨u2, hu2⟩ : ∃ u, u = strB (wordQ 2) := ⟨_, rfl⟩
  have c2 : w.cell? ⟨0, 2, none⟩ = some (.string u2) := by rw [hu2]; exact h 2 (by decide)
  have j2 := wdx2
  obtain ⟨u3, hu3⟩ : ∃ u, u = strB (wordQ 3) := ⟨_, rfl⟩
  have c3 : w.cell? ⟨0, 3, none⟩ = some (.string u3) := by rw [hu3]; exact h 3 (by decide)
  have j3 := wdx3
  obtain ⟨u4, hu4⟩ : ∃ u, u = strB (wordQ 4) := ⟨_, rfl⟩
  have c4 : w.cell? ⟨0, 4, none⟩ = some (.string u4) := by rw [hu4]; exact h 4 (by decide)
  have j4 := wdx4
  obtain ⟨u5, hu5⟩ : ∃ u, u = strB (wordQ 5) := ⟨_, rfl⟩
  have c5 : w.cell? ⟨0, 5, none⟩ = some (.string u5) := by rw [hu5]; exact h 5 (by decide)
  have j5 := wdx5
  clear h
  by_cases h0 : t.data.toList = wordQ 0
  · have e0 : (u0.toList == t.toList) = true := by rw [hu0, beqB]; simp [h0]
    have HF : Hid (opA t.data.toList = some 0) := Lib.hid (by unfold opA; rw [if_pos h0])
    clear h0 hu0 hu1 hu2 hu3 hu4 hu5
    go_enter Tryz.func27, Tryz.ntmps27
    go_wp2
    go_rounds 8
    all_goals go_ret2
    all_goals exact ⟨by rw [HF.out]; rfl, rfl⟩
  by_cases h1 : t.data.toList = wordQ 1
  · have e0 : (u0.toList == t.toList) = false := by rw [hu0, beqB]; simp [h0]
    have e1 : (u1.toList == t.toList) = true := by rw [hu1, beqB]; simp [h1]
    have HF : Hid (opA t.data.toList = some 1) := Lib.hid (by unfold opA; rw [if_neg h0]; rw [if_pos h1])
    clear h0 h1 hu0 hu1 hu2 hu3 hu4 hu5
    go_enter Tryz.func27, Tryz.ntmps27
    go_wp2
    go_rounds 8
    all_goals go_ret2
    all_goals exact ⟨by rw [HF.out]; rfl, rfl⟩
  by_cases h2 : t.data.toList = wordQ 2
  · have e0 : (u0.toList == t.toList) = false := by rw [hu0, beqB]; simp [h0]
    have e1 : (u1.toList == t.toList) = false := by rw [hu1, beqB]; simp [h1]
    have e2 : (u2.toList == t.toList) = true := by rw [hu2, beqB]; simp [h2]
    have HF : Hid (opA t.data.toList = some 2) := Lib.hid (by unfold opA; rw [if_neg h0]; rw [if_neg h1]; rw [if_pos h2])
    clear h0 h1 h2 hu0 hu1 hu2 hu3 hu4 hu5
    go_enter Tryz.func27, Tryz.ntmps27
    go_wp2
    go_rounds 8
    all_goals go_ret2
    all_goals exact ⟨by rw [HF.out]; rfl, rfl⟩
  by_cases h3 : t.data.toList = wordQ 3
  · have e0 : (u0.toList == t.toList) = false := by rw [hu0, beqB]; simp [h0]
    have e1 : (u1.toList == t.toList) = false := by rw [hu1, beqB]; simp [h1]
    have e2 : (u2.toList == t.toList) = false := by rw [hu2, beqB]; simp [h2]
    have e3 : (u3.toList == t.toList) = true := by rw [hu3, beqB]; simp [h3]
    have HF : Hid (opA t.data.toList = some 3) := Lib.hid (by unfold opA; rw [if_neg h0]; rw [if_neg h1]; rw [if_neg h2]; rw [if_pos h3])
    clear h0 h1 h2 h3 hu0 hu1 hu2 hu3 hu4 hu5
    go_enter Tryz.func27, Tryz.ntmps27
    go_wp2
    go_rounds 8
    all_goals go_ret2
    all_goals exact ⟨by rw [HF.out]; rfl, rfl⟩
  by_cases h4 : t.data.toList = wordQ 4
  · have e0 : (u0.toList == t.toList) = false := by rw [hu0, beqB]; simp [h0]
    have e1 : (u1.toList == t.toList) = false := by rw [hu1, beqB]; simp [h1]
    have e2 : (u2.toList == t.toList) = false := by rw [hu2, beqB]; simp [h2]
    have e3 : (u3.toList == t.toList) = false := by rw [hu3, beqB]; simp [h3]
    have e4 : (u4.toList == t.toList) = true := by rw [hu4, beqB]; simp [h4]
    have HF : Hid (opA t.data.toList = some 4) := Lib.hid (by unfold opA; rw [if_neg h0]; rw [if_neg h1]; rw [if_neg h2]; rw [if_neg h3]; rw [if_pos h4])
    clear h0 h1 h2 h3 h4 hu0 hu1 hu2 hu3 hu4 hu5
    go_enter Tryz.func27, Tryz.ntmps27
    go_wp2
    go_rounds 8
    all_goals go_ret2
    all_goals exact ⟨by rw [HF.out]; rfl, rfl⟩
  by_cases h5 : t.data.toList = wordQ 5
  · have e0 : (u0.toList == t.toList) = false := by rw [hu0, beqB]; simp [h0]
    have e1 : (u1.toList == t.toList) = false := by rw [hu1, beqB]; simp [h1]
    have e2 : (u2.toList == t.toList) = false := by rw [hu2, beqB]; simp [h2]
    have e3 : (u3.toList == t.toList) = false := by rw [hu3, beqB]; simp [h3]
    have e4 : (u4.toList == t.toList) = false := by rw [hu4, beqB]; simp [h4]
    have e5 : (u5.toList == t.toList) = true := by rw [hu5, beqB]; simp [h5]
    have HF : Hid (opA t.data.toList = some 5) := Lib.hid (by unfold opA; rw [if_neg h0]; rw [if_neg h1]; rw [if_neg h2]; rw [if_neg h3]; rw [if_neg h4]; rw [if_pos h5])
    clear h0 h1 h2 h3 h4 h5 hu0 hu1 hu2 hu3 hu4 hu5
    go_enter Tryz.func27, Tryz.ntmps27
    go_wp2
    go_rounds 8
    all_goals go_ret2
    all_goals exact ⟨by rw [HF.out]; rfl, rfl⟩
  have e0 : (u0.toList == t.toList) = false := by rw [hu0, beqB]; simp [h0]
  have e1 : (u1.toList == t.toList) = false := by rw [hu1, beqB]; simp [h1]
  have e2 : (u2.toList == t.toList) = false := by rw [hu2, beqB]; simp [h2]
  have e3 : (u3.toList == t.toList) = false := by rw [hu3, beqB]; simp [h3]
  have e4 : (u4.toList == t.toList) = false := by rw [hu4, beqB]; simp [h4]
  have e5 : (u5.toList == t.toList) = false := by rw [hu5, beqB]; simp [h5]
  have HF : Hid (opA t.data.toList = none) := Lib.hid (by unfold opA; rw [if_neg h0, if_neg h1, if_neg h2, if_neg h3, if_neg h4, if_neg h5])
  clear h0 h1 h2 h3 h4 h5 hu0 hu1 hu2 hu3 hu4 hu5
  go_enter Tryz.func27, Tryz.ntmps27
  go_wp2
  go_rounds 8
  all_goals go_ret2
  all_goals exact ⟨by rw [HF.out]; rfl, rfl⟩

theorem cutPrefix_any (s p : ByteArray) (w : World) : Calls Tryz.prog 95 #[.string s, .string p] w fun e w' => e = .returned (.tuple #[.string (if Lib.hasPrefix s.data.toList p.data.toList = true then s.extract p.size s.size else s), .bool (Lib.hasPrefix s.data.toList p.data.toList)]) ∧ w = w' := by
  have H1 : Calls Tryz.prog 128 #[.string s, .string p] w fun e w' => e = .returned (.tuple #[.string (if Lib.hasPrefix s.data.toList p.data.toList = true then s.extract p.size s.size else s), .bool (Lib.hasPrefix s.data.toList p.data.toList)]) ∧ w = w' := by
    have HP := Lib.hid (Tryz.stringslite_HasPrefix s p w)
    cases hh : Lib.hasPrefix s.data.toList p.data.toList with
    | false =>
      rw [hh] at HP
      clear hh
      go_enter Tryz.func128, Tryz.ntmps128
      go_wp2_with (go_at_call 91; refine HP.out.mono ?_; rintro e w' ⟨rfl, rfl⟩)
      go_ret2
      exact ⟨rfl, rfl⟩
    | true =>
      rw [hh] at HP
      have hle : p.size ≤ s.size := by
        have := (List.isPrefixOf_iff_prefix.1 hh).length_le
        simpa using this
      clear hh
      go_enter Tryz.func128, Tryz.ntmps128
      go_wp2_with (go_at_call 91; refine HP.out.mono ?_; rintro e w' ⟨rfl, rfl⟩)
      go_ret2
      exact ⟨rfl, rfl⟩
  have HH := Lib.hid H1
  clear H1
  generalize (if Lib.hasPrefix s.data.toList p.data.toList = true then s.extract p.size s.size else s) = r at HH ⊢
  go_enter Tryz.func95, Tryz.ntmps95
  go_wp2_with (go_at_call 128; refine HH.out.mono ?_; rintro e w' ⟨rfl, rfl⟩)
  go_ret2
  exact ⟨rfl, rfl⟩
end Go.Proofs.YtcmpenmaphmifaaGreatDoor
namespace Go.Proofs.YtcmpenmaphmifaaGreatDoor
open Go.RowKit

/-- strings.IndexAny finds the first sign's place in t. -/
def IdxOk (t : ByteArray) : Prop := ∀ W, Calls Tryz.prog 92 #[.string t, .string ⟨#[61, 33, 94, 42]⟩] W fun e w' => e = .returned (.int .i64 (Lib.indexAny t.data.toList sgL)) ∧ Below W.heap.size W w'
def RulePost (w : World) (r : Rp × Nat) (e : Ending) (w' : World) : Prop :=
  e = .returned (.tuple #[.agg #[.string r.1.1, .int .i64 r.1.2.1, .string r.1.2.2], .int .i64 (r.2 : Int)]) ∧ Below w.heap.size w w'
theorem ret_rule {a b c d : ByteArray} {n m p q : Int} (h : a = b) (h2 : c = d) (h3 : n = m) (h4 : p = q) : Ending.returned (.tuple #[.agg #[.string a, .int .i64 p, .string c], .int .i64 n]) = .returned (.tuple #[.agg #[.string b, .int .i64 q, .string d], .int .i64 m]) := by rw [h, h2, h3, h4]

set_option maxRecDepth 100000 in
set_option maxHeartbeats 3200000 in
theorem parseRule_any (t : ByteArray) (w : World) (hs : t.size ≤ 4000000000) (hi : IdxOk t) (hg : Sg w) : Calls Tryz.prog 63 #[.string t] w (RulePost w (partR t.data.toList)) := by
  have hl : t.data.toList.length = t.size := by simp
  have B0 : Below w.heap.size w (w.alloc (.cells #[.string ⟨#[]⟩, .int .i64 0, .string ⟨#[]⟩] 139)) := (Below.refl _ _).alloc (Nat.le_refl _) _
  have z0 : w.heap.size ≤ (w.alloc (.cells #[.string ⟨#[]⟩, .int .i64 0, .string ⟨#[]⟩] 139)).heap.size := by simp
  have hge := Lib.indexAny_ge sgL t.data.toList
  have hlt := indexAny_lt sgL t.data.toList
  unfold IdxOk at hi
  by_cases h0 : Lib.indexAny t.data.toList sgL < 0
  · have HF : Hid (partR t.data.toList = (nilR, 0)) := Lib.hid (by unfold partR; rw [if_pos h0])
    generalize Lib.indexAny t.data.toList sgL = i at *
    obtain rfl : i = -1 := by omega
    have HI := Lib.hid hi
    clear hi hge hlt hl h0
    go_enter Tryz.func63, Tryz.ntmps63
    go_wp2_with (go_at_call 92; refine (HI.out _).mono ?_; rintro e w1 ⟨rfl, hb1⟩; have m0 : w1.cell? ⟨w.heap.size, 0, none⟩ = some (.string ⟨#[]⟩) := kept hb1 (by simp); have m1 : w1.cell? ⟨w.heap.size, 1, none⟩ = some (.int .i64 0) := kept hb1 (by simp); have m2 : w1.cell? ⟨w.heap.size, 2, none⟩ = some (.string ⟨#[]⟩) := kept hb1 (by simp); have f0 : w1.frozen? ⟨w.heap.size, 0, none⟩ = false := (hb1.frozen (p := ⟨w.heap.size, 0, none⟩) (by simp)).trans (by simp); have f1 : w1.frozen? ⟨w.heap.size, 1, none⟩ = false := (hb1.frozen (p := ⟨w.heap.size, 1, none⟩) (by simp)).trans (by simp); have f2 : w1.frozen? ⟨w.heap.size, 2, none⟩ = false := (hb1.frozen (p := ⟨w.heap.size, 2, none⟩) (by simp)).trans (by simp); have B1 := B0.trans (hb1.mono z0); clear hb1)
    exact bodyPost_ret (v := .tuple #[.agg #[.string ⟨#[]⟩, .int .i64 0, .string ⟨#[]⟩], .int .i64 0]) (by simp [results, Tryz.results63, go_sem, m0, m1, m2]) rfl ⟨by rw [HF.out]; rfl, ((B1.setCell (Nat.le_refl _) _).setCell (Nat.le_refl _) _).setCell (Nat.le_refl _) _⟩
  · have hpr : partR t.data.toList = ruleAt t.data.toList (Lib.indexAny t.data.toList sgL).toNat := by unfold partR; rw [if_neg h0]
    generalize Lib.indexAny t.data.toList sgL = i at *
    obtain ⟨k, rfl⟩ : ∃ k : Nat, i = (k : Int) := ⟨i.toNat, by omega⟩
    rw [Int.toNat_natCast] at hpr
    have hkt : k < t.size := by omega
    have hN : t.extract 0 k = ⟨(t.data.toList.take k).toArray⟩ := by
      apply ByteArray.ext
      apply Array.toList_inj.1
      simp
    have hR : (t.extract k t.size).data.toList = t.data.toList.drop k := by rw [Lib.extract_data, List.take_of_length_le (by rw [List.length_drop]; omega)]
    have ho := opOf_any (t.extract k t.size)
    rw [hR] at ho
    have hol := opR_len (t.data.toList.drop k)
    rw [List.length_drop, hl] at hol
    have hsb := sgB_len (opR (t.data.toList.drop k))
    unfold ruleAt at hpr
    generalize opR (t.data.toList.drop k) = o at *
    have hso := signOf_any o
    have hsl : (⟨(sgB o).toArray⟩ : ByteArray).size = (sgB o).length := by simp [ByteArray.size]
    generalize sgB o = sg at *
    have hU : unqB (t.extract (k + sg.length) t.size) = unqL ((t.data.toList.drop k).drop sg.length) := by
      unfold unqB
      rw [Lib.extract_data, List.drop_drop, List.take_of_length_le (by rw [List.length_drop]; omega)]
    have hu := fun W => unquote_any (t.extract (k + sg.length) t.size) W (by simp; omega)
    rw [hU] at hu
    have hul := unqL_le ((t.data.toList.drop k).drop sg.length)
    rw [List.length_drop, List.length_drop, hl] at hul
    generalize unqL ((t.data.toList.drop k).drop sg.length) = u at *
    obtain ⟨uv, un⟩ := u
    unfold UnqPost at hu
    simp only at hu hul hpr
    have hNs : (t.extract 0 k).size = k := by simp; omega
    have hmk : mkR (t.data.toList.take k) o uv = (t.extract 0 k, o, ⟨uv.toArray⟩) := by rw [hN]; rfl
    rw [hmk] at hpr
    have hvs : (⟨uv.toArray⟩ : ByteArray).size = uv.length := by simp [ByteArray.size]
    have hir := fun W => isRule_any (t.extract 0 k) ⟨uv.toArray⟩ o W (by unfold maxLen; omega) (by unfold maxLen; omega)
    generalize hgs : (⟨sg.toArray⟩ : ByteArray) = sgs at *
    have HI := Lib.hid hi
    have HO := Lib.hid ho
    have HSO := Lib.hid hso
    have HU := Lib.hid hu
    have HG := Lib.hid hg
    have HIR := Lib.hid hir
    have HPR := Lib.hid hpr
    clear hi ho hso hu hg hR hU hgs hmk hvs hir hpr hNs hge hlt h0 hl hN
    generalize sg.length = sn at *
    subst hsl
    go_enter Tryz.func63, Tryz.ntmps63
    go_upto_region 4 with (go_at_call 92; refine (HI.out _).mono ?_; rintro e w1 ⟨rfl, hb1⟩; have m0 : w1.cell? ⟨w.heap.size, 0, none⟩ = some (.string ⟨#[]⟩) := kept hb1 (by simp); have m1 : w1.cell? ⟨w.heap.size, 1, none⟩ = some (.int .i64 0) := kept hb1 (by simp); have m2 : w1.cell? ⟨w.heap.size, 2, none⟩ = some (.string ⟨#[]⟩) := kept hb1 (by simp); have f0 : w1.frozen? ⟨w.heap.size, 0, none⟩ = false := (hb1.frozen (p := ⟨w.heap.size, 0, none⟩) (by simp)).trans (by simp); have f1 : w1.frozen? ⟨w.heap.size, 1, none⟩ = false := (hb1.frozen (p := ⟨w.heap.size, 1, none⟩) (by simp)).trans (by simp); have f2 : w1.frozen? ⟨w.heap.size, 2, none⟩ = false := (hb1.frozen (p := ⟨w.heap.size, 2, none⟩) (by simp)).trans (by simp); have B1 := B0.trans (hb1.mono z0); have hz1 : w.heap.size < w1.heap.size := World.block_lt_of_cell? w1 ⟨w.heap.size, 0, none⟩ m0; have G1 := Lib.hid ((HG.out.below B0).below hb1); have G2 := Lib.hid (G1.out.below ((Below.refl w1.heap.size w1).alloc (Nat.le_refl _) (.cells #[.string ⟨#[]⟩, .int .i64 0, .string ⟨#[]⟩] 139))); clear hb1)
    go_cut [5] (fun u wx => u = .pointer (some ⟨w1.heap.size, 0, none⟩) ∧ wx = (w1.alloc (.cells #[.string (t.extract 0 k), .int .i64 o, .string ⟨#[]⟩] 139)).drew)
    case first =>
      go_wp2_with fail
      go_region_with (go_at_call 93; refine (HO.out _ (by first | exact G2.out | exact G1.out)).mono ?_; rintro e w' ⟨rfl, rfl⟩)
      all_goals
        go_wp2_with fail
        go_meet
        exact ⟨rfl, rfl⟩
    case rest =>
      obtain ⟨rfl, rfl⟩ := hcut
      obtain ⟨W2, hW2⟩ : ∃ W2, W2 = (w1.alloc (.cells #[.string (t.extract 0 k), .int .i64 o, .string ⟨#[]⟩] 139)).drew := ⟨_, rfl⟩
      rw [← hW2]
      have hz2 : w1.heap.size < W2.heap.size := by rw [hW2]; simp
      have hzz : w.heap.size < W2.heap.size := by omega
      have hzw : w.heap.size ≤ W2.heap.size := by omega
      have r0 : W2.cell? ⟨w1.heap.size, 0, none⟩ = some (.string (t.extract 0 k)) := by rw [hW2]; simp
      have r1 : W2.cell? ⟨w1.heap.size, 1, none⟩ = some (.int .i64 o) := by rw [hW2]; simp
      have r2 : W2.cell? ⟨w1.heap.size, 2, none⟩ = some (.string ⟨#[]⟩) := by rw [hW2]; simp
      have rf2 : W2.frozen? ⟨w1.heap.size, 2, none⟩ = false := by rw [hW2]; simp
      have BW : Below w1.heap.size w1 W2 := by rw [hW2]; exact ((Below.refl _ _).alloc (Nat.le_refl _) _).drew
      have p0 := kept BW m0
      have p1 := kept BW m1
      have p2 := kept BW m2
      have pf0 := (BW.frozen (p := ⟨w.heap.size, 0, none⟩) hz1).trans f0
      have pf1 := (BW.frozen (p := ⟨w.heap.size, 1, none⟩) hz1).trans f1
      have pf2 := (BW.frozen (p := ⟨w.heap.size, 2, none⟩) hz1).trans f2
      have G3 := Lib.hid (G1.out.below BW)
      have B2 : Below w.heap.size w W2 := B1.trans (BW.mono (Nat.le_of_lt hz1))
      have c1 : (0 : Int) ≤ (k : Int) + sgs.size := by omega
      have c2 : (k : Int) + sgs.size ≤ t.size := by omega
      have c3 : ((k : Int) + sgs.size).toNat = k + sgs.size := by omega
      clear hW2 BW m0 m1 m2 f0 f1 f2 G1 G2 B1
      by_cases hun : un = 0
      · have HR := Lib.hid (show partR t.data.toList = (nilR, 0) by rw [HPR.out, if_pos (.inl hun)])
        subst hun
        go_wp2_with fail
        refine (HSO.out _ G3.out).mono ?_
        rintro e w' ⟨rfl, rfl⟩
        go_wp2_with fail
        refine (HU.out _).mono ?_
        rintro e w3 ⟨rfl, hb3⟩
        have q0 : w3.cell? ⟨w.heap.size, 0, none⟩ = some (.string ⟨#[]⟩) := kept hb3 p0; have q1 : w3.cell? ⟨w.heap.size, 1, none⟩ = some (.int .i64 0) := kept hb3 p1; have q2 : w3.cell? ⟨w.heap.size, 2, none⟩ = some (.string ⟨#[]⟩) := kept hb3 p2; have n0 : w3.cell? ⟨w1.heap.size, 0, none⟩ = some (.string (t.extract 0 k)) := kept hb3 r0; have n1 : w3.cell? ⟨w1.heap.size, 1, none⟩ = some (.int .i64 o) := kept hb3 r1; have n2 : w3.cell? ⟨w1.heap.size, 2, none⟩ = some (.string ⟨#[]⟩) := kept hb3 r2; have qf0 : w3.frozen? ⟨w.heap.size, 0, none⟩ = false := (hb3.frozen (p := ⟨w.heap.size, 0, none⟩) hzz).trans pf0; have qf1 : w3.frozen? ⟨w.heap.size, 1, none⟩ = false := (hb3.frozen (p := ⟨w.heap.size, 1, none⟩) hzz).trans pf1; have qf2 : w3.frozen? ⟨w.heap.size, 2, none⟩ = false := (hb3.frozen (p := ⟨w.heap.size, 2, none⟩) hzz).trans pf2; have nf2 : w3.frozen? ⟨w1.heap.size, 2, none⟩ = false := (hb3.frozen (p := ⟨w1.heap.size, 2, none⟩) hz2).trans rf2; have hz3 := hb3.size; have B3 := B2.trans (hb3.mono hzw); clear hb3
        go_wp2_with fail
        exact bodyPost_ret (v := .tuple #[.agg #[.string ⟨#[]⟩, .int .i64 0, .string ⟨#[]⟩], .int .i64 0]) (by simp [results, Tryz.results63, go_sem, q0, q1, q2]) rfl ⟨by rw [HR.out]; rfl, (((B3.setCell (Nat.le_of_lt hz1) _).setCell (Nat.le_refl _) _).setCell (Nat.le_refl _) _).setCell (Nat.le_refl _) _⟩
      · have hun1 : ((un : Int) == 0) = false := beq_eq_false_iff_ne.2 (by omega)
        cases hr : ruleB (t.extract 0 k, o, ⟨uv.toArray⟩) with
        | false =>
          have HR := Lib.hid (show partR t.data.toList = (nilR, 0) by rw [HPR.out, if_pos (.inr hr)])
          rw [hr] at HIR
          have HIR2 := Lib.hid (fun W => HIR.out W)
          clear hr HIR hun
          go_wp2_with fail
          refine (HSO.out _ G3.out).mono ?_
          rintro e w' ⟨rfl, rfl⟩
          go_wp2_with fail
          refine (HU.out _).mono ?_
          rintro e w3 ⟨rfl, hb3⟩
          have q0 : w3.cell? ⟨w.heap.size, 0, none⟩ = some (.string ⟨#[]⟩) := kept hb3 p0; have q1 : w3.cell? ⟨w.heap.size, 1, none⟩ = some (.int .i64 0) := kept hb3 p1; have q2 : w3.cell? ⟨w.heap.size, 2, none⟩ = some (.string ⟨#[]⟩) := kept hb3 p2; have n0 : w3.cell? ⟨w1.heap.size, 0, none⟩ = some (.string (t.extract 0 k)) := kept hb3 r0; have n1 : w3.cell? ⟨w1.heap.size, 1, none⟩ = some (.int .i64 o) := kept hb3 r1; have n2 : w3.cell? ⟨w1.heap.size, 2, none⟩ = some (.string ⟨#[]⟩) := kept hb3 r2; have qf0 : w3.frozen? ⟨w.heap.size, 0, none⟩ = false := (hb3.frozen (p := ⟨w.heap.size, 0, none⟩) hzz).trans pf0; have qf1 : w3.frozen? ⟨w.heap.size, 1, none⟩ = false := (hb3.frozen (p := ⟨w.heap.size, 1, none⟩) hzz).trans pf1; have qf2 : w3.frozen? ⟨w.heap.size, 2, none⟩ = false := (hb3.frozen (p := ⟨w.heap.size, 2, none⟩) hzz).trans pf2; have nf2 : w3.frozen? ⟨w1.heap.size, 2, none⟩ = false := (hb3.frozen (p := ⟨w1.heap.size, 2, none⟩) hz2).trans rf2; have hz3 := hb3.size; have B3 := B2.trans (hb3.mono hzw); clear hb3
          go_wp2_with fail
          refine (HIR2.out _).mono ?_
          rintro e w5 ⟨rfl, hb5⟩
          have v0 : w5.cell? ⟨w.heap.size, 0, none⟩ = some (.string ⟨#[]⟩) := kept hb5 (by simp [go_sem, q0])
          have v1 : w5.cell? ⟨w.heap.size, 1, none⟩ = some (.int .i64 0) := kept hb5 (by simp [go_sem, q1])
          have v2 : w5.cell? ⟨w.heap.size, 2, none⟩ = some (.string ⟨#[]⟩) := kept hb5 (by simp [go_sem, q2])
          have vf0 : w5.frozen? ⟨w.heap.size, 0, none⟩ = false := (hb5.frozen (p := ⟨w.heap.size, 0, none⟩) (by simp; omega)).trans (by simp [go_sem, qf0])
          have vf1 : w5.frozen? ⟨w.heap.size, 1, none⟩ = false := (hb5.frozen (p := ⟨w.heap.size, 1, none⟩) (by simp; omega)).trans (by simp [go_sem, qf1])
          have vf2 : w5.frozen? ⟨w.heap.size, 2, none⟩ = false := (hb5.frozen (p := ⟨w.heap.size, 2, none⟩) (by simp; omega)).trans (by simp [go_sem, qf2])
          have B5 : Below w.heap.size w w5 := (B3.setCell (Nat.le_of_lt hz1) _).trans (hb5.mono (by simp; omega))
          clear hb5
          go_wp2_with fail
          exact bodyPost_ret (v := .tuple #[.agg #[.string ⟨#[]⟩, .int .i64 0, .string ⟨#[]⟩], .int .i64 0]) (by simp [results, Tryz.results63, go_sem, v0, v1, v2]) rfl ⟨by rw [HR.out]; rfl, ((B5.setCell (Nat.le_refl _) _).setCell (Nat.le_refl _) _).setCell (Nat.le_refl _) _⟩
        | true =>
          have HR := Lib.hid (show partR t.data.toList = ((t.extract 0 k, o, ⟨uv.toArray⟩), k + sgs.size + un) by rw [HPR.out, if_neg (by rw [hr]; simp; exact hun)])
          rw [hr] at HIR
          have HIR2 := Lib.hid (fun W => HIR.out W)
          clear hr HIR hun
          go_wp2_with fail
          refine (HSO.out _ G3.out).mono ?_
          rintro e w' ⟨rfl, rfl⟩
          go_wp2_with fail
          refine (HU.out _).mono ?_
          rintro e w3 ⟨rfl, hb3⟩
          have q0 : w3.cell? ⟨w.heap.size, 0, none⟩ = some (.string ⟨#[]⟩) := kept hb3 p0; have q1 : w3.cell? ⟨w.heap.size, 1, none⟩ = some (.int .i64 0) := kept hb3 p1; have q2 : w3.cell? ⟨w.heap.size, 2, none⟩ = some (.string ⟨#[]⟩) := kept hb3 p2; have n0 : w3.cell? ⟨w1.heap.size, 0, none⟩ = some (.string (t.extract 0 k)) := kept hb3 r0; have n1 : w3.cell? ⟨w1.heap.size, 1, none⟩ = some (.int .i64 o) := kept hb3 r1; have n2 : w3.cell? ⟨w1.heap.size, 2, none⟩ = some (.string ⟨#[]⟩) := kept hb3 r2; have qf0 : w3.frozen? ⟨w.heap.size, 0, none⟩ = false := (hb3.frozen (p := ⟨w.heap.size, 0, none⟩) hzz).trans pf0; have qf1 : w3.frozen? ⟨w.heap.size, 1, none⟩ = false := (hb3.frozen (p := ⟨w.heap.size, 1, none⟩) hzz).trans pf1; have qf2 : w3.frozen? ⟨w.heap.size, 2, none⟩ = false := (hb3.frozen (p := ⟨w.heap.size, 2, none⟩) hzz).trans pf2; have nf2 : w3.frozen? ⟨w1.heap.size, 2, none⟩ = false := (hb3.frozen (p := ⟨w1.heap.size, 2, none⟩) hz2).trans rf2; have hz3 := hb3.size; have B3 := B2.trans (hb3.mono hzw); clear hb3
          go_wp2_with fail
          refine (HIR2.out _).mono ?_
          rintro e w5 ⟨rfl, hb5⟩
          have v0 : w5.cell? ⟨w.heap.size, 0, none⟩ = some (.string ⟨#[]⟩) := kept hb5 (by simp [go_sem, q0])
          have v1 : w5.cell? ⟨w.heap.size, 1, none⟩ = some (.int .i64 0) := kept hb5 (by simp [go_sem, q1])
          have v2 : w5.cell? ⟨w.heap.size, 2, none⟩ = some (.string ⟨#[]⟩) := kept hb5 (by simp [go_sem, q2])
          have x0 : w5.cell? ⟨w1.heap.size, 0, none⟩ = some (.string (t.extract 0 k)) := kept hb5 (by simp [go_sem, n0])
          have x1 : w5.cell? ⟨w1.heap.size, 1, none⟩ = some (.int .i64 o) := kept hb5 (by simp [go_sem, n1])
          have x2 : w5.cell? ⟨w1.heap.size, 2, none⟩ = some (.string ⟨uv.toArray⟩) := kept hb5 (by simp [go_sem, n2])
          have vf0 : w5.frozen? ⟨w.heap.size, 0, none⟩ = false := (hb5.frozen (p := ⟨w.heap.size, 0, none⟩) (by simp; omega)).trans (by simp [go_sem, qf0])
          have vf1 : w5.frozen? ⟨w.heap.size, 1, none⟩ = false := (hb5.frozen (p := ⟨w.heap.size, 1, none⟩) (by simp; omega)).trans (by simp [go_sem, qf1])
          have vf2 : w5.frozen? ⟨w.heap.size, 2, none⟩ = false := (hb5.frozen (p := ⟨w.heap.size, 2, none⟩) (by simp; omega)).trans (by simp [go_sem, qf2])
          have B5 : Below w.heap.size w w5 := (B3.setCell (Nat.le_of_lt hz1) _).trans (hb5.mono (by simp; omega))
          clear hb5
          have d3 : (k : Int) + sgs.size + un ≤ t.size := by omega
          go_wp2_with fail
          exact bodyPost_ret (v := .tuple #[.agg #[.string (t.extract 0 k), .int .i64 o, .string ⟨uv.toArray⟩], .int .i64 ((k : Int) + sgs.size + un)]) (by simp [results, Tryz.results63, go_sem, v0, v1, v2]) rfl ⟨by rw [HR.out]; exact ret_rule rfl rfl (by push_cast; omega) rfl, ((B5.setCell (Nat.le_refl _) _).setCell (Nat.le_refl _) _).setCell (Nat.le_refl _) _⟩
end Go.Proofs.YtcmpenmaphmifaaGreatDoor
