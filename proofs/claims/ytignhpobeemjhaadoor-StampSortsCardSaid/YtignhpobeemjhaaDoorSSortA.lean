/- The law StampSorts: its walk. -/
import Derived.Test.YtignhpobeemjhaaDoorSortM
import Derived.Test.YtignhpobeemjhaaDoorLets
import Derived.Test.YtignhpobeemjhaaDoorGet
import Derived.Test.YtignhpobeemjhaaDoorStr
import Derived.Test.YtignhpobeemjhaaDoorEqStD
import Derived.Test.YtignhpobeemjhaaDoorPut
import Derived.Test.YtignhpobeemjhaaDoorTn
import Derived.Laws.IdiomStrings
namespace Go.Proofs.YtignhpobeemjhaaDoor
open Go.RowKit

theorem At3.same {w w' : World} {b : Nat} {y : Int × Int × Int} (h : At3 w b y) (e : w' = w) : At3 w' b y := e ▸ h
theorem Wid.store {w : World} {b : Nat} {y : Int × Int × Int} (h : Wid w) (hne : b ≠ 0) : Wid (store3 w b y) := by
  have ne : ∀ i j : Nat, (⟨b, i, none⟩ : Addr) ≠ ⟨0, j, none⟩ := fun i j e => hne (congrArg Addr.block e)
  exact ⟨cellO (ne _ _) (cellO (ne _ _) (cellO (ne _ _) h.c0)), cellO (ne _ _) (cellO (ne _ _) (cellO (ne _ _) h.c1)), cellO (ne _ _) (cellO (ne _ _) (cellO (ne _ _) h.c2))⟩
/-- Two boxes with stamps, the table of widths. -/
def Args2 (B p q : Nat) (w : World) (y1 y2 : Int × Int × Int) (wx : World) : Prop := At3 wx p y1 ∧ At3 wx q y2 ∧ Wid wx ∧ Below B w wx
theorem Args2.below {B p q : Nat} {w : World} {y1 y2 : Int × Int × Int} {wx w' : World} (h : Args2 B p q w y1 y2 wx) (hz : B ≤ wx.heap.size) (hb : Below wx.heap.size wx w') : Args2 B p q w y1 y2 w' :=
  ⟨h.1.below hb, h.2.1.below hb, h.2.2.1.below hb, h.2.2.2.trans (hb.mono hz)⟩
theorem Args2.store {B p q : Nat} {w : World} {y1 y2 : Int × Int × Int} {wx : World} {b : Nat} {y : Int × Int × Int} (h : Args2 B p q w y1 y2 wx) (h1 : b ≠ p) (h2 : b ≠ q) (h3 : b ≠ 0) (hb : B ≤ b) : Args2 B p q w y1 y2 (store3 wx b y) :=
  ⟨h.1.store_other h1, h.2.1.store_other h2, h.2.2.1.store h3,
    ((h.2.2.2.setCell (p := ⟨b, 0, none⟩) (by show B ≤ b; omega) _).setCell (p := ⟨b, 1, none⟩) (by show B ≤ b; omega) _).setCell (p := ⟨b, 2, none⟩) (by show B ≤ b; omega) _⟩
theorem ob16_str {w : World} {K c : Nat} {A : Option Addr} {y : Int × Int × Int} {s : ByteArray} (h : Ob w K (.slice A 16 c) (putB y.1 y.2.1 y.2.2)) (hs : s = strB (putB y.1 y.2.1 y.2.2)) : (convert 28 9 (.slice A 16 c)).run Tryd.prog w = .ok (.string s) w := by
  rw [hs]; exact bs_str h.bs.1 (putB_length _ _ _)

/-- Two strings of two stamps' bytes, in an open order: what holds of what has come up. -/
structure PJ (S : World → Prop) (K : Nat) (y1 y2 : Int × Int × Int) (s1 s2 : ByteArray) (l : Nat → Bool) (vs : Nat → Value) (w : World) : Prop where
  s : S w
  v1 : l 0 = true → vs 0 = .agg #[.int .i64 y1.1, .int .u32 y1.2.1, .int .u32 y1.2.2]
  u1 : l 1 = true → ∃ A c, vs 1 = .slice A 16 c ∧ Ob w K (.slice A 16 c) (putB y1.1 y1.2.1 y1.2.2)
  t1 : l 2 = true → vs 2 = .string s1
  z1 : l 6 = true → vs 6 = .string s1
  v2 : l 3 = true → vs 3 = .agg #[.int .i64 y2.1, .int .u32 y2.2.1, .int .u32 y2.2.2]
  u2 : l 4 = true → ∃ A c, vs 4 = .slice A 16 c ∧ Ob w K (.slice A 16 c) (putB y2.1 y2.2.1 y2.2.2)
  t2 : l 5 = true → vs 5 = .string s2
  z2 : l 7 = true → vs 7 = .string s2

variable {S : World → Prop} {K : Nat} {y1 y2 : Int × Int × Int} {s1 s2 : ByteArray} {l : Nat → Bool} {vs : Nat → Value} {w : World}
theorem PJ.load1 (J : PJ S K y1 y2 s1 s2 l vs w) {w' : World} (hb : Below w.heap.size w w') (hS : S w') : PJ S K y1 y2 s1 s2 (upd l 0 true) (upd vs 0 (.agg #[.int .i64 y1.1, .int .u32 y1.2.1, .int .u32 y1.2.2])) w' where
  s := hS
  v1 := fun _ => by rw [upd_same]
  u1 := fun h => by
    rw [upd_ne _ _ (by decide)] at h ⊢
    obtain ⟨A, c, e, ho⟩ := J.u1 h
    exact ⟨A, c, e, ho.below hb⟩
  t1 := fun h => by rw [upd_ne _ _ (by decide)] at h ⊢; exact J.t1 h
  z1 := fun h => by rw [upd_ne _ _ (by decide)] at h ⊢; exact J.z1 h
  v2 := fun h => by rw [upd_ne _ _ (by decide)] at h ⊢; exact J.v2 h
  u2 := fun h => by
    rw [upd_ne _ _ (by decide)] at h ⊢
    obtain ⟨A, c, e, ho⟩ := J.u2 h
    exact ⟨A, c, e, ho.below hb⟩
  t2 := fun h => by rw [upd_ne _ _ (by decide)] at h ⊢; exact J.t2 h
  z2 := fun h => by rw [upd_ne _ _ (by decide)] at h ⊢; exact J.z2 h
theorem PJ.put1 (J : PJ S K y1 y2 s1 s2 l vs w) {w' : World} {v : Value} (hv : ∃ A c, v = .slice A 16 c ∧ Ob w' K (.slice A 16 c) (putB y1.1 y1.2.1 y1.2.2)) (hb : Below w.heap.size w w') (hS : S w') : PJ S K y1 y2 s1 s2 (upd l 1 true) (upd vs 1 v) w' where
  s := hS
  v1 := fun h => by rw [upd_ne _ _ (by decide)] at h ⊢; exact J.v1 h
  u1 := fun _ => by rw [upd_same]; exact hv
  t1 := fun h => by rw [upd_ne _ _ (by decide)] at h ⊢; exact J.t1 h
  z1 := fun h => by rw [upd_ne _ _ (by decide)] at h ⊢; exact J.z1 h
  v2 := fun h => by rw [upd_ne _ _ (by decide)] at h ⊢; exact J.v2 h
  u2 := fun h => by
    rw [upd_ne _ _ (by decide)] at h ⊢
    obtain ⟨A, c, e, ho⟩ := J.u2 h
    exact ⟨A, c, e, ho.below hb⟩
  t2 := fun h => by rw [upd_ne _ _ (by decide)] at h ⊢; exact J.t2 h
  z2 := fun h => by rw [upd_ne _ _ (by decide)] at h ⊢; exact J.z2 h
theorem PJ.str1 (J : PJ S K y1 y2 s1 s2 l vs w) (hS : S w) : PJ S K y1 y2 s1 s2 (upd l 2 true) (upd vs 2 (.string s1)) w where
  s := hS
  v1 := fun h => by rw [upd_ne _ _ (by decide)] at h ⊢; exact J.v1 h
  u1 := fun h => by
    rw [upd_ne _ _ (by decide)] at h ⊢
    obtain ⟨A, c, e, ho⟩ := J.u1 h
    exact ⟨A, c, e, ho⟩
  t1 := fun _ => by rw [upd_same]
  z1 := fun h => by rw [upd_ne _ _ (by decide)] at h ⊢; exact J.z1 h
  v2 := fun h => by rw [upd_ne _ _ (by decide)] at h ⊢; exact J.v2 h
  u2 := fun h => by
    rw [upd_ne _ _ (by decide)] at h ⊢
    obtain ⟨A, c, e, ho⟩ := J.u2 h
    exact ⟨A, c, e, ho⟩
  t2 := fun h => by rw [upd_ne _ _ (by decide)] at h ⊢; exact J.t2 h
  z2 := fun h => by rw [upd_ne _ _ (by decide)] at h ⊢; exact J.z2 h
theorem PJ.asg1 (J : PJ S K y1 y2 s1 s2 l vs w) (hS : S w) : PJ S K y1 y2 s1 s2 (upd l 6 true) (upd vs 6 (.string s1)) w where
  s := hS
  v1 := fun h => by rw [upd_ne _ _ (by decide)] at h ⊢; exact J.v1 h
  u1 := fun h => by
    rw [upd_ne _ _ (by decide)] at h ⊢
    obtain ⟨A, c, e, ho⟩ := J.u1 h
    exact ⟨A, c, e, ho⟩
  t1 := fun h => by rw [upd_ne _ _ (by decide)] at h ⊢; exact J.t1 h
  z1 := fun _ => by rw [upd_same]
  v2 := fun h => by rw [upd_ne _ _ (by decide)] at h ⊢; exact J.v2 h
  u2 := fun h => by
    rw [upd_ne _ _ (by decide)] at h ⊢
    obtain ⟨A, c, e, ho⟩ := J.u2 h
    exact ⟨A, c, e, ho⟩
  t2 := fun h => by rw [upd_ne _ _ (by decide)] at h ⊢; exact J.t2 h
  z2 := fun h => by rw [upd_ne _ _ (by decide)] at h ⊢; exact J.z2 h
theorem PJ.load2 (J : PJ S K y1 y2 s1 s2 l vs w) {w' : World} (hb : Below w.heap.size w w') (hS : S w') : PJ S K y1 y2 s1 s2 (upd l 3 true) (upd vs 3 (.agg #[.int .i64 y2.1, .int .u32 y2.2.1, .int .u32 y2.2.2])) w' where
  s := hS
  v1 := fun h => by rw [upd_ne _ _ (by decide)] at h ⊢; exact J.v1 h
  u1 := fun h => by
    rw [upd_ne _ _ (by decide)] at h ⊢
    obtain ⟨A, c, e, ho⟩ := J.u1 h
    exact ⟨A, c, e, ho.below hb⟩
  t1 := fun h => by rw [upd_ne _ _ (by decide)] at h ⊢; exact J.t1 h
  z1 := fun h => by rw [upd_ne _ _ (by decide)] at h ⊢; exact J.z1 h
  v2 := fun _ => by rw [upd_same]
  u2 := fun h => by
    rw [upd_ne _ _ (by decide)] at h ⊢
    obtain ⟨A, c, e, ho⟩ := J.u2 h
    exact ⟨A, c, e, ho.below hb⟩
  t2 := fun h => by rw [upd_ne _ _ (by decide)] at h ⊢; exact J.t2 h
  z2 := fun h => by rw [upd_ne _ _ (by decide)] at h ⊢; exact J.z2 h
theorem PJ.put2 (J : PJ S K y1 y2 s1 s2 l vs w) {w' : World} {v : Value} (hv : ∃ A c, v = .slice A 16 c ∧ Ob w' K (.slice A 16 c) (putB y2.1 y2.2.1 y2.2.2)) (hb : Below w.heap.size w w') (hS : S w') : PJ S K y1 y2 s1 s2 (upd l 4 true) (upd vs 4 v) w' where
  s := hS
  v1 := fun h => by rw [upd_ne _ _ (by decide)] at h ⊢; exact J.v1 h
  u1 := fun h => by
    rw [upd_ne _ _ (by decide)] at h ⊢
    obtain ⟨A, c, e, ho⟩ := J.u1 h
    exact ⟨A, c, e, ho.below hb⟩
  t1 := fun h => by rw [upd_ne _ _ (by decide)] at h ⊢; exact J.t1 h
  z1 := fun h => by rw [upd_ne _ _ (by decide)] at h ⊢; exact J.z1 h
  v2 := fun h => by rw [upd_ne _ _ (by decide)] at h ⊢; exact J.v2 h
  u2 := fun _ => by rw [upd_same]; exact hv
  t2 := fun h => by rw [upd_ne _ _ (by decide)] at h ⊢; exact J.t2 h
  z2 := fun h => by rw [upd_ne _ _ (by decide)] at h ⊢; exact J.z2 h
theorem PJ.str2 (J : PJ S K y1 y2 s1 s2 l vs w) (hS : S w) : PJ S K y1 y2 s1 s2 (upd l 5 true) (upd vs 5 (.string s2)) w where
  s := hS
  v1 := fun h => by rw [upd_ne _ _ (by decide)] at h ⊢; exact J.v1 h
  u1 := fun h => by
    rw [upd_ne _ _ (by decide)] at h ⊢
    obtain ⟨A, c, e, ho⟩ := J.u1 h
    exact ⟨A, c, e, ho⟩
  t1 := fun h => by rw [upd_ne _ _ (by decide)] at h ⊢; exact J.t1 h
  z1 := fun h => by rw [upd_ne _ _ (by decide)] at h ⊢; exact J.z1 h
  v2 := fun h => by rw [upd_ne _ _ (by decide)] at h ⊢; exact J.v2 h
  u2 := fun h => by
    rw [upd_ne _ _ (by decide)] at h ⊢
    obtain ⟨A, c, e, ho⟩ := J.u2 h
    exact ⟨A, c, e, ho⟩
  t2 := fun _ => by rw [upd_same]
  z2 := fun h => by rw [upd_ne _ _ (by decide)] at h ⊢; exact J.z2 h
theorem PJ.asg2 (J : PJ S K y1 y2 s1 s2 l vs w) (hS : S w) : PJ S K y1 y2 s1 s2 (upd l 7 true) (upd vs 7 (.string s2)) w where
  s := hS
  v1 := fun h => by rw [upd_ne _ _ (by decide)] at h ⊢; exact J.v1 h
  u1 := fun h => by
    rw [upd_ne _ _ (by decide)] at h ⊢
    obtain ⟨A, c, e, ho⟩ := J.u1 h
    exact ⟨A, c, e, ho⟩
  t1 := fun h => by rw [upd_ne _ _ (by decide)] at h ⊢; exact J.t1 h
  z1 := fun h => by rw [upd_ne _ _ (by decide)] at h ⊢; exact J.z1 h
  v2 := fun h => by rw [upd_ne _ _ (by decide)] at h ⊢; exact J.v2 h
  u2 := fun h => by
    rw [upd_ne _ _ (by decide)] at h ⊢
    obtain ⟨A, c, e, ho⟩ := J.u2 h
    exact ⟨A, c, e, ho⟩
  t2 := fun h => by rw [upd_ne _ _ (by decide)] at h ⊢; exact J.t2 h
  z2 := fun _ => by rw [upd_same]

/-- '[]byte(s)': a new row with the string's bytes. -/
theorem str_bytes (w : World) (s : ByteArray) (l : List UInt8) (hs : s = strB l) (hl : l.length ≤ 1048576) :
    ∃ cap W, (convert 9 28 (.string s)).run Tryd.prog w = .ok (.slice (some ⟨w.heap.size, 0, none⟩) l.length cap) W ∧ Bs W W.heap.size (some ⟨w.heap.size, 0, none⟩) cap l ∧ Below w.heap.size w W := by
  have hsz : s.size = l.length := by rw [hs, strB_size]
  have h := run_bytes_of_string (P := Tryd.prog) w 9 28 5 s Tryd.underlying9 Tryd.underlying28 Tryd.underlying5
  have hge := grownCap_ge w s.size 0 5
  have hmx := grownCap_le_maxLen w s.size 0 5 (by rw [hsz]; unfold maxLen; omega)
  rw [hsz] at h hge hmx
  refine ⟨_, _, h, ⟨hge, hmx, (fun e => by cases e), fun _ => ⟨_, rfl, by simp, fun k c hk => ?_⟩⟩, ((Tn.drew (P := fun _ => False) w).then (Tn.alloc _ _)).below (Nat.le_refl _) (fun _ _ h => h.elim)⟩
  have hkl : k < l.length := (List.getElem?_eq_some_iff.1 hk).1
  rw [add0, cell_of_row (w.drew.alloc _) w.heap.size k _ _ _ (heap_alloc_new w.drew _)]
  subst hs
  unfold bytesRow
  rw [Array.getElem?_append_left (by simp [strB]; omega)]
  simp [strB, hk]
end Go.Proofs.YtignhpobeemjhaaDoor
