/- What a nil control answers; the document's example; ViewNil's walk. -/
import Derived.Test.YtpnhdocimjkakaaPn14
import Derived.Test.YtpnhdocimjkakaaPn7
import Derived.Handy
import Derived.Test.YtpnhdocimjkakaaPn13
import Derived.Test.YtpnhdocimjkakaaPn2
namespace Go.Proofs.Ytpnhdocimjkakaa
open Go.RowKit

/-- A reader at block b with the bytes l left, and the error e. -/
structure Rd (w : World) (K b : Nat) (l : List UInt8) (e : Int) : Prop where
  out : ∃ A cap, w.cell? ⟨b, 0, none⟩ = some (.slice A l.length cap) ∧ w.cell? ⟨b, 1, none⟩ = some (.int .i64 e) ∧ w.frozen? ⟨b, 0, none⟩ = false ∧ w.frozen? ⟨b, 1, none⟩ = false ∧ Bs w K A cap l
  kb : K ≤ b
  lt : b < w.heap.size
section
variable {w w' : World} {K b : Nat} {l l' : List UInt8} {e e' : Int}
theorem Rd.below (h : Rd w K b l e) (hb : Below w.heap.size w w') : Rd w' K b l e := by
  obtain ⟨A, cap, h0, h1, f0, f1, hs⟩ := h.out
  have hlt := h.lt
  have hz := hb.size
  exact ⟨⟨A, cap, kept hb h0, kept hb h1, (hb.frozen (p := ⟨b, 0, none⟩) hlt).trans f0, (hb.frozen (p := ⟨b, 1, none⟩) hlt).trans f1, hs.keep fun p hp => hb.cell (by have := h.kb; omega)⟩, h.kb, by omega⟩
theorem Rd.alloc (h : Rd w K b l e) (o : Obj) : Rd (w.alloc o) K b l e := h.below ((Below.refl _ _).alloc (Nat.le_refl _) _)
theorem Rd.err (h : Rd w K b l e) (x : Int) : Rd (w.setCell ⟨b, 1, none⟩ (.int .i64 x)) K b l x := by
  obtain ⟨A, cap, h0, h1, f0, f1, hs⟩ := h.out
  refine ⟨⟨A, cap, (World.cell?_setCell_other _ _ _ _ (by simp)).trans h0, World.cell?_setCell_same' _ _ _ (by rw [h1]; rfl), by rw [World.frozen?_setCell]; exact f0, by rw [World.frozen?_setCell]; exact f1, hs.keep fun p hp => ?_⟩, h.kb, by simpa [World.setCell] using h.lt⟩
  exact World.cell?_setCell_other _ _ _ _ (by intro e2; have := h.kb; subst e2; simp at hp; omega)
theorem Rd.left (h : Rd w K b l e) {A : Option Addr} {cap : Nat} (hs : Bs w K A cap l') : Rd (w.setCell ⟨b, 0, none⟩ (.slice A l'.length cap)) K b l' e := by
  obtain ⟨A0, cap0, h0, h1, f0, f1, _⟩ := h.out
  refine ⟨⟨A, cap, World.cell?_setCell_same' _ _ _ (by rw [h0]; rfl), (World.cell?_setCell_other _ _ _ _ (by simp)).trans h1, by rw [World.frozen?_setCell]; exact f0, by rw [World.frozen?_setCell]; exact f1, hs.keep fun p hp => ?_⟩, h.kb, by simpa [World.setCell] using h.lt⟩
  exact World.cell?_setCell_other _ _ _ _ (by intro e2; have := h.kb; subst e2; simp at hp; omega)
end
/-- What a reader's method did: its block has turned; it is a reader with these bytes left and this error. -/
structure Rst (w : World) (K b : Nat) (l : List UInt8) (e : Int) (w' : World) : Prop where
  rd : Rd w' K b l e
  tn : Tn (· = b) w w'
theorem Rst.refl {w : World} {K b : Nat} {l : List UInt8} {e : Int} (h : Rd w K b l e) : Rst w K b l e w := ⟨h, Tn.refl _ _⟩
theorem Rst.trans {w w1 w' : World} {K b : Nat} {l l1 : List UInt8} {e e1 : Int} (h : Rst w K b l1 e1 w1) (g : Rst w1 K b l e w') : Rst w K b l e w' := ⟨g.rd, h.tn.then g.tn⟩

theorem rerr_any (K b : Nat) (l : List UInt8) (e : Int) (w : World) (h : Rd w K b l e) : Calls Try.prog 108 #[.pointer (some ⟨b, 0, none⟩)] w fun en w' => en = .returned (.int .i64 e) ∧ w = w' := by
  obtain ⟨A, cap, h0, h1, f0, f1, hs⟩ := h.out
  go_enter Try.func108, Try.ntmps108
  go_wp2
  go_ret
  exact ⟨rfl, rfl⟩
set_option maxHeartbeats 800000 in
theorem read_any (A : Option Addr) (cap : Nat) (l : List UInt8) (w : World) (hb : Bs w w.heap.size A cap l) (hsz : l.length ≤ 140737488355328) :
    Calls Try.prog 52 #[.slice A l.length cap] w fun en w' => ∃ b, en = .returned (.pointer (some ⟨b, 0, none⟩)) ∧ Rd w' b b l 0 ∧ Below w.heap.size w w' ∧ w.heap.size ≤ b := by
  have HC := Lib.hid (clone_any w.heap.size A l.length cap l w rfl hb (Nat.le_refl _) hsz)
  go_enter Try.func52, Try.ntmps52
  go_wp2_with (go_at_call 106; refine HC.out.mono ?_; rintro e w1 ⟨A', c', rfl, ho1, hb1⟩)
  go_ret
  refine ⟨w1.heap.size, rfl, ⟨⟨A', c', by simp, by simp, by simp, by simp, ho1.bs.1.alloc (Nat.le_refl _) _⟩, Nat.le_refl _, by simp⟩, hb1.alloc hb1.size _, hb1.size⟩

/-- What take gives, what is left, and the error. -/
def tkB (n : Nat) (l : List UInt8) (e : Int) : List UInt8 := if e ≠ 0 then [] else if l.length < n then [] else l.take n
def tkL (n : Nat) (l : List UInt8) (e : Int) : List UInt8 := if e ≠ 0 then l else if l.length < n then l else l.drop n
def tkE (n : Nat) (l : List UInt8) (e : Int) : Int := if e ≠ 0 then e else if l.length < n then 9 else 0
theorem Bs.none0 (w : World) (K : Nat) : Bs w K none 0 [] := ⟨Nat.le_refl _, Nat.zero_le _, fun _ => rfl, fun h => absurd h (by simp)⟩

set_option maxRecDepth 100000 in
set_option maxHeartbeats 1600000 in
theorem take_any (n : Nat) (K b : Nat) (l : List UInt8) (e : Int) (w : World) (h : Rd w K b l e) (hn : n ≤ 9223372036854775807) :
    Calls Try.prog 126 #[.pointer (some ⟨b, 0, none⟩), .int .i64 (n : Int)] w fun en w' => (∃ A c, en = .returned (.slice A (tkB n l e).length c) ∧ Bs w' K A c (tkB n l e)) ∧ Rst w K b (tkL n l e) (tkE n l e) w' := by
  have HX := Lib.hid h
  have HE := Lib.hid (rerr_any K b l e w h)
  obtain ⟨A, cap, h0, h1, f0, f1, hs⟩ := h.out
  have hle := hs.le
  have hmx := hs.max
  unfold maxLen at hmx
  unfold tkB tkL tkE
  by_cases he : e ≠ 0
  · rw [if_pos he, if_pos he, if_pos he]
    clear h hs
    go_enter Try.func126, Try.ntmps126
    go_wp2_with (go_at_call 108; refine HE.out.mono ?_; rintro en w' ⟨rfl, rfl⟩)
    go_ret
    exact ⟨⟨none, 0, rfl, Bs.none0 _ _⟩, Rst.refl HX.out⟩
  · have he0 : e = 0 := by omega
    subst he0
    rw [if_neg he, if_neg he, if_neg he]
    clear he
    by_cases hlt : l.length < n
    · rw [if_pos hlt, if_pos hlt, if_pos hlt]
      clear h hs
      go_enter Try.func126, Try.ntmps126
      go_wp2_with (go_at_call 108; refine HE.out.mono ?_; rintro en w' ⟨rfl, rfl⟩)
      go_ret
      exact ⟨⟨none, 0, rfl, Bs.none0 _ _⟩, HX.out.err 9, Tn.setCell _ _ _ _⟩
    · rw [if_neg hlt, if_neg hlt, if_neg hlt]
      have s1 := slice_to A l.length cap n (by omega) w
      have s2 := slice_from A l.length cap n (by omega) w
      have k1 := hs.cut (i := 0) (j := n) (by omega) (by omega)
      have k2 := hs.cut (i := n) (j := l.length) (by omega) (Nat.le_refl _)
      have e0 : ∀ a : Addr, a.add 0 = a := fun a => by unfold Addr.add; rw [if_pos rfl]
      have k1' : Bs w K A cap (l.take n) := by
        have e1 : (if cap = 0 then A else A.map (·.add 0)) = A := by
          split
          · rfl
          · cases A <;> simp [e0]
        rw [e1] at k1
        simpa using k1
      have k2' : Bs w K (if cap = n then A else A.map (·.add n)) (cap - n) (l.drop n) := by
        have e2 : (l.drop n).take (l.length - n) = l.drop n := List.take_of_length_le (by simp)
        rwa [e2] at k2
      have hl1 : (l.take n).length = n := by simp; omega
      have hl2 : (l.drop n).length = l.length - n := by simp
      have K1 := Lib.hid k1'
      have K2 := Lib.hid k2'
      have L1 := Lib.hid hl1
      have L2 := Lib.hid hl2
      generalize (if cap = n then A else A.map (·.add n)) = A2 at *
      clear h hs k1 k2 k1' k2' hl1 hl2 e0
      go_enter Try.func126, Try.ntmps126
      go_wp2_with (go_at_call 108; refine HE.out.mono ?_; rintro en w' ⟨rfl, rfl⟩)
      go_ret
      have hr := HX.out.left K2.out
      rw [L2.out] at hr
      refine ⟨⟨A, cap, by rw [L1.out]; rfl, K1.out.keep fun p hp => ?_⟩, hr, Tn.setCell _ _ _ _⟩
      exact World.cell?_setCell_other _ _ _ _ (by intro e2; have := HX.out.kb; subst e2; simp at hp; omega)
end Go.Proofs.Ytpnhdocimjkakaa
namespace Go.Proofs.Ytpnhdocimjkakaa
open Go.RowKit

set_option maxHeartbeats 800000 in
theorem wbytes_any (K b : Nat) (v : Value) (l : List UInt8) (w : World) (h : Wr w K b v l) (hsz : l.length ≤ 140737488355328) :
    Calls Try.prog 65 #[.pointer (some ⟨b, 0, none⟩)] w (NewBytes w l) := by
  obtain ⟨A, c, rfl⟩ := h.ob.form
  have hc0 := h.cell
  have HC := Lib.hid (clone_any w.heap.size A l.length c l w rfl h.ob.bs.1 (Nat.le_refl _) hsz)
  clear h
  go_enter Try.func65, Try.ntmps65
  go_wp2_with (go_at_call 106; refine HC.out.mono ?_; rintro e w1 ⟨A', c', rfl, ho1, hb1⟩)
  go_ret
  exact ⟨A', c', rfl, ho1, hb1⟩

/-- The cells of one number among things. -/
structure It1 (w : World) (g n : Nat) : Prop where
  c0 : w.cell? ⟨g, 0, none⟩ = some (.int .i64 0)
  c1 : w.cell? ⟨g, 1, none⟩ = some (.int .u64 (n : Int))
  c2 : w.cell? ⟨g, 2, none⟩ = some (.int .i64 0)
  c3 : w.cell? ⟨g, 3, none⟩ = some (.bool false)
  c4 : w.cell? ⟨g, 4, none⟩ = some (.string ⟨#[]⟩)
  c5 : w.cell? ⟨g, 5, none⟩ = some (.int .i64 0)
  c6 : w.cell? ⟨g, 6, none⟩ = some (.int .u32 0)
  c7 : w.cell? ⟨g, 7, none⟩ = some (.int .u32 0)
  c8 : w.cell? ⟨g, 8, none⟩ = some (.int .i64 0)
/-- Two new rows with the same bytes. -/
def Two (w : World) (l : List UInt8) (e : Ending) (w' : World) : Prop :=
  ∃ A c A' c', e = .returned (.tuple #[.slice A l.length c, .slice A' l.length c']) ∧ Ob w' w.heap.size (.slice A l.length c) l ∧ Ob w' w.heap.size (.slice A' l.length c') l ∧ Below w.heap.size w w'

end Go.Proofs.Ytpnhdocimjkakaa
namespace Go.Proofs.Ytpnhdocimjkakaa
open Go.RowKit Go.BigFrame

set_option maxHeartbeats 800000 in
theorem change_nil (p : Int) (A : Option Addr) (n cp : Nat) (w : World) : Calls Try.prog 73 #[.pointer none, .int .i64 p, .slice A n cp] w (ChNo w 2) := by
  go_enter Try.func73, Try.ntmps73
  go_wp2_with fail
  exact bodyPost_ret (v := .tuple #[.agg #[.int .i64 0, .int .i64 0, .slice none 0 0], .int .i64 2]) (by simp [results, Try.results73, go_sem]) rfl ⟨rfl, by go_grown⟩
theorem active_nil (n : Int) (w : World) : Calls Try.prog 74 #[.pointer none, .int .i64 n] w fun e w' => e = .returned (.int .i64 2) ∧ w = w' := by
  go_enter Try.func74, Try.ntmps74
  go_wp2_with fail
  go_ret
  exact ⟨rfl, rfl⟩
theorem now_nil (w : World) : Calls Try.prog 28 #[.pointer none] w fun e w' => e = .returned (.agg #[.int .i64 0, .int .i64 0, .slice none 0 0]) ∧ Below w.heap.size w w' := by
  go_enter Try.func28, Try.ntmps28
  go_wp2_with fail
  exact bodyPost_ret (v := .agg #[.int .i64 0, .int .i64 0, .slice none 0 0]) (by simp [results, Try.results28, go_sem]) rfl ⟨rfl, by go_grown⟩
theorem safe_nil (w : World) : Calls Try.prog 31 #[.pointer none] w fun e w' => e = .returned (.slice none 0 0) ∧ w = w' := by
  go_enter Try.func31, Try.ntmps31
  go_wp2_with fail
  go_ret
  exact ⟨rfl, rfl⟩

end Go.Proofs.Ytpnhdocimjkakaa
