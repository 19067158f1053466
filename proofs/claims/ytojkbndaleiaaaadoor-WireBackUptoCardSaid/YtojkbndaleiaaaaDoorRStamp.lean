/- A reader's Stamp. -/
import Derived.Test.YtojkbndaleiaaaaDoorRMeth
import Derived.Test.YtojkbndaleiaaaaDoorSt
namespace Go.Proofs.YtojkbndaleiaaaaDoor
open Go.RowKit

theorem Rd.tnk {w w' : World} {K b k : Nat} {l : List UInt8} {e : Int} (h : Rd w K b l e) (t : Tn (· = k) w w') (hk : k ≠ b) (hK : K ≤ k) : Rd w' K b l e := by
  obtain ⟨A, cap, h0, h1, f0, f1, hs⟩ := h.out
  have hlt := h.lt
  exact ⟨⟨A, cap, t.cell h0 (fun e => hk e.symm), t.cell h1 (fun e => hk e.symm), (t.frozen (p := ⟨b, 0, none⟩) hlt (fun e => hk e.symm)).trans f0, (t.frozen (p := ⟨b, 1, none⟩) hlt (fun e => hk e.symm)).trans f1, hs.keep fun p hp => World.cell?_of_block (t.block _ (by have := h.kb; omega) (by show ¬ (p.block = k); omega))⟩, h.kb, Nat.lt_of_lt_of_le hlt t.size⟩
/-- The stamp, what is left, the error. -/
def sgR (l : List UInt8) (e : Int) : Int × Int × Int × Int := if e ≠ 0 then (0, 0, 0, e) else if l.length < 16 then (0, 0, 0, 9) else getB (l.take 16)
theorem tkB16 {l : List UInt8} {e : Int} (h : ¬ (e = 0 ∧ 16 ≤ l.length)) : tkB 16 l e = [] := by
  unfold tkB
  by_cases he : e = 0
  · rw [if_neg (by simp [he]), if_pos (by omega)]
  · rw [if_pos he]
theorem sgR0 {l : List UInt8} {e : Int} (h : ¬ (e = 0 ∧ 16 ≤ l.length)) : sgR l e = (0, 0, 0, tkE 16 l e) := by
  unfold sgR tkE
  by_cases he : e = 0
  · have hl : l.length < 16 := by omega
    have he2 : ¬ (e ≠ 0) := fun h => h he
    rw [if_neg he2, if_neg he2, if_pos hl, if_pos hl]
  · rw [if_pos he, if_pos he]

set_option maxRecDepth 100000 in
set_option maxHeartbeats 3200000 in
theorem rstamp_any (K b : Nat) (l : List UInt8) (e : Int) (w : World) (h : Rd w K b l e) (hw : Wid w) (hgb : 0 < b) :
    Calls Tryd.prog 20 #[.pointer (some ⟨b, 0, none⟩)] w fun en w' => en = .returned (stv (sgR l e).1 (sgR l e).2.1 (sgR l e).2.2.1) ∧ Rst w K b (tkL 16 l e) (sgR l e).2.2.2 w' := by
  have HT := Lib.hid (fun w h => take_any 16 K b l e w h (by decide))
  have HX := Lib.hid h
  have HW := Lib.hid hw
  have hlt := h.lt
  have hkb := h.kb
  clear h hw
  have hne : ¬ (w.heap.size = b) := by omega
  by_cases hc : e = 0 ∧ 16 ≤ l.length
  · obtain ⟨rfl, hl⟩ := hc
    have e1 : tkB 16 l 0 = l.take 16 := by unfold tkB; rw [if_neg (by simp), if_neg (by omega)]
    have e2 : tkE 16 l 0 = 0 := by unfold tkE; rw [if_neg (by simp), if_neg (by omega)]
    have e3 : sgR l 0 = getB (l.take 16) := by unfold sgR; rw [if_neg (by simp), if_neg (by omega)]
    have e4 : (l.take 16).length = 16 := by simp; omega
    rw [e1, e2] at HT
    rw [e3]
    generalize l.take 16 = t at *
    generalize tkL 16 l 0 = l1 at *
    have HL := Lib.hid e4
    rw [e4] at HT
    clear e1 e2 e3 hl e4
    go_enter Tryd.func20, Tryd.ntmps20
    go_wp2_with (first
      | (go_at_call 37; go_loud (refine (HT.out _ (HX.out.alloc _)).mono ?_; rintro en w2 ⟨⟨A, c, rfl, hb⟩, hr⟩; obtain ⟨ad, rfl, _⟩ := hb.some_ (by rw [HL.out]; decide); have z2 := hr.tn.size; simp at z2; have y0 : w2.cell? ⟨w.heap.size, 0, none⟩ = some (.int .i64 0) := hr.tn.cell (by simp) hne; have y1 : w2.cell? ⟨w.heap.size, 1, none⟩ = some (.int .u32 0) := hr.tn.cell (by simp) hne; have y2 : w2.cell? ⟨w.heap.size, 2, none⟩ = some (.int .u32 0) := hr.tn.cell (by simp) hne; have hyf : ∀ i, w2.frozen? ⟨w.heap.size, i, none⟩ = false := fun i => (hr.tn.frozen (p := ⟨w.heap.size, i, none⟩) (by simp) hne).trans (by simp); obtain ⟨A4, c4, g0, g1, f0, f1, _⟩ := hr.rd.out))
      | (go_at_call 39; go_loud (refine (get_full K ad c t w2 hb HL.out ⟨hr.tn.cell (keptA HW.out.c0) (fun e => by have e' : 0 = b := e; omega), hr.tn.cell (keptA HW.out.c1) (fun e => by have e' : 0 = b := e; omega), hr.tn.cell (keptA HW.out.c2) (fun e => by have e' : 0 = b := e; omega)⟩).mono ?_; rintro en w3 ⟨rfl, hb3⟩; have z3 := hb3.size; have q1 : b < w3.heap.size := (by omega); have q2 : w.heap.size < w3.heap.size := (by omega); have q3 : b ≠ w3.heap.size := (by omega); have q4 : w.heap.size ≠ w3.heap.size := (by omega); have x0 := kept hb3 y0; have x1 := kept hb3 y1; have x2 := kept hb3 y2; have g3 := kept hb3 g1; have f3 : w3.frozen? ⟨b, 1, none⟩ = false := (hb3.frozen (p := ⟨b, 1, none⟩) (by have := hr.rd.lt; exact this)).trans f1; have hxf : ∀ i, w3.frozen? ⟨w.heap.size, i, none⟩ = false := fun i => (hb3.frozen (p := ⟨w.heap.size, i, none⟩) (by show w.heap.size < _; omega)).trans (hyf i))))
    have r3 := (hr.rd.below hb3).err (getB t).2.2.2
    have hH : ∀ k, k < w.heap.size → k = w.heap.size → k = b := fun k h1 h2 => by omega
    have t0 : Tn (· = b) w w3 := ((Tn.alloc w _).then hr.tn).then (Tn.ofNew hb3)
    have u0 : (w3.setCell ⟨b, 1, none⟩ (.int .i64 (getB t).2.2.2)).cell? ⟨w.heap.size, 0, none⟩ = some (.int .i64 0) := (World.cell?_setCell_other _ _ _ _ (fun e => hne (congrArg Addr.block e).symm)).trans x0
    have u1 : (w3.setCell ⟨b, 1, none⟩ (.int .i64 (getB t).2.2.2)).cell? ⟨w.heap.size, 1, none⟩ = some (.int .u32 0) := (World.cell?_setCell_other _ _ _ _ (fun e => hne (congrArg Addr.block e).symm)).trans x1
    have u2 : (w3.setCell ⟨b, 1, none⟩ (.int .i64 (getB t).2.2.2)).cell? ⟨w.heap.size, 2, none⟩ = some (.int .u32 0) := (World.cell?_setCell_other _ _ _ _ (fun e => hne (congrArg Addr.block e).symm)).trans x2
    have hs3 := three u0 u1 u2
    have HR : Rst w K b l1 (getB t).2.2.2 (((((w3.setCell ⟨b, 1, none⟩ (.int .i64 (getB t).2.2.2)).setCell ⟨w.heap.size, 0, none⟩ (.int .i64 (getB t).1)).setCell ⟨w.heap.size, 1, none⟩ (.int .u32 (getB t).2.1)).setCell ⟨w.heap.size, 2, none⟩ (.int .u32 (getB t).2.2.1)).alloc (.cells #[.int .i64 (getB t).1, .int .u32 (getB t).2.1, .int .u32 (getB t).2.2.1] 45)) :=
      ⟨(((r3.tnk (Tn.setCell _ w.heap.size 0 _) (by omega) (by omega)).tnk (Tn.setCell _ w.heap.size 1 _) (by omega) (by omega)).tnk (Tn.setCell _ w.heap.size 2 _) (by omega) (by omega)).alloc _, ((((t0.then (Tn.setCell _ b 1 _)).thenQ (Tn.setCell _ w.heap.size 0 _) hH).thenQ (Tn.setCell _ w.heap.size 1 _) hH).thenQ (Tn.setCell _ w.heap.size 2 _) hH).then (Tn.alloc _ _)⟩
    have F0 := keptA (o := .cells #[.int .i64 (getB t).1, .int .u32 (getB t).2.1, .int .u32 (getB t).2.2.1] 45) ((World.cell?_setCell_other _ ⟨w.heap.size, 2, none⟩ ⟨w.heap.size, 0, none⟩ (.int .u32 (getB t).2.2.1) (by simp)).trans ((World.cell?_setCell_other _ ⟨w.heap.size, 1, none⟩ ⟨w.heap.size, 0, none⟩ (.int .u32 (getB t).2.1) (by simp)).trans (hs3.1 (.int .i64 (getB t).1))))
    have F1 := keptA (o := .cells #[.int .i64 (getB t).1, .int .u32 (getB t).2.1, .int .u32 (getB t).2.2.1] 45) ((World.cell?_setCell_other _ ⟨w.heap.size, 2, none⟩ ⟨w.heap.size, 1, none⟩ (.int .u32 (getB t).2.2.1) (by simp)).trans (hs3.2.1 (.int .i64 (getB t).1) (.int .u32 (getB t).2.1)))
    have F2 := keptA (o := .cells #[.int .i64 (getB t).1, .int .u32 (getB t).2.1, .int .u32 (getB t).2.2.1] 45) (hs3.2.2 (.int .i64 (getB t).1) (.int .u32 (getB t).2.1) (.int .u32 (getB t).2.2.1))
    generalize World.alloc _ _ = WF at HR F0 F1 F2 ⊢
    refine bodyPost_ret (v := stv (getB t).1 (getB t).2.1 (getB t).2.2.1) ?_ rfl ⟨rfl, HR⟩
    simp [results, Tryd.results20, go_sem, F0, F1, F2]
  · rw [tkB16 hc] at HT
    rw [sgR0 hc]
    generalize tkE 16 l e = e1 at *
    generalize tkL 16 l e = l1 at *
    go_enter Tryd.func20, Tryd.ntmps20
    go_wp2_with (go_at_call 37; go_loud (refine (HT.out _ (HX.out.alloc _)).mono ?_; rintro en w2 ⟨⟨A, c, rfl, hb⟩, hr⟩; have z2 := hr.tn.size; simp at z2; have y0 : w2.cell? ⟨w.heap.size, 0, none⟩ = some (.int .i64 0) := hr.tn.cell (by simp) hne; have y1 : w2.cell? ⟨w.heap.size, 1, none⟩ = some (.int .u32 0) := hr.tn.cell (by simp) hne; have y2 : w2.cell? ⟨w.heap.size, 2, none⟩ = some (.int .u32 0) := hr.tn.cell (by simp) hne; have hyf : ∀ i, w2.frozen? ⟨w.heap.size, i, none⟩ = false := fun i => (hr.tn.frozen (p := ⟨w.heap.size, i, none⟩) (by simp) hne).trans (by simp)))
    have hH : ∀ k, k < w.heap.size → k = w.heap.size → k = b := fun k h1 h2 => by omega
    have t0 : Tn (· = b) w w2 := (Tn.alloc w _).then hr.tn
    refine bodyPost_ret (v := stv 0 0 0) ?_ rfl ⟨rfl, ?_⟩
    · have hs3 := three y0 y1 y2
      simp [results, Tryd.results20, go_sem, hs3.1, hs3.2.1, hs3.2.2]
    · exact ⟨((hr.rd.tnk (Tn.setCell _ w.heap.size 0 _) (by omega) (by omega)).tnk (Tn.setCell _ w.heap.size 1 _) (by omega) (by omega)).tnk (Tn.setCell _ w.heap.size 2 _) (by omega) (by omega), ((t0.thenQ (Tn.setCell _ w.heap.size 0 _) hH).thenQ (Tn.setCell _ w.heap.size 1 _) hH).thenQ (Tn.setCell _ w.heap.size 2 _) hH⟩
end Go.Proofs.YtojkbndaleiaaaaDoor
