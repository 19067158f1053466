/- Copy. -/
import Derived.Test.YtakpfjamlmfbbaaPGet
namespace Go.Proofs.Ytakpfjamlmfbbaa
open Go.RowKit Go.Conc

section
variable {P Q : Nat → Prop} {w w' : World} {K p ch room : Nat} {v v' : Value} {l : List Mg} {B : List (List UInt8)}
/-- What a message more leaves, whose body lies in none of the post's blocks. -/
theorem Po.sentG {w1 w2 w3 : World} {v3 : Value} {x : Mg} {b : List UInt8} {buf : Array Value} {s r : Nat} (h : Po w K p ch room v l B) (hroom : l.length < room)
    (t1 : Tn (· = ch) w w1) (hc : w1.heap[ch]? = some (.chan room buf false s r false)) (hbuf : buf.size = l.length + 1)
    (t2 : Below w1.heap.size w1 w2) (hn : x.n = b.length) (hob : Bs w2 w2.heap.size x.A x.c b) (hok : 0 < b.length → ∀ ad : Addr, x.A = some ad → ¬ TP p ch v ad.block)
    (so3 : So encM 3 w3 K 36 v3 (l ++ [x])) (g3 : w2.grownBy w3 v.ownBlock) (o3 : OwnOr w2 v v3) :
    Po (w3.setCell ⟨p, 1, none⟩ v3) K p ch room v3 (l ++ [x]) (B ++ [b]) ∧ Tn (TP p ch v) w (w3.setCell ⟨p, 1, none⟩ v3) ∧ OwnOr w v v3 := by
  have T12 : Tn (TP p ch v) w w2 := (t1.mono (Q := TP p ch v) fun k _ e => .inr (.inl e)).thenQ (Tn.ofNew (P := fun _ => False) t2) (fun _ _ h => h.elim)
  have T13 : Tn (TP p ch v) w w3 := T12.thenQ (Tn.ofGrown g3) (fun k _ e => .inr (.inr e.symm))
  have z1 := t1.size
  have z2 := t2.size
  have z3 := g3.size
  have hp := h.lt
  have hch := h.ltc
  have oo : OwnOr w v v3 := o3.imp id fun ⟨j, e, hj⟩ => ⟨j, e, by omega⟩
  have np3 : v3.ownBlock ≠ some p := by
    rcases o3 with e | ⟨j, e, hj⟩
    · rw [e]; exact h.np
    · rw [e]; intro e2; injection e2 with e2; omega
  have nc3 : v3.ownBlock ≠ some ch := by
    rcases o3 with e | ⟨j, e, hj⟩
    · rw [e]; exact h.nc
    · rw [e]; intro e2; injection e2 with e2; omega
  have tS := Tn.setCell w3 p 1 v3
  have T : Tn (TP p ch v) w (w3.setCell ⟨p, 1, none⟩ v3) := T13.thenQ tS fun k _ e => .inl e
  have npc : ∀ k, ¬ k = p → ¬ k = ch → ¬ v.ownBlock = some k → ¬ TP p ch v k := fun k h1 h2 h3 h4 => h4.elim h1 fun h4 => h4.elim h2 h3
  have cellp : ∀ o u, w.cell? ⟨p, o, none⟩ = some u → w3.cell? ⟨p, o, none⟩ = some u := fun o u hu => by
    have c1 := t1.cell hu (fun e => h.pc e)
    have c2 := kept t2 c1
    exact (Tn.ofGrown g3).cell c2 (fun e => h.np e.symm)
  have frop : w3.frozen? ⟨p, 1, none⟩ = false := by
    have f1 := (t1.frozen (p := ⟨p, 1, none⟩) hp (fun e => h.pc e)).trans h.f1
    have f2 := (t2.frozen (p := ⟨p, 1, none⟩) (by show p < _; omega)).trans f1
    exact ((Tn.ofGrown g3).frozen (p := ⟨p, 1, none⟩) (by show p < _; omega) (fun e => h.np e.symm)).trans f2
  refine ⟨?_, T, oo⟩
  refine { c0 := ?_, c1 := ?_, f1 := ?_, chan := ⟨buf, s, r, ?_, by simp [hbuf]⟩, le := by simp; omega, so := ?_, np := np3, nc := nc3, pc := h.pc, kp := h.kp, kc := h.kc, len := by simp [h.len], bd := ?_ }
  · rw [World.cell?_setCell_other]
    · exact cellp 0 _ h.c0
    · intro e; cases e
  · exact World.cell?_setCell_same' _ _ _ (by rw [cellp 1 _ h.c1]; rfl)
  · rw [World.frozen?_setCell]; exact frop
  · have e2 : w2.heap[ch]? = w1.heap[ch]? := t2.block ch (by omega)
    have e3 : w3.heap[ch]? = w2.heap[ch]? := g3.block ch (by omega) fun e => h.nc e.symm
    exact (tS.block ch (by omega) fun e => h.pc e.symm).trans (e3.trans (e2.trans hc))
  · exact tS.so so3 fun g hg e => np3 (by rw [hg, e])
  · intro i m b' hm hB
    by_cases hi : i < l.length
    · rw [List.getElem?_append_left hi] at hm
      rw [List.getElem?_append_left (by rw [h.len]; exact hi)] at hB
      have hb := h.bd i m b' hm hB
      refine (hb.tn T hb.ok).bad fun hl ad e hbad => ?_
      have hlt := hb.lt hl e
      rcases hbad with e1 | e1 | e1
      · exact hb.ok hl ad e (.inl e1)
      · exact hb.ok hl ad e (.inr (.inl e1))
      · rcases o3 with e2 | ⟨j, e2, hj⟩
        · exact hb.ok hl ad e (.inr (.inr (e2.symm.trans e1)))
        · rw [e2] at e1; injection e1 with e1; omega
    · rw [List.getElem?_append_right (by omega)] at hm
      rw [List.getElem?_append_right (by rw [h.len]; omega), h.len] at hB
      have hi0 : i - l.length = 0 := by
        rcases Nat.eq_zero_or_pos (i - l.length) with h0 | h0
        · exact h0
        · rw [List.getElem?_eq_none (by simp; omega)] at hm; cases hm
      rw [hi0] at hm hB
      simp at hm hB
      subst hm hB
      have far : 0 < b.length → ∀ ad : Addr, x.A = some ad → ad.block < w2.heap.size := fun hl ad e => by
        obtain ⟨ad', e', hlt, _⟩ := hob.at_ hl
        rw [e] at e'; cases e'
        exact hlt
      have hb3 := (Tn.ofGrown g3).bs hob fun hl ad e e2 => hok hl ad e (.inr (.inr e2.symm))
      have hb4 := tS.bs hb3 fun hl ad e e2 => hok hl ad e (.inl e2)
      refine ⟨hn, hb4.more (by simp; omega), fun hl ad e hbad => ?_⟩
      have := far hl ad e
      rcases hbad with e1 | e1 | e1
      · exact hok hl ad e (.inl e1)
      · exact hok hl ad e (.inr (.inl e1))
      · rcases o3 with e2 | ⟨j, e2, hj⟩
        · exact hok hl ad e (.inr (.inr (e2.symm.trans e1)))
        · rw [e2] at e1; injection e1 with e1; omega
end

set_option maxHeartbeats 1600000 in
theorem copy_bad (K p ch room : Nat) (v : Value) (l : List Mg) (B : List (List UInt8)) (i : Int) (w : World) (h : Po w K p ch room v l B) (hi : i < 0 ∨ (l.length : Int) ≤ i) :
    Calls Try.prog 9 #[.pointer (some ⟨p, 0, none⟩), .int .i64 i] w fun e w' => e = .returned (.int .i64 1) ∧ w = w' := by
  have HL := Lib.hid (look_bad K p ch room v l B i w h hi)
  clear h hi
  go_enter Try.func9, Try.ntmps9
  go_wp2_with (go_at_call 16; refine HL.out.mono ?_; rintro e w' ⟨rfl, rfl⟩)
  go_ret
  exact ⟨rfl, rfl⟩
set_option maxHeartbeats 1600000 in
theorem copy_full (K p ch room : Nat) (v : Value) (l : List Mg) (B : List (List UInt8)) (i : Nat) (w : World) (h : Po w K p ch room v l B) (hi : i < l.length) (hroom : room ≤ l.length) :
    Calls Try.prog 9 #[.pointer (some ⟨p, 0, none⟩), .int .i64 (i : Int)] w fun e w' => e = .returned (.int .i64 4) ∧ w' = w := by
  obtain ⟨buf, s, r, hch, hbuf⟩ := h.chan
  have HL := Lib.hid (look_ok K p ch room v l B i w h hi)
  have HE := Lib.hid (enter_full p ch room s r buf w h.c0 hch (by rw [hbuf]; exact hroom))
  clear h hi hch hbuf
  go_enter Try.func9, Try.ntmps9
  go_wp2_with (first
    | (go_at_call 16; refine HL.out.mono ?_; rintro e w' ⟨rfl, rfl⟩)
    | (go_at_call 12; refine HE.out.mono ?_; rintro e w' ⟨rfl, rfl⟩))
  go_ret
  exact ⟨rfl, rfl⟩

def Copied (w : World) (K p ch room : Nat) (v : Value) (l : List Mg) (B : List (List UInt8)) (m : Mg) (b : List UInt8) (e : Ending) (w' : World) : Prop :=
  e = .returned (.int .i64 0) ∧ ∃ v', Po w' K p ch room v' (l ++ [m]) (B ++ [b]) ∧ Tn (TP p ch v) w w' ∧ OwnOr w v v'
set_option maxRecDepth 100000 in
set_option maxHeartbeats 3200000 in
theorem copy_ok (K p ch room : Nat) (v : Value) (l : List Mg) (B : List (List UInt8)) (i : Nat) (m : Mg) (b : List UInt8) (w : World) (h : Po w K p ch room v l B) (hi : l[i]? = some m) (hB : B[i]? = some b) (hroom : l.length < room) (hmax : room ≤ 4096) :
    Calls Try.prog 9 #[.pointer (some ⟨p, 0, none⟩), .int .i64 (i : Int)] w (Copied w K p ch room v l B m b) := by
  have hil : i < l.length := (List.getElem?_eq_some_iff.1 hi).1
  have HL := Lib.hid (look_ok K p ch room v l B i w h hil)
  obtain ⟨buf, s, r, hch, hbuf⟩ := h.chan
  have HE := Lib.hid (enter_ok p ch room s r buf w h.c0 hch (by rw [hbuf]; exact hroom))
  obtain ⟨vA, vc, rfl⟩ := h.form
  have hp := h.lt
  have hlc := h.ltc
  have hpc := h.pc
  have hkp := h.kp
  have hbd := h.bd i m b hi hB
  have H := Lib.hid h
  have HBD := Lib.hid hbd
  have HBUF := Lib.hid hbuf
  have hm : l[i] = m := by rw [List.getElem?_eq_getElem hil] at hi; exact Option.some.inj hi
  have HMM := Lib.hid hm
  clear h hbd hbuf hi hm
  go_enter Try.func9, Try.ntmps9
  go_wp2_with (first
    | (go_at_call 16; refine HL.out.mono ?_; rintro e w' ⟨rfl, rfl⟩)
    | (go_at_call 12; go_loud (refine HE.out.mono ?_; rintro e w1 ⟨rfl, hw1⟩; have t1 : Tn (· = ch) w w1 := hw1 ▸ Tn.setChan _ ch room (buf.push (.agg #[])) false (s + 1) r false; have hc1 : w1.heap[ch]? = some (.chan room (buf.push (.agg #[])) false (s + 1) r false) := hw1 ▸ heap_setChan _ ch room _ false (s + 1) r false hlc; clear hw1)))
  have k1 := t1.cell H.out.c1 (fun e => hpc e)
  have k2 : w1.frozen? ⟨p, 1, none⟩ = false := (t1.frozen (p := ⟨p, 1, none⟩) hp (fun e => hpc e)).trans H.out.f1
  have so1 := (t1.so H.out.so (fun g hg e => H.out.nc (by rw [hg, e])))
  have z1 := t1.size
  have hsr := so1.sr encM_length
  obtain ⟨ad, rfl, hadb, ha0, ha1⟩ := hsr.1.get2 hil
  rw [HMM.out] at ha0 ha1
  have q0 := ha0 _ rfl
  have q1 := ha1 1 _ (by omega) rfl
  have q2 := ha1 2 _ (by omega) rfl
  have hle := hsr.1.le
  have hmax2 := hsr.1.max
  unfold maxLen at hmax2
  have hbd1 := HBD.out.tn t1 (fun hl ad e e2 => HBD.out.ok hl ad e (.inr (.inl e2)))
  obtain ⟨mf, mt, mA, mn, mc⟩ := m
  have k1a := fun o => keptA (o := o) k1
  have k2a := fun o => keptFa (o := o) k1 k2
  have HS1 := Lib.hid so1
  have HBD1 := Lib.hid hbd1
  have T1 := Lib.hid t1
  have C1 := Lib.hid hc1
  clear t1 hc1 so1 hbd1 hsr ha0 ha1
  go_region_law
    (first
      | (refine step_pushE Try.underlying40 info_msg rfl (by decide) rfl (.tmp 19) (.tmp 27) rfl K (.slice (some ad) l.length vc) l rfl (show So encM 3 (w1.alloc _).drew K _ _ l from HS1.out.alloc _) ⟨mf, mt, mA, mn, mc⟩ #[.int .i64 mf, .int .i64 mt, .slice mA mn mc] rfl rfl (encM_one _) 36 (0, 0) w1.heap.size (heap_alloc_new w1 _) rfl (l.length + 1) rfl (by unfold maxLen; omega) (by omega) (by show K ≤ (w1.alloc _).heap.size; simp; omega) ?_; intro A3 c3 w3 so3 g3 o3; have n1 : w3.cell? ⟨p, 1, none⟩ = some (.slice (some ad) l.length vc) := (Tn.ofGrown g3).cell (show (w1.alloc _).drew.cell? ⟨p, 1, none⟩ = _ from keptA k1) (fun e => H.out.np e.symm); have n2 : w3.frozen? ⟨p, 1, none⟩ = false := ((Tn.ofGrown g3).frozen (p := ⟨p, 1, none⟩) (by show p < (w1.alloc _).heap.size; simp; omega) (fun e => H.out.np e.symm)).trans (show (w1.alloc _).drew.frozen? ⟨p, 1, none⟩ = false from keptFa k1 k2)))
  all_goals
    go_wp2
    go_ret
    have hb2 : Below w1.heap.size w1 (w1.alloc (.cells #[.int .i64 mf, .int .i64 mt, .slice mA mn mc] 36)).drew := ((Tn.alloc (P := fun _ => False) w1 _).then (Tn.drew _)).below (Nat.le_refl _) (fun _ _ h => h.elim)
    have hbs : Bs (w1.alloc (.cells #[.int .i64 mf, .int .i64 mt, .slice mA mn mc] 36)).drew (w1.alloc (.cells #[.int .i64 mf, .int .i64 mt, .slice mA mn mc] 36)).drew.heap.size mA mc b := ((HBD1.out.bs.alloc (Nat.le_refl _) _).more (by simp)).drew
    exact ⟨rfl, .slice A3 (l.length + 1) c3, H.out.sentG (x := ⟨mf, mt, mA, mn, mc⟩) (b := b) hroom T1.out C1.out (by simp [HBUF.out]) hb2 HBD.out.n hbs HBD.out.ok so3 g3 o3⟩
end Go.Proofs.Ytakpfjamlmfbbaa
