/- Send. -/
import Derived.Test.YtakpfjamlmfbbaaPClone
import Derived.Deep.RegionLaw
namespace Go.Proofs.Ytakpfjamlmfbbaa
open Go.RowKit Go.Conc

section
variable {α : Type} {enc : α → List Value} {k : Nat} {P : Program}
/-- append of one element, at a step of a region that draws. -/
theorem step_pushE {T ST : TypeId} (hund : P.underlying ST = some (.slice T)) {z : Value} {bytes : Nat} (hinfo : (P.info? T).map (fun i => (i.zero, i.size, i.bytes)) = some (some z, k, bytes)) (hz : z.cells.size = k) (hk : 0 < k)
    {ops : Array Oper} {o : Oper} {a : Act} {W : World} {Kk : Act → World → Prop} {Q : Exit → Act → World → Prop} {E : Prop} (hgd : o.guard = none) (s x : Operand)
    (ho : o.op = .call { callee := .builtin .append, args := #[s, x], argTypes := #[ST, ST] }) (K : Nat) (v : Value) (l : List α) (hs : a.eval s = v) (hown : So enc k W K T v l)
    (e : α) (cs : Array Value) (hcs : cs.toList = enc e) (he : (enc e).length = k) (h1 : ∀ u ∈ enc e, u.oneCell' = true) (TB : TypeId) (fr : Nat × Nat) (H : Nat) (hblk : W.heap[H]? = some (.cells cs TB fr)) (hxx : a.eval x = .slice (some ⟨H, 0, none⟩) 1 1)
    (N : Nat) (hN : l.length + 1 = N) (hm : N ≤ maxLen) (hsz : N * bytes ≤ 140737488355328) (hK : K ≤ W.heap.size)
    (h : ∀ A' cap' w', So enc k w' K T (.slice A' N cap') (l ++ [e]) → W.grownBy w' v.ownBlock → OwnOr W v (.slice A' N cap') → Kk (a.put o.dst (.slice A' N cap')) w') :
    if Region.wanted o (yielded ops a.tmps) = true then Oper.wp P o a W Kk Q else E := by
  subst hN
  obtain ⟨i0, hi, hz0, hz1, hz2⟩ := info_parts hinfo
  refine step_append_lies W hgd s x ST ho K T i0 z k bytes hund hi hz0 hz1 hz2 hz hk v l.length _ hs hown ⟨H, 0, none⟩ 1 1 (enc e) hxx (by rw [he]; omega)
    (by have := World.news_of_block hblk; rwa [hcs] at this) h1 (by omega) hm hsz hK _ rfl ?_
  intro g cap w1 hown1 hgrow1 hat1 hlt1
  refine h _ _ w1 (by unfold So; rw [List.length_append, List.flatMap_append]; simpa using hown1) hgrow1 ?_
  rcases hat1 with h1 | h1
  · exact .inl (by simpa [Value.ownBlock] using h1.symm)
  · exact .inr ⟨g, rfl, by rw [h1]; exact Nat.le_refl _⟩
end

theorem keptFa {X : World} {p : Addr} {v : Value} {o : Obj} (hc : X.cell? p = some v) (h : X.frozen? p = false) : (X.alloc o).frozen? p = false :=
  ((Tn.alloc (P := fun _ => False) X o).frozen (World.block_lt_of_cell? X p hc) id).trans h
theorem keptFd {X : World} {p : Addr} (h : X.frozen? p = false) : X.drew.frozen? p = false := h
/-- What Send did. -/
def Sent (w : World) (K p ch room : Nat) (v : Value) (l : List Mg) (B : List (List UInt8)) (f t : Int) (b : List UInt8) (e : Ending) (w' : World) : Prop :=
  e = .returned (.int .i64 0) ∧ ∃ v' A c, Po w' K p ch room v' (l ++ [⟨f, t, A, b.length, c⟩]) (B ++ [b]) ∧ Tn (TP p ch v) w w' ∧ OwnOr w v v' ∧ (0 < b.length → ∀ ad : Addr, A = some ad → w.heap.size ≤ ad.block)

set_option maxRecDepth 100000 in
set_option maxHeartbeats 3200000 in
theorem send_ok (K p ch room : Nat) (v : Value) (l : List Mg) (B : List (List UInt8)) (f t : Int) (A : Option Addr) (c : Nat) (b : List UInt8) (w : World) (h : Po w K p ch room v l B) (hb : Bdy w (TP p ch v) ⟨f, t, A, b.length, c⟩ b) (hsz : b.length ≤ 1048576) (hroom : l.length < room) (hmax : room ≤ 4096) :
    Calls Try.prog 6 #[.pointer (some ⟨p, 0, none⟩), .agg #[.int .i64 f, .int .i64 t, .slice A b.length c]] w (Sent w K p ch room v l B f t b) := by
  obtain ⟨buf, s, r, hch, hbuf⟩ := h.chan
  have hp := h.lt
  have hlc := h.ltc
  have hpc := h.pc
  have hc0 := h.c0
  have hkp := h.kp
  have H := Lib.hid h
  have HBD := Lib.hid hb
  have HBUF := Lib.hid hbuf
  have HCH := Lib.hid hch
  have hnl : ¬ ((b.length : Int) > 1048576) := by omega
  clear h hb hbuf hch
  go_enter Try.func6, Try.ntmps6
  go_wp2_with (first
    | (go_at_call 12; go_loud (refine (enter_ok p ch room s r buf (w.alloc _) (keptA hc0) ((Below.heap_alloc w _ ch hlc).trans HCH.out) (by rw [HBUF.out]; exact hroom)).mono ?_; rintro e w1 ⟨rfl, hw1⟩; have t1 : Tn (· = ch) (w.alloc _) w1 := hw1 ▸ Tn.setChan _ ch room (buf.push (.agg #[])) false (s + 1) r false; have hc1 : w1.heap[ch]? = some (.chan room (buf.push (.agg #[])) false (s + 1) r false) := hw1 ▸ heap_setChan _ ch room _ false (s + 1) r false (by simp; omega); clear hw1))
    | fail)
  have hne : ¬ w.heap.size = ch := by omega
  have k1 := t1.cell (keptA H.out.c1) (fun e => hpc e)
  have k2 : w1.frozen? ⟨p, 1, none⟩ = false := (t1.frozen (p := ⟨p, 1, none⟩) (by simp; omega) (fun e => hpc e)).trans (keptFa H.out.c1 H.out.f1)
  have k3 : w1.cell? ⟨w.heap.size, 0, none⟩ = some (.int .i64 f) := t1.cell (by simp) hne
  have k4 : w1.cell? ⟨w.heap.size, 1, none⟩ = some (.int .i64 t) := t1.cell (by simp) hne
  have k5 : w1.cell? ⟨w.heap.size, 2, none⟩ = some (.slice A b.length c) := t1.cell (by simp) hne
  have z1 : w.heap.size + 1 ≤ w1.heap.size := by simpa using t1.size
  have hbd1 := (HBD.out.tn (Tn.alloc (P := fun _ => False) w _) (fun _ _ _ h => h)).tn t1 (fun hl ad e e2 => HBD.out.ok hl ad e (.inr (.inl e2)))
  have so1 := (t1.so (H.out.so.alloc _) (fun g hg e => H.out.nc (by rw [hg, e])))
  have HS1 := Lib.hid so1
  have HBD1 := Lib.hid hbd1
  have T1 := Lib.hid t1
  have C1 := Lib.hid hc1
  clear t1 hc1 so1 hbd1
  go_region_law
    (first
      | (go_simp; go_at_call 13; refine (mclone_any ⟨f, t, A, b.length, c⟩ b _ w1.drew (HBD1.out.tn (Tn.drew (P := fun _ => False) w1) (fun _ _ _ h => h)) (by omega)).mono ?_; rintro e w2 ⟨A2, c2, rfl, ho2, hb2⟩; have m1 := kept hb2 k1; have m2 : w2.frozen? ⟨p, 1, none⟩ = false := (hb2.frozen (p := ⟨p, 1, none⟩) (by show p < w1.heap.size; omega)).trans k2; have m3 := kept hb2 k3; have m4 := kept hb2 k4; have m5 := kept hb2 k5; have z2 : w1.heap.size ≤ w2.heap.size := hb2.size; have m1a := fun o => keptA (o := o) m1)
      | (refine step_pushE Try.underlying40 info_msg rfl (by decide) rfl (.tmp 21) (.tmp 24) rfl K v l rfl ((HS1.out.drew.below hb2).alloc _) ⟨f, t, A2, b.length, c2⟩ #[.int .i64 f, .int .i64 t, .slice A2 b.length c2] rfl rfl (encM_one _) 36 (0, 0) w2.heap.size (heap_alloc_new _ _) rfl (l.length + 1) rfl (by unfold maxLen; omega) (by omega) (by simp; omega) ?_; intro A3 c3 w3 so3 g3 o3; have n1 : w3.cell? ⟨p, 1, none⟩ = some v := (Tn.ofGrown g3).cell (keptA m1) (fun e => H.out.np e.symm); have n2 : w3.frozen? ⟨p, 1, none⟩ = false := ((Tn.ofGrown g3).frozen (p := ⟨p, 1, none⟩) (by simp; omega) (fun e => H.out.np e.symm)).trans (keptFa m1 m2); have nb : ¬ some w.heap.size = v.ownBlock := (fun e => by have := (H.out.so.lt _ e.symm).2; omega); have n3 : w3.cell? ⟨w.heap.size, 0, none⟩ = some (.int .i64 f) := (Tn.ofGrown g3).cell (keptA m3) nb; have n4 : w3.cell? ⟨w.heap.size, 1, none⟩ = some (.int .i64 t) := (Tn.ofGrown g3).cell (keptA m4) nb; have n5 : w3.cell? ⟨w.heap.size, 2, none⟩ = some (.slice A b.length c) := (Tn.ofGrown g3).cell (keptA m5) nb))
  all_goals
    go_wp2
    go_ret
    refine ⟨rfl, .slice A3 (l.length + 1) c3, A2, c2, ?_⟩
    have hb2' : Below w1.heap.size w1 w2 := ⟨hb2.os, hb2.tape, hb2.output, hb2.size, hb2.block⟩
    have hnew : 0 < b.length → ∀ ad : Addr, A2 = some ad → w1.heap.size ≤ ad.block := fun hl ad e => by
      obtain ⟨g, e2, hg, _⟩ := ho2.addr hl
      rw [e] at e2; cases e2; exact hg
    have hfin := (H.out.alloc (.cells #[.int .i64 f, .int .i64 t, .slice A b.length c] 36)).sent (x := ⟨f, t, A2, b.length, c2⟩) (b := b) hroom T1.out C1.out (by simp [HBUF.out])
      (hb2'.alloc (by omega) (.cells #[.int .i64 f, .int .i64 t, .slice A2 b.length c2] 36)) rfl (ho2.alloc _).bs.1 (fun hl ad e => by have := hnew hl ad e; simp; omega) so3 g3 o3
    exact ⟨hfin.1, (Tn.alloc (P := TP p ch v) w _).thenQ hfin.2.1 (fun _ _ h => h), (OwnOr.refl w v).trans (w1 := w.alloc _) hfin.2.2 (by simp), fun hl ad e => by have := hnew hl ad e; omega⟩
end Go.Proofs.Ytakpfjamlmfbbaa
