/- All: its walk. -/
import Derived.Test.YtakpfjamlmfbbaaPAll
namespace Go.Proofs.Ytakpfjamlmfbbaa
open Go.RowKit Go.Conc

abbrev bodyV (x : Mg) : Value := .slice x.A x.n x.c
/-- The first q messages of a copy have bodies of their own. -/
structure AllR (K : Nat) (wr : World) (v : Value) (l : List Mg) (B : List (List UInt8)) (q : Nat) (ms : List Mg) : Prop where
  so : So encM 3 wr K 36 v ms
  len : ms.length = l.length
  old : ∀ i, q ≤ i → ms[i]? = l[i]?
  new : ∀ (i : Nat) (x m : Mg) (b : List UInt8), i < q → ms[i]? = some x → l[i]? = some m → B[i]? = some b → x.f = m.f ∧ x.t = m.t ∧ x.n = b.length ∧ Ob wr K (bodyV x) b ∧ ∀ k, v.ownBlock = some k → (bodyV x).ownBlock ≠ some k
  lt : ∀ (i : Nat) (x : Mg), i < q → ms[i]? = some x → ∀ k, (bodyV x).ownBlock = some k → k < wr.heap.size
  dis : ∀ (i j : Nat) (x y : Mg), i < q → j < q → i ≠ j → ms[i]? = some x → ms[j]? = some y → ∀ k, (bodyV x).ownBlock = some k → (bodyV y).ownBlock ≠ some k
theorem AllR.step {K q g n cap : Nat} {wr w2 w3 : World} {l ms : List Mg} {B : List (List UInt8)} {m : Mg} {b : List UInt8} {A2 : Option Addr} {c2 : Nat} (R : AllR K wr (.slice (some ⟨g, 0, none⟩) n cap) l B q ms) (hq : q < l.length) (hm : l[q]? = some m) (hb : B[q]? = some b)
    (hK : K ≤ wr.heap.size) (hb2 : Below wr.heap.size wr w2) (ho : Ob w2 wr.heap.size (.slice A2 b.length c2) b) (t : Tn (· = g) w2 w3)
    (so : So encM 3 w3 K 36 (.slice (some ⟨g, 0, none⟩) n cap) (ms.set q ⟨m.f, m.t, A2, b.length, c2⟩)) : AllR K w3 (.slice (some ⟨g, 0, none⟩) n cap) l B (q + 1) (ms.set q ⟨m.f, m.t, A2, b.length, c2⟩) := by
  have hql : q < ms.length := by rw [R.len]; exact hq
  have z2 := hb2.size
  have z3 := t.size
  have hg : g < wr.heap.size := (R.so.lt g rfl).2
  have hnew : ∀ k, (Value.slice A2 b.length c2).ownBlock = some k → wr.heap.size ≤ k ∧ k < w2.heap.size := ho.lt
  have hat : ∀ (i : Nat) (x : Mg), i < q + 1 → (ms.set q ⟨m.f, m.t, A2, b.length, c2⟩)[i]? = some x → (i < q ∧ ms[i]? = some x) ∨ (i = q ∧ x = ⟨m.f, m.t, A2, b.length, c2⟩) := fun i x hi hx => by
    by_cases e : i = q
    · subst e
      rw [List.getElem?_set_self hql] at hx
      exact .inr ⟨rfl, (Option.some.inj hx).symm⟩
    · rw [List.getElem?_set_ne (fun e2 => e e2.symm)] at hx
      exact .inl ⟨by omega, hx⟩
  refine ⟨so, by rw [List.length_set]; exact R.len, fun i hi => ?_, fun i x m' b' hi hx hm' hb' => ?_, fun i x hi hx k hk => ?_, fun i j x y hi hj hij hx hy k hk => ?_⟩
  · rw [List.getElem?_set_ne (by omega)]
    exact R.old i (by omega)
  · rcases hat i x hi hx with ⟨h1, h2⟩ | ⟨rfl, rfl⟩
    · obtain ⟨e1, e2, e3, e4, e5⟩ := R.new i x m' b' h1 h2 hm' hb'
      exact ⟨e1, e2, e3, t.ob (e4.below hb2) (fun k hk e => e5 g rfl (by rw [hk, e])), e5⟩
    · rw [hm] at hm'
      rw [hb] at hb'
      cases hm'
      cases hb'
      refine ⟨rfl, rfl, rfl, t.ob (ho.more hK) (fun k hk e => ?_), fun k hk e => ?_⟩
      · have := hnew k hk; omega
      · have := hnew k e
        have hk' : some g = some k := hk
        injection hk' with hk'
        omega
  · rcases hat i x hi hx with ⟨h1, h2⟩ | ⟨rfl, rfl⟩
    · have := R.lt i x h1 h2 k hk; omega
    · have := hnew k hk; omega
  · rcases hat i x hi hx with ⟨h1, h2⟩ | ⟨rfl, rfl⟩
    · rcases hat j y hj hy with ⟨h3, h4⟩ | ⟨rfl, rfl⟩
      · exact R.dis i j x y h1 h3 hij h2 h4 k hk
      · intro e
        have := R.lt i x h1 h2 k hk
        have := hnew k e
        omega
    · rcases hat j y hj hy with ⟨h3, h4⟩ | ⟨rfl, rfl⟩
      · intro e
        have := R.lt j y h3 h4 k e
        have := hnew k hk
        omega
      · omega

/-- What All gives: the messages with bodies of their own. -/
def AllP (w : World) (l : List Mg) (B : List (List UInt8)) (e : Ending) (w' : World) : Prop :=
  ∃ A c ms, e = .returned (.slice A l.length c) ∧ AllR w.heap.size w' (.slice A l.length c) l B l.length ms ∧ Below w.heap.size w w'
set_option maxRecDepth 100000 in
set_option maxHeartbeats 3200000 in
theorem all_any (K p ch room : Nat) (v : Value) (l : List Mg) (B : List (List UInt8)) (w : World) (h : Po w K p ch room v l B) (hsz : ∀ b ∈ B, b.length ≤ 140737488355328) (hmax : room ≤ 4096) :
    Calls Try.prog 10 #[.pointer (some ⟨p, 0, none⟩)] w (AllP w l B) := by
  obtain ⟨vA, vc, rfl⟩ := h.form
  have hc1 := h.c1
  have hle := h.le
  have H := Lib.hid h
  have HB := Lib.hid hsz
  have HC := Lib.hid (slclone_any w.heap.size vA l.length vc l w rfl (h.so.sr encM_length).1 (Nat.le_refl _) (by omega))
  clear h hsz
  go_enter Try.func10, Try.ntmps10
  go_wp2_with (go_at_call 17; go_loud (refine HC.out.mono ?_; rintro e w1 ⟨A, c, rfl, so1, b1⟩; have z1 := b1.size))
  have HS1 := Lib.hid so1
  have HB1 := Lib.hid b1
  clear so1 b1
  go_loopw [15] (fun s wr => ∃ (q : Nat) (ms : List Mg), q ≤ l.length ∧ s = .int .i64 (q : Int) ∧ AllR w.heap.size wr (.slice A l.length c) l B q ms ∧ Below w.heap.size w wr) (fun s _ => l.length - (intOf s).toNat)
  case atStart => exact ⟨0, l, by omega, rfl, ⟨HS1.out, rfl, fun _ _ => rfl, fun i x m b hi => by omega, fun i x hi => by omega, fun i j x y hi => by omega⟩, HB1.out⟩
  case round =>
    obtain ⟨q, ms, hq, rfl, R, bW⟩ := hrel
    have zr := bW.size
    have HR := Lib.hid R
    have HBW := Lib.hid bW
    by_cases hlt : q < l.length
    · obtain ⟨g, rfl, hg1, hg2⟩ := m_addr R.so (by rw [R.len]; omega)
      have hm : l[q]? = some l[q] := List.getElem?_eq_getElem hlt
      have hbq : q < B.length := by rw [H.out.len]; exact hlt
      have hb : B[q]? = some B[q] := List.getElem?_eq_getElem hbq
      have hms : ms[q]? = some l[q] := (R.old q (Nat.le_refl _)).trans hm
      have hbs := HB.out B[q] (List.getElem_mem hbq)
      have hbd := H.out.bd q l[q] B[q] hm hb
      generalize l[q] = m at *
      generalize B[q] = b at *
      obtain ⟨s0, s1, s2, sf⟩ := m_slot R.so hms
      have hbd1 := hbd.tn (Tn.ofBelow bW) (fun hl ad e hk => by have := hbd.lt hl e; omega)
      have HBD := Lib.hid hbd1
      have hll := R.len
      have a0 : (⟨g, 0, none⟩ : Addr).add (q * 3) = ⟨g, q * 3, none⟩ := by unfold Addr.add; split <;> simp_all
      have HM := Lib.hid hm
      have HBQ := Lib.hid hb
      have hlc := (So.sr encM_length R.so).1.le
      have hmx := (So.sr encM_length R.so).1.max
      unfold maxLen at hmx
      obtain ⟨mf, mt, mA, mn, mc⟩ := m
      simp only at s0 s1 s2
      clear R bW hbd hbd1 hm hb hms
      go_wp2_with (go_at_call 13; go_loud (refine (mclone_any ⟨mf, mt, mA, mn, mc⟩ b _ _ (HBD.out.tn (Tn.alloc (P := fun _ => False) wr _) (fun _ _ _ h => h)) hbs).mono ?_; rintro e w2 ⟨A2, c2, rfl, ho2, hb2⟩; have z2 := hb2.size; simp at z2; have r0 := kept hb2 (keptA s0); have r1 := kept hb2 (keptA s1); have r2 := kept hb2 (keptA s2); have rf : ∀ o, w2.frozen? ⟨g, o, none⟩ = false := fun o => (hb2.frozen (p := ⟨g, o, none⟩) (by simp; omega)).trans (((Tn.alloc (P := fun _ => False) wr _).frozen (p := ⟨g, o, none⟩) hg2 id).trans (sf o))))
      go_roundw
      case rel => exact ⟨q + 1, ms.set q ⟨mf, mt, A2, b.length, c2⟩, by omega, rfl, HR.out.step hlt HM.out HBQ.out zr ((Tn.alloc (P := fun _ => False) wr _).thenQ (Tn.ofNew hb2) (fun _ _ h => h) |>.below (Nat.le_refl _) (fun _ _ h => h.elim)) (ho2.more (by simp)) (((Tn.setCell w2 g _ _).then (Tn.setCell _ g _ _)).then (Tn.setCell _ g _ _)) (m_set ((HR.out.so.alloc _).below hb2) (by rw [hll]) q ⟨mf, mt, A2, b.length, c2⟩), HBW.out.trans ((((Tn.alloc (P := fun k => w.heap.size ≤ k) wr _).thenQ (Tn.ofNew (P := fun _ => False) hb2) (fun _ _ h => h.elim)).thenQ (((Tn.setCell w2 g _ _).then (Tn.setCell _ g _ _)).then (Tn.setCell _ g _ _)) (fun k _ e => by omega)).below zr (fun _ _ h => h))⟩
      case measure => simp [intOf]; omega
    · have hql : q = l.length := by omega
      subst hql
      clear R bW
      go_wp2
      go_ret
      exact ⟨A, c, ms, rfl, HR.out, HBW.out⟩
end Go.Proofs.Ytakpfjamlmfbbaa
