/- A view that is taken off: the program's Get and the document's. -/
import Derived.Test.YtpnhdocimjkakaaPn23
import Derived.Test.YtpnhdocimjkakaaPn12
import Derived.Deep.RegionLaw
namespace Go.Proofs.Ytpnhdocimjkakaa
open Go.RowKit Go.BigFrame

variable {K9 : Nat}

theorem nu_same {x l : List UInt8} {e : Int} (h : e = 0 → x = l) : (nuR x e).1 = (nuR l e).1 ∧ (nuR x e).2.2 = (nuR l e).2.2 ∧ ((nuR x e).2.2 = 0 → (nuR x e).2.1 = (nuR l e).2.1) := by
  by_cases he : e = 0
  · rw [h he]; exact ⟨rfl, rfl, fun _ => rfl⟩
  · rw [nuR_err he, nuR_err he]; exact ⟨rfl, rfl, fun h => absurd h he⟩
theorem cn_same {x l : List UInt8} {e : Int} (h : e = 0 → x = l) : (cnR 8 x e).1 = (cnR 8 l e).1 ∧ (cnR 8 x e).2.2 = (cnR 8 l e).2.2 ∧ ((cnR 8 x e).2.2 = 0 → (cnR 8 x e).2.1 = (cnR 8 l e).2.1) := by
  by_cases he : e = 0
  · rw [h he]; exact ⟨rfl, rfl, fun _ => rfl⟩
  · unfold cnR
    rw [nuR_err he, nuR_err he]
    simp only
    rw [if_pos he, if_pos he]
    exact ⟨rfl, rfl, fun h => absurd h he⟩
/-- The document's reader, by what is left where there is no error. -/
structure Mx (K9 : Nat) (w : World) (b : Nat) (B : List UInt8) (l : List UInt8) (e : Int) : Prop where
  ex : ∃ a, Mr K9 w b B a e ∧ (e = 0 → B.drop a = l)
section
variable {w w' : World} {b : Nat} {B l : List UInt8} {e : Int}
theorem Mx.below (h : Mx K9 w b B l e) (hb : Below w.heap.size w w') : Mx K9 w' b B l e := by
  obtain ⟨a, hr, hd⟩ := h.ex
  exact ⟨a, hr.below hb, hd⟩
theorem Mx.tn {P : Nat → Prop} (h : Mx K9 w b B l e) (t : Tn P w w') (hb : ∀ k, k ≤ b → ¬ P k) : Mx K9 w' b B l e := by
  obtain ⟨a, hr, hd⟩ := h.ex
  exact ⟨a, hr.tn t hb, hd⟩
theorem Mx.tnK {P : Nat → Prop} (h : Mx K9 w b B l e) (t : Tn P w w') (hb : ¬ P b) (hk9 : ∀ k, k < K9 → ¬ P k) : Mx K9 w' b B l e := by
  obtain ⟨a, hr, hd⟩ := h.ex
  exact ⟨a, hr.tnK t hb hk9, hd⟩
theorem Mx.lt (h : Mx K9 w b B l e) : b < w.heap.size := by
  obtain ⟨a, hr, hd⟩ := h.ex
  exact hr.lt
theorem Mx.c2 (h : Mx K9 w b B l e) : w.cell? ⟨b, 2, none⟩ = some (.int .i64 e) := by
  obtain ⟨a, hr, hd⟩ := h.ex
  exact hr.c2
/-- What is left, the error, and that the reader's block alone has turned. -/
structure Mg (K9 : Nat) (w : World) (b : Nat) (B l : List UInt8) (e : Int) (w' : World) : Prop where
  mx : Mx K9 w' b B l e
  tn : Tn (· = b) w w'
def MgI (K9 : Nat) (w : World) (b : Nat) (B l : List UInt8) (e : Int) (en : Ending) (w' : World) : Prop := en = .returned (.int .i64 (unzz (nuR l e).1)) ∧ Mg K9 w b B (nuR l e).2.1 (nuR l e).2.2 w'
theorem Mx.int (h : Mx K9 w b B l e) : Calls Try.prog 57 #[.pointer (some ⟨b, 0, none⟩)] w (MgI K9 w b B l e) := by
  obtain ⟨a, hr, hd⟩ := h.ex
  refine (mint_any2 b a B e w hr).mono ?_
  rintro en w' ⟨rfl, ⟨a', hr', hd'⟩, t⟩
  obtain ⟨s1, s2, s3⟩ := nu_same hd
  exact ⟨by rw [s1], ⟨a', by rw [← s2]; exact hr', fun e0 => by rw [← s2] at e0; rw [hd' e0, s3 e0]⟩, t⟩
def MgC (K9 : Nat) (w : World) (b : Nat) (B l : List UInt8) (e : Int) (en : Ending) (w' : World) : Prop := en = .returned (.int .i64 ((cnR 8 l e).1 : Int)) ∧ Mg K9 w b B (cnR 8 l e).2.1 (cnR 8 l e).2.2 w'
theorem Mx.count (h : Mx K9 w b B l e) : Calls Try.prog 110 #[.pointer (some ⟨b, 0, none⟩), .int .i64 8] w (MgC K9 w b B l e) := by
  obtain ⟨a, hr, hd⟩ := h.ex
  refine (mcount_any2 b a B e w hr).mono ?_
  rintro en w' ⟨rfl, ⟨a', hr', hd'⟩, t⟩
  obtain ⟨s1, s2, s3⟩ := cn_same hd
  exact ⟨by rw [s1], ⟨a', by rw [← s2]; exact hr', fun e0 => by rw [← s2] at e0; rw [hd' e0, s3 e0]⟩, t⟩
def MgE (w : World) (b : Nat) (l : List UInt8) (e : Int) (en : Ending) (w' : World) : Prop := en = .returned (.int .i64 (if e = 0 ∧ 0 < l.length then 10 else e)) ∧ Tn (· = b) w w'
theorem Mx.end_ (h : Mx K9 w b B l e) : Calls Try.prog 60 #[.pointer (some ⟨b, 0, none⟩)] w (MgE w b l e) := by
  obtain ⟨a, hr, hd⟩ := h.ex
  refine (mend_any2 b a B e w hr).mono ?_
  rintro en w' ⟨rfl, t⟩
  refine ⟨?_, t⟩
  by_cases he : e = 0
  · have h9 := hd he
    have h8 := hr.le
    have : 0 < l.length ↔ a < B.length := by rw [← h9, List.length_drop]; omega
    simp only [this]
  · rw [if_neg (fun h => he h.1), if_neg (fun h => he h.1)]
end
theorem Tn.thenNew9 {P Q : Nat → Prop} {w w1 w2 : World} (h : Tn P w w1) (h2 : Tn Q w1 w2) (hQ : ∀ k, k < w.heap.size → ¬ Q k) : Tn P w w2 := h.thenQ h2 fun k hk q => absurd q (hQ k hk)
/-- What is read in so many rounds. -/
def rdJ : Nat → List UInt8 → Int → List Int × List UInt8 × Int
  | 0, l, e => ([], l, e)
  | j + 1, l, e => ((rdJ j l e).1 ++ [unzz (nuR (rdJ j l e).2.1 (rdJ j l e).2.2).1], (nuR (rdJ j l e).2.1 (rdJ j l e).2.2).2)
theorem rdJ_len (l : List UInt8) (e : Int) : ∀ j, (rdJ j l e).1.length = j
  | 0 => rfl
  | j + 1 => by rw [rdJ, List.length_append, rdJ_len l e j]; rfl
/-- A view that is taken off: epoch, primary, members; what is left, the error. -/
structure Gv where
  e : Int
  p : Int
  ms : List Int
  l : List UInt8
  r : Int
def getV (l : List UInt8) (e : Int) : Gv :=
  let a := nuR l e
  let b := nuR a.2.1 a.2.2
  let c := cnR 8 b.2.1 b.2.2
  let d := rdJ c.1 c.2.1 c.2.2
  if d.2.2 ≠ 0 then ⟨0, 0, [], d.2.1, d.2.2⟩ else ⟨unzz a.1, unzz b.1, d.1, d.2.1, d.2.2⟩
theorem cn_le8 (l : List UInt8) (e : Int) : (cnR 8 l e).1 ≤ 8 := by
  unfold cnR
  repeat' split
  all_goals (simp only)
  all_goals omega

/-- append of ints, at a step of a region that draws. -/
theorem step_appI {ops : Array Oper} {o : Oper} {a : Act} {w : World} {Kk : Act → World → Prop} {Q : Exit → Act → World → Prop} {E : Prop} (hgd : o.guard = none) (s x : Operand)
    (ho : o.op = .call { callee := .builtin .append, args := #[s, x], argTypes := #[29, 29] })
    (K : Nat) (v : Value) (l : List Int) (hs : a.eval s = v) (hown : So encI 1 w K 3 v l) (A : Option Addr) (M cap : Nat) (m : List Int) (hx : a.eval x = .slice A M cap) (hM : m.length = M) (K' : Nat) (hsrc : Sr encI 1 w K' A cap m)
    (N : Nat) (hN : l.length + m.length = N) (hsz : (l.length + m.length) * 8 ≤ 140737488355328) (hbase : K ≤ w.heap.size)
    (h : ∀ A' cap' w', So encI 1 w' K 3 (.slice A' N cap') (l ++ m) → w.grownBy w' v.ownBlock → ((Value.slice A' N cap').ownBlock = v.ownBlock ∨ (Value.slice A' N cap').ownBlock = some w.heap.size) → Kk (a.put o.dst (.slice A' N cap')) w') :
    if Region.wanted o (yielded ops a.tmps) = true then Oper.wp Try.prog o a w Kk Q else E := by
  subst hN hM
  have hw : Region.wanted o (yielded ops a.tmps) = true := by simp [Region.wanted, hgd]
  rw [if_pos hw]
  obtain ⟨A', cap', w', hr, h2, h3, h4⟩ := run_appE Try.underlying29 info_i64 (by kernel_rfl) (by decide) encI_len encI_one w o.type hown hsrc (by unfold maxLen; omega) hsz hbase
  unfold Oper.wp execOp
  simp only [ho, resolve, invoke, builtin, Sem.run_bind, Sem.run_pure, Result.andThen_ok, List.map_toArray, List.map_cons, List.map_nil, hs, hx, hr]
  exact h A' cap' w' h2 h3 h4
/-- The view's box while it is filled: epoch, primary, members; the result's cells. -/
structure Gx (w wr : World) (e p : Int) (A : Option Addr) (n cap : Nat) (ms : List Int) : Prop where
  z0 : wr.cell? ⟨w.heap.size, 0, none⟩ = some (.int .i64 0)
  z1 : wr.cell? ⟨w.heap.size, 1, none⟩ = some (.int .i64 0)
  z2 : wr.cell? ⟨w.heap.size, 2, none⟩ = some (.slice none 0 0)
  zf : ∀ j, wr.frozen? ⟨w.heap.size, j, none⟩ = false
  x0 : wr.cell? ⟨w.heap.size + 1, 0, none⟩ = some (.int .i64 e)
  x1 : wr.cell? ⟨w.heap.size + 1, 1, none⟩ = some (.int .i64 p)
  x2 : wr.cell? ⟨w.heap.size + 1, 2, none⟩ = some (.slice A n cap)
  xf : ∀ j, wr.frozen? ⟨w.heap.size + 1, j, none⟩ = false
  so : So encI 1 wr (w.heap.size + 2) 3 (.slice A n cap) ms
  hz : w.heap.size + 2 ≤ wr.heap.size
section
variable {w wr w' : World} {e p : Int} {A : Option Addr} {n cap : Nat} {ms : List Int}
theorem Gx.tn {P : Nat → Prop} (x : Gx w wr e p A n cap ms) (t : Tn P wr w') (h1 : ∀ k, w.heap.size ≤ k → ¬ P k) : Gx w w' e p A n cap ms :=
  have h0 := h1 w.heap.size (Nat.le_refl _)
  have h2 := h1 (w.heap.size + 1) (Nat.le_succ _)
  have hz := x.hz
  ⟨t.cell x.z0 h0, t.cell x.z1 h0, t.cell x.z2 h0, fun j => (t.frozen (p := ⟨w.heap.size, j, none⟩) (by show w.heap.size < _; omega) h0).trans (x.zf j), t.cell x.x0 h2, t.cell x.x1 h2, t.cell x.x2 h2, fun j => (t.frozen (p := ⟨w.heap.size + 1, j, none⟩) (by show w.heap.size + 1 < _; omega) h2).trans (x.xf j), x.so.tn t (fun k e => h1 k (by have := (x.so.lt k e).1; omega)), Nat.le_trans hz t.size⟩
theorem Gx.start (w : World) : Gx w ((w.alloc (.cells #[.int .i64 0, .int .i64 0, .slice none 0 0] 43)).alloc (.cells #[.int .i64 0, .int .i64 0, .slice none 0 0] 43)) 0 0 none 0 0 [] :=
  ⟨by simp [go_sem], by simp [go_sem], by simp [go_sem], fun j => by simp [go_sem], by simp [go_sem], by simp [go_sem], by simp [go_sem], fun j => by simp [go_sem], So.empty _ _ _ _ _, by simp⟩
theorem Gx.startR (w : World) : Gx w ((w.alloc (.cells #[.int .i64 0, .int .i64 0, .slice none 0 0] 31)).alloc (.cells #[.int .i64 0, .int .i64 0, .slice none 0 0] 31)) 0 0 none 0 0 [] :=
  ⟨by simp [go_sem], by simp [go_sem], by simp [go_sem], fun j => by simp [go_sem], by simp [go_sem], by simp [go_sem], by simp [go_sem], fun j => by simp [go_sem], So.empty _ _ _ _ _, by simp⟩
theorem Gx.set0 (x : Gx w wr e p A n cap ms) (v : Int) : Gx w (wr.setCell ⟨w.heap.size + 1, 0, none⟩ (.int .i64 v)) v p A n cap ms := by
  obtain ⟨z0, z1, z2, zf, x0, x1, x2, xf, so, hz⟩ := x
  exact ⟨by simp [go_sem, z0], by simp [go_sem, z1], by simp [go_sem, z2], fun j => by rw [World.frozen?_setCell]; exact zf j, by simp [go_sem, x0], by simp [go_sem, x1], by simp [go_sem, x2], fun j => by rw [World.frozen?_setCell]; exact xf j, so.tn (Tn.setCell _ _ _ _) (fun k e9 => by have := (so.lt k e9).1; omega), by simpa [World.setCell] using hz⟩
theorem Gx.set1 (x : Gx w wr e p A n cap ms) (v : Int) : Gx w (wr.setCell ⟨w.heap.size + 1, 1, none⟩ (.int .i64 v)) e v A n cap ms := by
  obtain ⟨z0, z1, z2, zf, x0, x1, x2, xf, so, hz⟩ := x
  exact ⟨by simp [go_sem, z0], by simp [go_sem, z1], by simp [go_sem, z2], fun j => by rw [World.frozen?_setCell]; exact zf j, by simp [go_sem, x0], by simp [go_sem, x1], by simp [go_sem, x2], fun j => by rw [World.frozen?_setCell]; exact xf j, so.tn (Tn.setCell _ _ _ _) (fun k e9 => by have := (so.lt k e9).1; omega), by simpa [World.setCell] using hz⟩
/-- The members' slice grown, and stored. -/
theorem Gx.push {B : Option Addr} {n' cap' : Nat} {ms' : List Int} {w2 : World} (x : Gx w wr e p A n cap ms) (so : So encI 1 w2 (w.heap.size + 2) 3 (.slice B n' cap') ms') (t : Tn (fun k => (Value.slice A n cap).ownBlock = some k) wr w2) :
    Gx w (w2.setCell ⟨w.heap.size + 1, 2, none⟩ (.slice B n' cap')) e p B n' cap' ms' := by
  have ho : ∀ k, (Value.slice A n cap).ownBlock = some k → w.heap.size + 2 ≤ k := fun k e9 => (x.so.lt k e9).1
  have hz := x.hz
  have z0 := t.cell x.z0 (fun e9 => by have := ho _ e9; simp only at this; omega)
  have z1 := t.cell x.z1 (fun e9 => by have := ho _ e9; simp only at this; omega)
  have z2 := t.cell x.z2 (fun e9 => by have := ho _ e9; simp only at this; omega)
  have x0 := t.cell x.x0 (fun e9 => by have := ho _ e9; simp only at this; omega)
  have x1 := t.cell x.x1 (fun e9 => by have := ho _ e9; simp only at this; omega)
  have x2 := t.cell x.x2 (fun e9 => by have := ho _ e9; simp only at this; omega)
  refine ⟨by simp [go_sem, z0], by simp [go_sem, z1], by simp [go_sem, z2], fun j => ?_, by simp [go_sem, x0], by simp [go_sem, x1], by simp [go_sem, x2], fun j => ?_, so.tn (Tn.setCell _ _ _ _) (fun k e9 => by have := (so.lt k e9).1; omega), ?_⟩
  · rw [World.frozen?_setCell]
    exact (t.frozen (p := ⟨w.heap.size, j, none⟩) (by show w.heap.size < _; omega) (fun e9 => by have := ho _ e9; simp only at this; omega)).trans (x.zf j)
  · rw [World.frozen?_setCell]
    exact (t.frozen (p := ⟨w.heap.size + 1, j, none⟩) (by show w.heap.size + 1 < _; omega) (fun e9 => by have := ho _ e9; simp only at this; omega)).trans (x.xf j)
  · have := t.size; simpa [World.setCell] using Nat.le_trans hz this
end
/-- What the document's Get gives. -/
def RGetP (K9 : Nat) (w : World) (b : Nat) (B l : List UInt8) (e : Int) (en : Ending) (w' : World) : Prop :=
  ∃ A n cap, en = .returned (.agg #[.int .i64 (getV l e).e, .int .i64 (getV l e).p, .slice A n cap]) ∧ n = (getV l e).ms.length ∧ So encI 1 w' w.heap.size 3 (.slice A n cap) (getV l e).ms ∧ Mx K9 w' b B (getV l e).l (getV l e).r ∧ Tn (· = b) w w'
set_option maxRecDepth 100000 in
set_option maxHeartbeats 3200000 in
theorem rget_any2 (b : Nat) (B l : List UInt8) (e : Int) (w : World) (h : Mx K9 w b B l e) :
    Calls Try.prog 58 #[.pointer (some ⟨b, 0, none⟩)] w (RGetP K9 w b B l e) := by
  have hbw := h.lt
  have HG0 := Lib.hid (Gx.startR w)
  have HM0 := Lib.hid (h.below (show Below w.heap.size w ((w.alloc (.cells #[.int .i64 0, .int .i64 0, .slice none 0 0] 31)).alloc (.cells #[.int .i64 0, .int .i64 0, .slice none 0 0] 31)) by go_grown))
  have HT0 : Hid (Tn (· = b) w ((w.alloc (.cells #[.int .i64 0, .int .i64 0, .slice none 0 0] 31)).alloc (.cells #[.int .i64 0, .int .i64 0, .slice none 0 0] 31))) := Lib.hid (Tn.ofNew (by go_grown))
  obtain ⟨G, hG⟩ : ∃ G, G = getV l e := ⟨_, rfl⟩
  have HGV := Lib.hid hG
  clear h hG
  go_enter Try.func58, Try.ntmps58
  go_wp2_with fail
  generalize (w.alloc (.cells #[.int .i64 0, .int .i64 0, .slice none 0 0] 31)).alloc (.cells #[.int .i64 0, .int .i64 0, .slice none 0 0] 31) = W0 at *
  go_at_call 57
  refine HM0.out.int.mono ?_
  rintro en w1 ⟨rfl, m1, t1⟩
  obtain ⟨r1, hr1⟩ : ∃ r1, r1 = nuR l e := ⟨_, rfl⟩
  rw [← hr1] at m1 ⊢
  have HR1 := Lib.hid hr1
  have G1 := HG0.out.tn t1 (fun k hk e9 => by omega)
  have x0 := G1.x0
  have xf := G1.xf 0
  have hz1 := G1.hz
  have HG1 := Lib.hid (G1.set0 (unzz r1.1))
  have HT1 := Lib.hid ((HT0.out.then t1).thenNew9 (Tn.setCell w1 (w.heap.size + 1) 0 (.int .i64 (unzz r1.1))) (fun k hk => by omega))
  have HM1 := Lib.hid (m1.tn (Tn.setCell w1 (w.heap.size + 1) 0 (.int .i64 (unzz r1.1))) (fun k hk => by omega))
  clear G1 m1 t1 hr1
  generalize hv1 : unzz r1.1 = v1 at *
  have HV1 := Lib.hid hv1
  clear hv1
  go_wp2_with fail
  generalize w1.setCell ⟨w.heap.size + 1, 0, none⟩ (.int .i64 v1) = W1 at *
  clear x0 xf hz1
  go_at_call 57
  refine HM1.out.int.mono ?_
  rintro en w2 ⟨rfl, m2, t2⟩
  obtain ⟨r2, hr2⟩ : ∃ r2, r2 = nuR r1.2.1 r1.2.2 := ⟨_, rfl⟩
  rw [← hr2] at m2 ⊢
  have HR2 := Lib.hid hr2
  have G2 := HG1.out.tn t2 (fun k hk e9 => by omega)
  have x1 := G2.x1
  have xf := G2.xf 1
  have hz2 := G2.hz
  have HG2 := Lib.hid (G2.set1 (unzz r2.1))
  have HT2 := Lib.hid ((HT1.out.then t2).thenNew9 (Tn.setCell w2 (w.heap.size + 1) 1 (.int .i64 (unzz r2.1))) (fun k hk => by omega))
  have HM2 := Lib.hid (m2.tn (Tn.setCell w2 (w.heap.size + 1) 1 (.int .i64 (unzz r2.1))) (fun k hk => by omega))
  clear G2 m2 t2 hr2
  generalize hv2 : unzz r2.1 = v2 at *
  have HV2 := Lib.hid hv2
  clear hv2
  go_wp2_with fail
  generalize w2.setCell ⟨w.heap.size + 1, 1, none⟩ (.int .i64 v2) = W2 at *
  clear x1 xf hz2
  go_at_call 110
  refine HM2.out.count.mono ?_
  rintro en w3 ⟨rfl, m3, t3⟩
  have hc8 := cn_le8 r2.2.1 r2.2.2
  obtain ⟨r3, hr3⟩ : ∃ r3, r3 = cnR 8 r2.2.1 r2.2.2 := ⟨_, rfl⟩
  rw [← hr3] at m3 hc8 ⊢
  have HR3 := Lib.hid hr3
  have HG3 := Lib.hid (HG2.out.tn t3 (fun k hk e9 => by omega))
  have HT3 := Lib.hid (HT2.out.then t3)
  have HM3 := Lib.hid m3
  clear m3 t3 hr3
  obtain ⟨n3, l3, e3⟩ := r3
  simp only at hc8
  go_wp2_with fail
  go_loopw [5] (fun iv wr => ∃ (j : Nat) (A : Option Addr) (n cap : Nat), j ≤ n3 ∧ iv = .int .i64 (j : Int) ∧ Gx w wr v1 v2 A n cap (rdJ j l3 e3).1 ∧ Mx K9 wr b B (rdJ j l3 e3).2.1 (rdJ j l3 e3).2.2 ∧ Tn (· = b) w wr) (fun iv _ => n3 - (intOf iv).toNat)
  case atStart => exact ⟨0, none, 0, 0, Nat.zero_le _, rfl, HG3.out, HM3.out, HT3.out⟩
  case round =>
    obtain ⟨j, A, n, cap, hj, rfl, g, m, t⟩ := hrel
    rename World => W3
    have HG := Lib.hid g
    have HM := Lib.hid m
    have HT := Lib.hid t
    clear g m t
    by_cases hlt : j < n3
    · have hlI : (j : Int) < (n3 : Int) := by omega
      go_wp2_with fail
      go_at_call 57
      refine HM.out.int.mono ?_
      rintro en w4 ⟨rfl, m4, t4⟩
      have hrl := rdJ_len l3 e3 j
      have HS : Hid (rdJ (j + 1) l3 e3 = ((rdJ j l3 e3).1 ++ [unzz (nuR (rdJ j l3 e3).2.1 (rdJ j l3 e3).2.2).1], (nuR (rdJ j l3 e3).2.1 (rdJ j l3 e3).2.2).2)) := Lib.hid rfl
      have G4 := HG.out.tn t4 (fun k hk e9 => by omega)
      have hln := G4.so.lenI
      have x2 := G4.x2
      have xf := G4.xf 2
      have hz4 := G4.hz
      have hz4' : w.heap.size + 1 < w4.heap.size := by omega
      have HG4 := Lib.hid G4
      have HM4 := Lib.hid m4
      have HT4 := Lib.hid (HT.out.then t4)
      generalize (rdJ j l3 e3).1 = L at *
      generalize unzz (nuR (rdJ j l3 e3).2.1 (rdJ j l3 e3).2.2).1 = x at *
      generalize (nuR (rdJ j l3 e3).2.1 (rdJ j l3 e3).2.2).2 = q at *
      have HLN : Hid (L.length = j) := Lib.hid hrl
      obtain rfl : n = j := by omega
      clear G4 m4 t4 hrl hln
      go_wp2_with (at_builtin; refine wpList_pushE Try.underlying29 info_i64 rfl (by decide) w4 rfl (.tmp 23) (.tmp 25) rfl (w.heap.size + 2) (.slice A n cap) L rfl HG4.out.so x _ rfl rfl (encI_one _) _ w4.heap.size rfl rfl (n + 1) (by rw [HLN.out]) (by unfold maxLen; omega) (by omega) hz4 ?_; intro A5 c5 w5 so5 hg5 hat5; have x25 := (Tn.ofGrown hg5).cell x2 (fun e9 => by have := (HG4.out.so.lt _ e9.symm).1; simp only at this; omega); have xf5 := ((Tn.ofGrown hg5).frozen (p := ⟨w.heap.size + 1, 2, none⟩) hz4' (fun e9 => by have := (HG4.out.so.lt _ e9.symm).1; simp only at this; omega)).trans xf; have hz5 : w.heap.size + 1 < w5.heap.size := Nat.lt_of_lt_of_le hz4' hg5.size)
      have HG5 := Lib.hid (HG4.out.push so5 ((Tn.ofGrown hg5).mono fun k _ e9 => e9.symm))
      have HT5 : Hid (Tn (· = b) w w5) := Lib.hid (HT4.out.thenQ (Tn.ofGrown hg5) fun k hk e9 => by have := (HG4.out.so.lt _ e9.symm).1; omega)
      have HM5 := Lib.hid (HM4.out.tn (Tn.ofGrown hg5) fun k hk e9 => by have := (HG4.out.so.lt _ e9.symm).1; omega)
      have HT6 := Lib.hid (HT5.out.thenNew9 (Tn.setCell w5 (w.heap.size + 1) 2 (.slice A5 (n + 1) c5)) (fun k hk => by omega))
      have HM6 := Lib.hid (HM5.out.tn (Tn.setCell w5 (w.heap.size + 1) 2 (.slice A5 (n + 1) c5)) (fun k hk => by omega))
      clear so5 hg5 hat5
      go_roundw
      case rel => exact ⟨n + 1, A5, n + 1, c5, by omega, by go_num, by rw [HS.out]; exact HG5.out, by rw [HS.out]; exact HM6.out, HT6.out⟩
      case measure => simp [intOf]; omega
    · obtain rfl : j = n3 := by omega
      have hr9 := HM.out.c2
      have hln := HG.out.so.lenI
      have x0 := HG.out.x0
      have x1 := HG.out.x1
      have x2 := HG.out.x2
      have z0 := HG.out.z0
      have z1 := HG.out.z1
      have z2 := HG.out.z2
      have zf := HG.out.zf
      have hzz := HG.out.hz
      have hza : w.heap.size < W3.heap.size := by omega
      have hzb : w.heap.size + 1 < W3.heap.size := by omega
      have HGE : Hid (getV l e = if (rdJ j l3 e3).2.2 ≠ 0 then ⟨0, 0, [], (rdJ j l3 e3).2.1, (rdJ j l3 e3).2.2⟩ else ⟨v1, v2, (rdJ j l3 e3).1, (rdJ j l3 e3).2.1, (rdJ j l3 e3).2.2⟩) := Lib.hid (by
        unfold getV
        simp only
        rw [← HR1.out, ← HR2.out, ← HR3.out, HV1.out, HV2.out])
      have HFT : Hid (∀ a0 a1 a2, Tn (· = b) w (((W3.setCell ⟨w.heap.size, 0, none⟩ a0).setCell ⟨w.heap.size, 1, none⟩ a1).setCell ⟨w.heap.size, 2, none⟩ a2)) := Lib.hid fun a0 a1 a2 => ((HT.out.thenNew9 (Tn.setCell _ w.heap.size 0 _) (fun k hk => by omega)).thenNew9 (Tn.setCell _ w.heap.size 1 _) (fun k hk => by omega)).thenNew9 (Tn.setCell _ w.heap.size 2 _) (fun k hk => by omega)
      have HFM : Hid (∀ a0 a1 a2, Mx K9 (((W3.setCell ⟨w.heap.size, 0, none⟩ a0).setCell ⟨w.heap.size, 1, none⟩ a1).setCell ⟨w.heap.size, 2, none⟩ a2) b B (rdJ j l3 e3).2.1 (rdJ j l3 e3).2.2) := Lib.hid fun a0 a1 a2 => ((HM.out.tn (Tn.setCell _ w.heap.size 0 _) (fun k hk => by omega)).tn (Tn.setCell _ w.heap.size 1 _) (fun k hk => by omega)).tn (Tn.setCell _ w.heap.size 2 _) (fun k hk => by omega)
      have HFS : Hid (∀ a0 a1 a2, So encI 1 (((W3.setCell ⟨w.heap.size, 0, none⟩ a0).setCell ⟨w.heap.size, 1, none⟩ a1).setCell ⟨w.heap.size, 2, none⟩ a2) w.heap.size 3 (.slice A n cap) (rdJ j l3 e3).1) := Lib.hid fun a0 a1 a2 => (((HG.out.so.tn (Tn.setCell _ w.heap.size 0 _) (fun k e9 => by have := (HG.out.so.lt k e9).1; omega)).tn (Tn.setCell _ w.heap.size 1 _) (fun k e9 => by have := (HG.out.so.lt k e9).1; omega)).tn (Tn.setCell _ w.heap.size 2 _) (fun k e9 => by have := (HG.out.so.lt k e9).1; omega)).more (by omega)
      by_cases he4 : (rdJ j l3 e3).2.2 = 0
      · have d4 : ((rdJ j l3 e3).2.2 != 0) = false := by simpa using he4
        have HGF := Lib.hid (HGE.out.trans (if_neg (by rw [he4]; decide)))
        have HLN := Lib.hid hln
        generalize (rdJ j l3 e3).2.2 = e4 at *
        clear he4 hln
        go_wp2_with fail
        refine bodyPost_ret (v := .agg #[.int .i64 v1, .int .i64 v2, .slice A n cap]) (by simp [results, Try.results58, go_sem, z0, z1, z2]) rfl ?_
        unfold RGetP
        rw [HGF.out]
        exact ⟨A, n, cap, rfl, HLN.out.symm, HFS.out _ _ _, HFM.out _ _ _, HFT.out _ _ _⟩
      · have d4 : ((rdJ j l3 e3).2.2 != 0) = true := by simpa using he4
        have HGF := Lib.hid (HGE.out.trans (if_pos he4))
        generalize (rdJ j l3 e3).2.2 = e4 at *
        clear he4 hln
        go_wp2_with fail
        refine bodyPost_ret (v := .agg #[.int .i64 0, .int .i64 0, .slice none 0 0]) (by simp [results, Try.results58, go_sem, z0, z1, z2]) rfl ?_
        unfold RGetP
        rw [HGF.out]
        exact ⟨none, 0, 0, rfl, rfl, So.empty _ _ _ _ _, HFM.out _ _ _, HFT.out _ _ _⟩
end Go.Proofs.Ytpnhdocimjkakaa
