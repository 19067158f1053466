/- A number behind bytes: the long form. -/
import Derived.Test.YtpnhdocimjkakaaPn10
import Derived.Test.YtpnhdocimjkakaaPn9
import Derived.Test.YtpnhdocimjkakaaPn11
import Derived.LoopTactic
namespace Go.Proofs.Ytpnhdocimjkakaa
open Go.RowKit Go.BigFrame

/-- The control c at block b; its members' slice lies in block h, the safe nodes' in block g. -/
structure Ct (w : World) (b h g mc sc : Nat) (c : Vc) : Prop where
  x0 : w.cell? ⟨b, 0, none⟩ = some (.int .i64 c.e)
  x1 : w.cell? ⟨b, 1, none⟩ = some (.int .i64 c.p)
  x2 : w.cell? ⟨b, 2, none⟩ = some (.slice (some ⟨h, 0, none⟩) c.ms.length mc)
  x3 : w.cell? ⟨b, 3, none⟩ = some (.slice (some ⟨g, 0, none⟩) c.sf.length sc)
  fr : ∀ j, w.frozen? ⟨b, j, none⟩ = false
  ms : So encI 1 w 0 3 (.slice (some ⟨h, 0, none⟩) c.ms.length mc) c.ms
  sf : So encI 1 w 0 3 (.slice (some ⟨g, 0, none⟩) c.sf.length sc) c.sf
  hb : h ≠ b
  gb : g ≠ b
  hg : h ≠ g
section
variable {w w' : World} {b h g mc sc : Nat} {c : Vc}
theorem Ct.lt (x : Ct w b h g mc sc c) : b < w.heap.size ∧ h < w.heap.size ∧ g < w.heap.size := ⟨World.block_lt_of_cell? w _ x.x0, (x.ms.lt h rfl).2, (x.sf.lt g rfl).2⟩
theorem Ct.tn {P : Nat → Prop} (x : Ct w b h g mc sc c) (t : Tn P w w') (pb : ¬ P b) (ph : ¬ P h) (pg : ¬ P g) : Ct w' b h g mc sc c :=
  ⟨t.cell x.x0 pb, t.cell x.x1 pb, t.cell x.x2 pb, t.cell x.x3 pb, fun j => (t.frozen (p := ⟨b, j, none⟩) x.lt.1 pb).trans (x.fr j), x.ms.tn t (fun k e => by injection e with e; exact e ▸ ph), x.sf.tn t (fun k e => by injection e with e; exact e ▸ pg), x.hb, x.gb, x.hg⟩
theorem Ct.below (x : Ct w b h g mc sc c) (hb : Below w.heap.size w w') : Ct w' b h g mc sc c := x.tn (Tn.ofNew (P := fun _ => False) hb) id id id
end
theorem cell_at {w : World} {b j : Nat} {cs : Array Value} {T : TypeId} {v : Value} (h : w.heap[b]? = some (.cells cs T (0, 0))) (hv : cs[j]? = some v) : w.cell? ⟨b, j, none⟩ = some v := by
  simp [World.cell?, h, hv]
theorem fro_at {w : World} {b : Nat} {cs : Array Value} {T : TypeId} (h : w.heap[b]? = some (.cells cs T (0, 0))) (j : Nat) : w.frozen? ⟨b, j, none⟩ = false := by
  simp [World.frozen?, h]
theorem own_some {w : World} {K : Nat} {T : TypeId} {A : Option Addr} {n cap : Nat} {l : List Int} (h : So encI 1 w K T (.slice A n cap) l) (hl : 0 < l.length) : ∃ g, A = some ⟨g, 0, none⟩ := by
  rcases h.2 with ⟨he, h0⟩ | ⟨g, cap', cur, he, _⟩
  · omega
  · injection he with e1 _ _
    exact ⟨g, e1⟩
theorem own_ne {w : World} {K g b n cap : Nat} {T T' : TypeId} {l : List Int} {cs : Array Value} (h : So encI 1 w K T (.slice (some ⟨g, 0, none⟩) n cap) l) (hb : w.heap[b]? = some (.cells cs T' (0, 0))) (hT : T' ≠ T) : g ≠ b := fun e => by
  rcases h.2 with ⟨he, _⟩ | ⟨g', cap', cur, he, _, hg, _⟩
  · cases he
  · injection he with e1 _ _
    injection e1 with e1
    injection e1 with e1
    subst e1 e
    rw [hb] at hg
    injection hg with hg
    injection hg with _ hT' _
    exact hT hT'
theorem own_not {g b n cap : Nat} (h : g ≠ b) : ∀ k, (Value.slice (some ⟨g, 0, none⟩) n cap).ownBlock = some k → ¬ k = b := fun k e => by
  injection e with e
  exact e ▸ h
inductive Vx where
  | v (u : Value)
  | s (l : List Int)
  | b (e p : Int) (l : List Int)
  | pz
  | bb (e p : Int) (h mc : Nat) (l : List Int)
  | pc (e p : Int) (h mc : Nat) (l : List Int)
def HV (K : Nat) : Vx → Value → World → Prop
  | .v x, u, _ => u = x
  | .s l, u, w => ∃ A c, u = .slice A l.length c ∧ So encI 1 w K 3 (.slice A l.length c) l
  | .b e p l, u, w => ∃ A c, u = .agg #[.int .i64 e, .int .i64 p, .slice A l.length c] ∧ So encI 1 w K 3 (.slice A l.length c) l
  | .pz, u, w => ∃ b, u = .pointer (some ⟨b, 0, none⟩) ∧ K ≤ b ∧ w.heap[b]? = some (.cells #[.int .i64 0, .int .i64 0, .slice none 0 0] 43 (0, 0))
  | .bb e p h mc l, u, w => ∃ A c, u = .agg #[.int .i64 e, .int .i64 p, .slice (some ⟨h, 0, none⟩) l.length mc, .slice A l.length c] ∧ So encI 1 w K 3 (.slice A l.length c) l
  | .pc e p h mc l, u, w => ∃ b A c, u = .pointer (some ⟨b, 0, none⟩) ∧ K ≤ b ∧ w.heap[b]? = some (.cells #[.int .i64 e, .int .i64 p, .slice (some ⟨h, 0, none⟩) l.length mc, .slice A l.length c] 141 (0, 0)) ∧ So encI 1 w K 3 (.slice A l.length c) l
theorem heap_keep {w w' : World} {b : Nat} {o : Obj} (h : w.heap[b]? = some o) (hb : Below w.heap.size w w') : w'.heap[b]? = some o := (hb.block b (Array.getElem?_eq_some_iff.1 h).1).trans h
theorem HV.mono {K : Nat} {x : Vx} {u : Value} {w w' : World} (h : HV K x u w) (hb : Below w.heap.size w w') : HV K x u w' := by
  cases x with
  | v y => exact h
  | s l => obtain ⟨A, c, e, r⟩ := h; exact ⟨A, c, e, r.below hb⟩
  | b e p l => obtain ⟨A, c, e, r⟩ := h; exact ⟨A, c, e, r.below hb⟩
  | pz => obtain ⟨b, e, k, r⟩ := h; exact ⟨b, e, k, heap_keep r hb⟩
  | bb e p h mc l => obtain ⟨A, c, e, r⟩ := h; exact ⟨A, c, e, r.below hb⟩
  | pc e p h mc l => obtain ⟨b, A, c, e, k, r, q⟩ := h; exact ⟨b, A, c, e, k, heap_keep r hb, q.below hb⟩
/-- Behind New's first statement. -/
def MidP (w : World) (l : List Int) (m : Int) (u : Value) (w' : World) : Prop :=
  ∃ b h mc, u = .pointer (some ⟨b, 0, none⟩) ∧ w.heap.size ≤ b ∧ w'.cell? ⟨b, 0, none⟩ = some (.int .i64 1) ∧ w'.cell? ⟨b, 1, none⟩ = some (.int .i64 m) ∧ w'.cell? ⟨b, 2, none⟩ = some (.slice (some ⟨h, 0, none⟩) l.length mc) ∧ (∀ j, w'.frozen? ⟨b, j, none⟩ = false) ∧ So encI 1 w' w.heap.size 3 (.slice (some ⟨h, 0, none⟩) l.length mc) l ∧ h ≠ b ∧ Below w.heap.size w w'
/-- What New gives of members that may be. -/
def MadeP (w : World) (l : List Int) (m : Int) (e : Ending) (w' : World) : Prop :=
  ∃ b, e = .returned (.tuple #[.pointer (some ⟨b, 0, none⟩), .int .i64 0]) ∧ ∃ h g mc sc, Ct w' b h g mc sc ⟨1, m, l, l⟩ ∧ (w.heap.size ≤ b ∧ w.heap.size ≤ h ∧ w.heap.size ≤ g) ∧ Below w.heap.size w w'

theorem new_no (K : Nat) (A : Option Addr) (n cp : Nat) (l : List Int) (w : World) (hn : l.length = n) (hp : Sr encI 1 w K A cp l) (hm : memsB l = false) :
    Calls Try.prog 70 #[.slice A n cp] w fun e w' => e = .returned (.tuple #[.pointer none, .int .i64 1]) ∧ w = w' := by
  have HM := Lib.hid (mems_any K A n cp l w hn hp)
  rw [hm] at HM
  clear hp hm hn
  go_enter Try.func70, Try.ntmps70
  go_wp2_with (go_at_call 116; refine HM.out.mono ?_; rintro e w1 ⟨rfl, rfl⟩)
  go_ret2
  exact ⟨rfl, rfl⟩
set_option maxRecDepth 100000 in
set_option maxHeartbeats 6400000 in
theorem new_ok_any (K0 : Nat) (ad : Addr) (cp : Nat) (l : List Int) (m : Int) (w : World) (hp : Sr encI 1 w K0 (some ad) cp l) (hKw : K0 ≤ w.heap.size) (hm : memsB l = true) (h0 : l.headD 0 = m) :
    Calls Try.prog 70 #[.slice (some ad) l.length cp] w (MadeP w l m) := by
  have hlen := mems_len hm
  have hl8 : l.length * 8 ≤ 140737488355328 := by omega
  have hl0 : 0 < l.length := by omega
  have hlI : (0 : Int) < (l.length : Int) := by omega
  obtain ⟨ad', e', hadK, hcell⟩ := hp.int hl0
  cases e'
  have hm0 : l[0] = m := by rw [← h0]; cases l with
    | nil => simp at hl0
    | cons x l => rfl
  rw [hm0, el_add_zero] at hcell
  have HM := Lib.hid (mems_any K0 (some ad) l.length cp l w rfl hp)
  rw [hm] at HM
  have HP := Lib.hid hp
  have HL0 := Lib.hid hl0
  clear hp hm hm0 h0 hlen
  go_enter Try.func70, Try.ntmps70
  go_upto_region 3 with (go_at_call 116; refine HM.out.mono ?_; rintro e w1 ⟨rfl, rfl⟩)
  apply region_VE (HV w.heap.size) (Below w.heap.size w) (fun vs w' => MidP w l m (vs 6) w') 7 [.v (.slice (some ad) l.length cp), .v (.pointer (some ad)), .v (.int .i64 m), .v (.slice (some ad) l.length cp), .s l, .b 1 m l, .pz, .v undef] (.v undef)
  case mono => exact fun p v w0 w1 h hb => HV.mono h hb
  case hl => kernel_rfl
  case hm => kernel_rfl
  case hf => kernel_rfl
  case hE => exact fun vs v w h => by obtain ⟨b, h2, c, e, r⟩ := h; exact ⟨b, h2, c, by rw [updR_ne _ _ (by decide)]; exact e, r⟩
  case hQ => exact (by intro c x y w e h; exact And.intro (e.symm.trans (And.left h)) (And.right h))
  case hF => intro vs; simp only [putAll, Act.put, List.setIfInBounds_toArray, List.set_cons_zero, List.set_cons_succ, Nat.reduceAdd]; rfl
  case h0 => exact ⟨rfl, rfl, rfl, Nat.le_refl _, fun _ _ => rfl⟩
  case hstep =>
    repeat' (first | exact AllOps.nil | apply AllOps.cons)
    · intro vs wx hG hd K hK
      replace hK : ∀ (uu : Value) (w' : World), Below wx.heap.size wx w' → ((Below w.heap.size w)) w' → (HV w.heap.size) (.v (.slice (some ad) l.length cp)) uu w' → K _ w' := hK
      simp only [Act.put, List.setIfInBounds_toArray, List.set_cons_zero, List.set_cons_succ] at hK ⊢
      have HK := Lib.hid hK
      have HG := Lib.hid hG
      clear hK hd
      clear hG
      go_simp
      exact HK.out _ _ (Below.refl _ _) HG.out rfl
    · intro vs wx hG hd K hK
      have e0 : vs 0 = .slice (some ad) l.length cp := hd.get (j := 0) (by simp [depsOf, Region.binds])
      replace hK : ∀ (uu : Value) (w' : World), Below wx.heap.size wx w' → ((Below w.heap.size w)) w' → (HV w.heap.size) (.v (.pointer (some ad))) uu w' → K _ w' := hK
      simp only [Act.put, List.setIfInBounds_toArray, List.set_cons_zero, List.set_cons_succ, e0] at hK ⊢
      have HK := Lib.hid hK
      have HG := Lib.hid hG
      clear hK hd e0
      clear hG
      go_simp
      exact HK.out _ _ (Below.refl _ _) HG.out rfl
    · intro vs wx hG hd K hK
      have e1 : vs 1 = .pointer (some ad) := hd.get (j := 1) (by simp [depsOf, Region.binds])
      replace hK : ∀ (uu : Value) (w' : World), Below wx.heap.size wx w' → ((Below w.heap.size w)) w' → (HV w.heap.size) (.v (.int .i64 m)) uu w' → K _ w' := hK
      simp only [Act.put, List.setIfInBounds_toArray, List.set_cons_zero, List.set_cons_succ, e1] at hK ⊢
      have HK := Lib.hid hK
      have HG := Lib.hid hG
      clear hK hd e1
      have hc := HG.out.cell (p := ad) (Nat.lt_of_lt_of_le hadK hKw)
      rw [hcell] at hc
      clear hG
      go_simp
      exact HK.out _ _ (Below.refl _ _) HG.out rfl
    · intro vs wx hG hd K hK
      replace hK : ∀ (uu : Value) (w' : World), Below wx.heap.size wx w' → ((Below w.heap.size w)) w' → (HV w.heap.size) (.v (.slice (some ad) l.length cp)) uu w' → K _ w' := hK
      simp only [Act.put, List.setIfInBounds_toArray, List.set_cons_zero, List.set_cons_succ] at hK ⊢
      have HK := Lib.hid hK
      have HG := Lib.hid hG
      clear hK hd
      clear hG
      go_simp
      exact HK.out _ _ (Below.refl _ _) HG.out rfl
    · intro vs wx hG hd K hK
      have e3 : vs 3 = .slice (some ad) l.length cp := hd.get (j := 3) (by simp [depsOf, Region.binds])
      replace hK : ∀ (uu : Value) (w' : World), Below wx.heap.size wx w' → ((Below w.heap.size w)) w' → (HV w.heap.size) (.s l) uu w' → K _ w' := hK
      simp only [Act.put, List.setIfInBounds_toArray, List.set_cons_zero, List.set_cons_succ, e3] at hK ⊢
      have HK := Lib.hid hK
      have HG := Lib.hid hG
      clear hK hd e3
      clear hG
      go_simp
      go_at_call 77
      refine (clone_ints K0 _ _ _ _ wx rfl (HP.out.below (HG.out.mono hKw)) (Nat.le_trans hKw HG.out.size) hl8).mono ?_
      rintro e w9 ⟨A9, c9, rfl, h9, hb⟩
      exact HK.out _ _ hb (HG.out.trans (hb.mono HG.out.size)) ⟨A9, c9, rfl, h9.more HG.out.size⟩
    · intro vs wx hG hd K hK
      have e2 : vs 2 = .int .i64 m := hd.get (j := 2) (by simp [depsOf, Region.binds])
      obtain ⟨A4, c4, e4, r4⟩ : ∃ A' c', vs 4 = .slice A' l.length c' ∧ So encI 1 wx w.heap.size 3 (.slice A' l.length c') l := hd.get (j := 4) (by simp [depsOf, Region.binds])
      replace hK : ∀ (uu : Value) (w' : World), Below wx.heap.size wx w' → ((Below w.heap.size w)) w' → (HV w.heap.size) (.b 1 m l) uu w' → K _ w' := hK
      simp only [Act.put, List.setIfInBounds_toArray, List.set_cons_zero, List.set_cons_succ, e2, e4] at hK ⊢
      have HK := Lib.hid hK
      have HG := Lib.hid hG
      clear hK hd e2 e4
      clear hG
      go_simp
      exact HK.out _ _ (Below.refl _ _) HG.out ⟨_, _, rfl, r4⟩
    · intro vs wx hG hd K hK
      replace hK : ∀ (uu : Value) (w' : World), Below wx.heap.size wx w' → ((Below w.heap.size w)) w' → (HV w.heap.size) (.pz) uu w' → K _ w' := hK
      simp only [Act.put, List.setIfInBounds_toArray, List.set_cons_zero, List.set_cons_succ] at hK ⊢
      have HK := Lib.hid hK
      have HG := Lib.hid hG
      clear hK hd
      clear hG
      go_simp
      exact HK.out _ _ ((Below.refl _ _).alloc (Nat.le_refl _) _) (HG.out.alloc HG.out.size _) ⟨_, rfl, HG.out.size, heap_alloc_new _ _⟩
    · intro vs wx hG hd K hK
      obtain ⟨A5, c5, e5, r5⟩ : ∃ A' c', vs 5 = .agg #[.int .i64 1, .int .i64 m, .slice A' l.length c'] ∧ So encI 1 wx w.heap.size 3 (.slice A' l.length c') l := hd.get (j := 5) (by simp [depsOf, Region.binds])
      obtain ⟨b6, e6, k6, h6⟩ : ∃ b, vs 6 = .pointer (some ⟨b, 0, none⟩) ∧ w.heap.size ≤ b ∧ wx.heap[b]? = some (.cells #[.int .i64 0, .int .i64 0, .slice none 0 0] 43 (0, 0)) := hd.get (j := 6) (by simp [depsOf, Region.binds])
      replace hK : ∀ (uu : Value) (w' : World), ((fun vs w' => MidP w l m (vs 6) w')) vs w' → K _ w' := hK
      simp only [Act.put, e5, e6] at hK ⊢
      have HK := Lib.hid hK
      have HG := Lib.hid hG
      clear hK hd
      obtain ⟨h5, rfl⟩ := own_some r5 hl0
      have hne := own_ne r5 h6 (by decide)
      have y0 : wx.cell? ⟨b6, 0, none⟩ = some (.int .i64 0) := cell_at h6 rfl
      have y1 : wx.cell? ⟨b6, 1, none⟩ = some (.int .i64 0) := cell_at h6 rfl
      have y2 : wx.cell? ⟨b6, 2, none⟩ = some (.slice none 0 0) := cell_at h6 rfl
      have yf : ∀ j, wx.frozen? ⟨b6, j, none⟩ = false := fun j => fro_at h6 j
      have HR := Lib.hid r5
      have HN := Lib.hid hne
      have HYF := Lib.hid yf
      clear r5 h6 hG e5 e6 hne
      go_simp
      refine HK.out undef _ ⟨b6, h5, c5, rfl, k6, ?_, ?_, ?_, ?_, ?_, HN.out, ?_⟩
      · simp [go_sem, y0]
      · simp [go_sem, y1]
      · simp [go_sem, y2]
      · intro j; simp only [World.frozen?_setCell]; exact HYF.out j
      · exact ((HR.out.tn (Tn.setCell _ b6 0 _) (own_not HN.out)).tn (Tn.setCell _ b6 1 _) (own_not HN.out)).tn (Tn.setCell _ b6 2 _) (own_not HN.out)
      · exact ((HG.out.setCell k6 _).setCell k6 _).setCell k6 _
  case hend =>
    intro vs W hE
    obtain ⟨b, h, mc, e6, kb, z0, z1, z2, zf, hms, hhb, hbw⟩ := hE
    have hbW := World.block_lt_of_cell? W _ z0
    replace hbW : b < W.heap.size := hbW
    have HMS := Lib.hid hms
    have HHB := Lib.hid hhb
    have HZF := Lib.hid zf
    clear hms hhb zf
    simp only [e6]
    go_upto_region 4 with fail
    apply region_V (HV W.heap.size) (Below W.heap.size W) [.v (.agg #[.int .i64 1, .int .i64 m, .slice (some ⟨h, 0, none⟩) l.length mc]), .v (.slice (some ad) l.length cp), .s l, .bb 1 m h mc l, .pc 1 m h mc l, .pc 1 m h mc l, .v (.int .i64 0)] (.v undef)
    case mono => exact fun p v w0 w1 h hb => HV.mono h hb
    case hm => kernel_rfl
    case hf => kernel_rfl
    case hQ => exact (by intro c x y w e h; exact And.intro (e.symm.trans (And.left h)) (And.right h))
    case hF => intro vs; simp only [putAll, Act.put, List.setIfInBounds_toArray, List.set_cons_zero, List.set_cons_succ, Nat.reduceAdd]; rfl
    case h0 => exact ⟨rfl, rfl, rfl, Nat.le_refl _, fun _ _ => rfl⟩
    case hstep =>
      repeat' (first | exact AllOps.nil | apply AllOps.cons)
      · intro vs wx hG hd K hK
        replace hK : ∀ (uu : Value) (w' : World), Below wx.heap.size wx w' → ((Below W.heap.size W)) w' → (HV W.heap.size) (.v (.agg #[.int .i64 1, .int .i64 m, .slice (some ⟨h, 0, none⟩) l.length mc])) uu w' → K _ w' := hK
        simp only [Act.put, List.setIfInBounds_toArray, List.set_cons_zero, List.set_cons_succ] at hK ⊢
        have HK := Lib.hid hK
        have HG := Lib.hid hG
        clear hK hd
        have x0 := HG.out.cell (p := ⟨b, 0, none⟩) hbW
        rw [z0] at x0
        have x1 := HG.out.cell (p := ⟨b, 1, none⟩) hbW
        rw [z1] at x1
        have x2 := HG.out.cell (p := ⟨b, 2, none⟩) hbW
        rw [z2] at x2
        clear hG
        go_simp
        exact HK.out _ _ (Below.refl _ _) HG.out rfl
      · intro vs wx hG hd K hK
        replace hK : ∀ (uu : Value) (w' : World), Below wx.heap.size wx w' → ((Below W.heap.size W)) w' → (HV W.heap.size) (.v (.slice (some ad) l.length cp)) uu w' → K _ w' := hK
        simp only [Act.put, List.setIfInBounds_toArray, List.set_cons_zero, List.set_cons_succ] at hK ⊢
        have HK := Lib.hid hK
        have HG := Lib.hid hG
        clear hK hd
        clear hG
        go_simp
        exact HK.out _ _ (Below.refl _ _) HG.out rfl
      · intro vs wx hG hd K hK
        have e1 : vs 1 = .slice (some ad) l.length cp := hd.get (j := 1) (by simp [depsOf, Region.binds])
        replace hK : ∀ (uu : Value) (w' : World), Below wx.heap.size wx w' → ((Below W.heap.size W)) w' → (HV W.heap.size) (.s l) uu w' → K _ w' := hK
        simp only [Act.put, List.setIfInBounds_toArray, List.set_cons_zero, List.set_cons_succ, e1] at hK ⊢
        have HK := Lib.hid hK
        have HG := Lib.hid hG
        clear hK hd e1
        clear hG
        go_simp
        go_at_call 77
        refine (clone_ints K0 _ _ _ _ wx rfl (HP.out.below ((hbw.trans (HG.out.mono hbw.size)).mono hKw)) (Nat.le_trans hKw (Nat.le_trans hbw.size HG.out.size)) hl8).mono ?_
        rintro e w9 ⟨A9, c9, rfl, h9, hb⟩
        exact HK.out _ _ hb (HG.out.trans (hb.mono HG.out.size)) ⟨A9, c9, rfl, h9.more HG.out.size⟩
      · intro vs wx hG hd K hK
        have e0 : vs 0 = .agg #[.int .i64 1, .int .i64 m, .slice (some ⟨h, 0, none⟩) l.length mc] := hd.get (j := 0) (by simp [depsOf, Region.binds])
        obtain ⟨A2, c2, e2, r2⟩ : ∃ A' c', vs 2 = .slice A' l.length c' ∧ So encI 1 wx W.heap.size 3 (.slice A' l.length c') l := hd.get (j := 2) (by simp [depsOf, Region.binds])
        replace hK : ∀ (uu : Value) (w' : World), Below wx.heap.size wx w' → ((Below W.heap.size W)) w' → (HV W.heap.size) (.bb 1 m h mc l) uu w' → K _ w' := hK
        simp only [Act.put, List.setIfInBounds_toArray, List.set_cons_zero, List.set_cons_succ, e0, e2] at hK ⊢
        have HK := Lib.hid hK
        have HG := Lib.hid hG
        clear hK hd e0 e2
        clear hG
        go_simp
        exact HK.out _ _ (Below.refl _ _) HG.out ⟨_, _, rfl, r2⟩
      · intro vs wx hG hd K hK
        obtain ⟨A3, c3, e3, r3⟩ : ∃ A' c', vs 3 = .agg #[.int .i64 1, .int .i64 m, .slice (some ⟨h, 0, none⟩) l.length mc, .slice A' l.length c'] ∧ So encI 1 wx W.heap.size 3 (.slice A' l.length c') l := hd.get (j := 3) (by simp [depsOf, Region.binds])
        replace hK : ∀ (uu : Value) (w' : World), Below wx.heap.size wx w' → ((Below W.heap.size W)) w' → (HV W.heap.size) (.pc 1 m h mc l) uu w' → K _ w' := hK
        simp only [Act.put, List.setIfInBounds_toArray, List.set_cons_zero, List.set_cons_succ, e3] at hK ⊢
        have HK := Lib.hid hK
        have HG := Lib.hid hG
        clear hK hd e3
        clear hG
        go_simp
        exact HK.out _ _ ((Below.refl _ _).alloc (Nat.le_refl _) _) (HG.out.alloc HG.out.size _) ⟨_, _, _, rfl, HG.out.size, heap_alloc_new _ _, r3.alloc _⟩
      · intro vs wx hG hd K hK
        obtain ⟨b4, A4, c4, e4, k4, h4, r4⟩ : ∃ b A' c', vs 4 = .pointer (some ⟨b, 0, none⟩) ∧ W.heap.size ≤ b ∧ wx.heap[b]? = some (.cells #[.int .i64 1, .int .i64 m, .slice (some ⟨h, 0, none⟩) l.length mc, .slice A' l.length c'] 141 (0, 0)) ∧ So encI 1 wx W.heap.size 3 (.slice A' l.length c') l := hd.get (j := 4) (by simp [depsOf, Region.binds])
        replace hK : ∀ (uu : Value) (w' : World), Below wx.heap.size wx w' → ((Below W.heap.size W)) w' → (HV W.heap.size) (.pc 1 m h mc l) uu w' → K _ w' := hK
        simp only [Act.put, List.setIfInBounds_toArray, List.set_cons_zero, List.set_cons_succ, e4] at hK ⊢
        have HK := Lib.hid hK
        have HG := Lib.hid hG
        clear hK hd e4
        clear hG
        go_simp
        exact HK.out _ _ (Below.refl _ _) HG.out ⟨_, _, _, rfl, k4, h4, r4⟩
      · intro vs wx hG hd K hK
        replace hK : ∀ (uu : Value) (w' : World), Below wx.heap.size wx w' → ((Below W.heap.size W)) w' → (HV W.heap.size) (.v (.int .i64 0)) uu w' → K _ w' := hK
        simp only [Act.put, List.setIfInBounds_toArray, List.set_cons_zero, List.set_cons_succ] at hK ⊢
        have HK := Lib.hid hK
        have HG := Lib.hid hG
        clear hK hd
        clear hG
        go_simp
        exact HK.out _ _ (Below.refl _ _) HG.out rfl
    case hend =>
      intro vs wx hG hv
      obtain ⟨b5, A5, c5, e5, k5, h5, r5⟩ : ∃ b A' c', vs 5 = .pointer (some ⟨b, 0, none⟩) ∧ W.heap.size ≤ b ∧ wx.heap[b]? = some (.cells #[.int .i64 1, .int .i64 m, .slice (some ⟨h, 0, none⟩) l.length mc, .slice A' l.length c'] 141 (0, 0)) ∧ So encI 1 wx W.heap.size 3 (.slice A' l.length c') l := hv 5 (by decide)
      have e6 : vs 6 = .int .i64 0 := hv 6 (by decide)
      obtain ⟨g5, rfl⟩ := own_some r5 HL0.out
      have hms : So encI 1 wx w.heap.size 3 (.slice (some ⟨h, 0, none⟩) l.length mc) l := HMS.out.below hG
      have hg5 := (r5.lt g5 rfl).1
      have hh5 := (HMS.out.lt h rfl)
      have HC : Hid (Ct wx b5 h g5 mc c5 ⟨1, m, l, l⟩) := Lib.hid ⟨cell_at h5 rfl, cell_at h5 rfl, cell_at h5 rfl, cell_at h5 rfl, fun j => fro_at h5 j, hms.more (Nat.zero_le _), r5.more (Nat.zero_le _), own_ne hms h5 (by decide), own_ne r5 h5 (by decide), by omega⟩
      have HB := Lib.hid (hbw.trans (hG.mono hbw.size))
      have HK5 : Hid (w.heap.size ≤ b5 ∧ w.heap.size ≤ h ∧ w.heap.size ≤ g5) := Lib.hid ⟨Nat.le_trans hbw.size k5, hh5.1, Nat.le_trans hbw.size hg5⟩
      clear hms r5 h5 hG hv k5 hg5 hh5
      simp only [e5, e6]
      go_wp2_with fail
      go_ret2
      exact ⟨_, rfl, _, _, _, _, HC.out, HK5.out, HB.out⟩
end Go.Proofs.Ytpnhdocimjkakaa
namespace Go.Proofs.Ytpnhdocimjkakaa
open Go.RowKit

theorem u64N_cast {n : Nat} (h : n ≤ 18446744073709551615) : u64N (n : Int) = n := by unfold u64N; omega

set_option maxRecDepth 100000 in
set_option maxHeartbeats 3200000 in
theorem appendNum_high (n : Nat) (h0 : 247 < n) (h1 : n ≤ 18446744073709551615) (K : Nat) (A : Option Addr) (n0 cap : Nat) (l : List UInt8) (w : World) (ho : Ob w K (.slice A n0 cap) l) (hK : K ≤ w.heap.size) (hsz : l.length + 9 ≤ 140737488355328) :
    Calls Try.prog 128 #[.slice A n0 cap, .int .u64 (n : Int)] w (App w K (.slice A n0 cap) (l ++ numB n)) := by
  have hc := behind_any n w h1
  have hk8 := kN_le n
  have hk1 := kN_pos h0 (by omega)
  have hlen : (l ++ numB n).length = l.length + 1 + kN n := by rw [List.length_append, numB_length]; omega
  have hfin : l ++ numB n = (l ++ [UInt8.ofNat (247 + kN n)]) ++ beTo (u64N n) (kN n) (kN n) := by rw [numB_high h0, u64N_cast h1, beTo_all, List.append_assoc]
  have hcell0 : [Value.int .u8 (247 + (kN n : Int))] = [UInt8.ofNat (247 + kN n)].map bv := by simp [bv]; omega
  generalize kN n = k at *
  have HC := Lib.hid hc
  have HLEN := Lib.hid hlen
  have HFIN := Lib.hid hfin
  have HCELL := Lib.hid hcell0
  have hn0 := ho.bs.2
  have HN0 := Lib.hid hn0
  clear hc hlen hfin hcell0 hn0
  have hkz : ¬ ((k : Int) = 0) := by omega
  go_enter Try.func128, Try.ntmps128
  go_wp2_with (first
    | (go_at_call 127; refine HC.out.mono ?_; rintro e w' ⟨rfl, rfl⟩)
    | (at_builtin; refine wpList_app _ rfl (.tmp 16) (.tmp 20) rfl K (.slice A n0 cap) l rfl (ho.alloc _) (some ⟨w.heap.size, 0, none⟩) 1 1 [UInt8.ofNat (247 + k)] rfl rfl _ (lit_bsH w _ w.heap.size rfl _ 1 _ (show [Value.int .u8 (247 + (k : Int))] = _ from HCELL.out) rfl (by decide)) (l.length + 1) rfl (by simp; omega) (by simp; omega) ?_; intro A6 c6 w6 hown6 hgrow6 hat6))
  have G6 : Gr w w6 (.slice A n0 cap) (.slice A6 (l.length + 1) c6) := (Gr.refl _ _).step _ hgrow6 hat6
  have hl1 : (l ++ [UInt8.ofNat (247 + k)]).length = l.length + 1 := by rw [List.length_append]; rfl
  generalize l ++ [UInt8.ofNat (247 + k)] = m at *
  have HL1 := Lib.hid hl1
  clear hgrow6 hat6 ho hl1
  go_loopw [0, 6] (fun v s wr => ∃ (j nn c5 : Nat) (A5 : Option Addr) (sI : Int), j ≤ k ∧ s = .int .i64 sI ∧ sI ≤ 8 * (k : Int) - 8 - 8 * (j : Int) ∧ 8 * (k : Int) - 8 - 8 * (j : Int) ≤ sI ∧ v = .slice A5 nn c5 ∧ Ob wr K (.slice A5 nn c5) (m ++ beTo (u64N n) k j) ∧ Gr w wr (.slice A n0 cap) (.slice A5 nn c5)) (fun _ s _ => (intOf s + 8).toNat)
  case atStart => exact ⟨0, l.length + 1, c6, A6, _, by omega, rfl, by omega, by omega, rfl, by rw [beTo_zero, List.append_nil]; exact hown6, G6⟩
  case round =>
    obtain ⟨j, nn, c5, A5, sI, hj, rfl, hs1, hs2, rfl, hob5, hg5⟩ := hrel
    have z5 := hg5.g.size
    have hnn := hob5.bs.2
    have hnb : nn = l.length + 1 + j := by rw [hnn, List.length_append, beTo_length, HL1.out]
    have HNN := Lib.hid hnn
    have HNB := Lib.hid hnb
    clear hnn hnb hown6 G6
    by_cases hlt : j < k
    · have q0 : (0 : Int) ≤ sI := by omega
      have q1 : sI ≤ 56 := by omega
      have hsc := shift_cell (n : Int) sI j k hk8 hlt hs1 hs2
      have HSC := Lib.hid hsc
      clear hsc
      go_wp2_with (at_builtin; go_loud (refine wpList_app _ rfl (.tmp 29) (.tmp 34) rfl K (.slice A5 nn c5) (m ++ beTo (u64N n) k j) rfl (hob5.alloc _) (some ⟨wr.heap.size, 0, none⟩) 1 1 [UInt8.ofNat (u64N n / 256 ^ (k - 1 - j))] rfl rfl _ (lit_bsH wr _ wr.heap.size rfl _ 1 _ (show [Value.int .u8 ((n : Int) / 2 ^ sI.toNat % 256)] = _ by rw [HSC.out]; rfl) rfl (by decide)) (nn + 1) (by rw [← HNN.out]; rfl) (by rw [← HNN.out, HNB.out]; simp; omega) (by simp; omega) ?_; intro A7 c7 w7 hown7 hgrow7 hat7))
      go_roundw
      case rel => first | exact ⟨j + 1, nn + 1, c7, A7, _, by omega, rfl, by omega, by omega, rfl, by rw [beTo_succ, ← List.append_assoc]; exact hown7, hg5.step _ hgrow7 hat7⟩ | ((repeat apply Exists.intro); exact ⟨⟨j + 1, nn + 1, c7, A7, sI - 8, by omega, rfl, by omega, by omega, rfl, by rw [beTo_succ, ← List.append_assoc]; exact hown7, hg5.step _ hgrow7 hat7⟩, rfl⟩)
      case measure => simp [intOf]; omega
    · have hj8 : j = k := by omega
      subst hj8
      have q0 : sI < 0 := by omega
      go_wp2
      go_ret
      rw [← HFIN.out] at hob5
      have e : nn = (l ++ numB n).length := hob5.bs.2
      subst e
      exact ⟨A5, c5, rfl, hob5, hg5⟩

/-- A number behind bytes. -/
theorem appendNum_any (n : Nat) (h1 : n ≤ 18446744073709551615) (K : Nat) (A : Option Addr) (n0 cap : Nat) (l : List UInt8) (w : World) (ho : Ob w K (.slice A n0 cap) l) (hK : K ≤ w.heap.size) (hsz : l.length + 9 ≤ 140737488355328) :
    Calls Try.prog 128 #[.slice A n0 cap, .int .u64 (n : Int)] w (App w K (.slice A n0 cap) (l ++ numB n)) := by
  rcases Nat.lt_or_ge 247 n with h | h
  · exact appendNum_high n h h1 K A n0 cap l w ho hK hsz
  · exact appendNum_low n h K A n0 cap l w ho hK hsz

/-- A nil writer lays nothing. -/
theorem wnum_nil (n : Int) (w : World) : Calls Try.prog 112 #[.pointer none, .int .u64 n] w fun e w' => e = .returned (.tuple #[]) ∧ w = w' := by
  go_enter Try.func112, Try.ntmps112
  go_wp2
  go_end0
  exact ⟨rfl, rfl⟩
end Go.Proofs.Ytpnhdocimjkakaa
